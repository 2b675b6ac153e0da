import PyProof.Rows.All
import Wide.All
import OpenK.AllK
import Wide.FinOn
import HandS.ForMost
import HandS.ForExc
import HandS.Evl
import HandS.Codes
import HandS.IsInst
import HandS.ExcIs
import HandS.ExcValue
import HandS.Style
import HandS.StrMore
import HandS.Walk
import HandS.RevTup
import HandS.MapJoin
import PyProof.Rows.StrRev
import KE.RegKIsAll
import PySem.Challenge.RW_beadrings_k09_mirrors
set_option Elab.async false
set_option linter.all false
set_option maxRecDepth 100000
set_option maxHeartbeats 2000000
set_option Elab.async false
set_option linter.all false
set_option maxRecDepth 100000
set_option maxHeartbeats 2000000
namespace Br
open PySem PySem.Spec PyProof.Rows L2 Evl SX

/-! ### a def of the text, and what it keeps -/
def Src (K : PySem.W.Frag) (mg : Str → Option Value) (x : Str) (st : Stmt) (ps : List Str) : Prop :=
  ∃ (f : Addr) (fd : FuncData), mg x = some (.ref f) ∧ Fun K x x st f fd ∧ Binds K fd ps []
def Has (P : Program) (w : World) (K : PySem.W.Frag) (mg : Str → Option Value) (base : Heap) (C : CXT) (k : Nat) (x : Str) (ps : List Str) (sp : Sp) : Prop :=
  ∃ (f : Addr) (fd : FuncData), mg x = some (.ref f) ∧ PySem.W.keepIn K (.ref f) = true ∧ Binds K fd ps [] ∧ FnOk P w K mg base C k f fd ps sp
section
variable {X : Cx} {C : CXT} {k : Nat} {ps : List Str} {sp : Sp} {E : XK} {x : Str} {p pos : Pos} {e : Expr} {es : List Expr} {t : TA}
theorem pe_has (D : Has X.prog X.w X.K X.mg X.base C k x ps sp) (hr : Room k X.A) (hg : Gl X x) (hx : Passes C X E) (ha : PA X (e :: es) t)
    (hdb : (x == ("__debug__" : Str)) = false := by decide) (he : starEach (e :: es) X.env = (false, eval e X.env) :: starEach es X.env := by rfl) (hpl : (backTo pos (starEach es X.env)).any (·.1) = false := by rfl) :
    PE X (.Call (.Name x p) (e :: es) [] pos) (tCall sp [] E t) := by
  obtain ⟨f, fd, gm, kp, b, F⟩ := D
  exact pe_call F hr hg gm kp b .nil hx ha hdb he hpl
theorem pe_hasS {E : L2.St → XK} (D : Has X.prog X.w X.K X.mg X.base C k x ps sp) (hr : Room k X.A) (hg : Gl X x) (hx : ∀ σ, PassesAt C X σ (E σ)) (ha : PA X (e :: es) t)
    (hdb : (x == ("__debug__" : Str)) = false := by decide) (he : starEach (e :: es) X.env = (false, eval e X.env) :: starEach es X.env := by rfl) (hpl : (backTo pos (starEach es X.env)).any (·.1) = false := by rfl) :
    PE X (.Call (.Name x p) (e :: es) [] pos) (tCallS sp E t) := by
  obtain ⟨f, fd, gm, kp, b, F⟩ := D
  exact pe_callS F hr hg gm kp b hx ha hdb he hpl
end

/-! ### texts as lists of signs -/
theorem flat_fold : ∀ (n : Nat) (l : List Nat) (acc : Array Nat), ((List.replicate n l.toArray).foldl (fun a b => a ++ b) acc).toList = acc.toList ++ (List.replicate n l).flatten
  | 0, l, acc => by simp
  | n + 1, l, acc => by
    rw [List.replicate_succ, List.replicate_succ, List.foldl_cons, flat_fold n l (acc ++ l.toArray)]
    simp
theorem mul_S {l : List Nat} {n : Nat} : Txt.mul (S l) (n : Int) = S (List.replicate n l).flatten := by
  unfold Txt.mul
  cases n with
  | zero =>
    rw [if_pos (by decide)]
    rfl
  | succ m =>
    rw [if_neg (by omega)]
    by_cases c : (((m + 1 : Nat) : Int) == 1 || (S l).length == 0) = true
    · rw [if_pos c]
      rcases Bool.or_eq_true _ _ ▸ c with c | c
      · have e : m = 0 := by
          have := eq_of_beq c
          omega
        subst e
        simp
      · have e : l = [] := by
          have := eq_of_beq c
          rw [S_len] at this
          exact List.length_eq_zero_iff.mp this
        subst e
        simp
    · rw [if_neg c]
      refine TL.ext_tl ?_
      show ((List.replicate ((m + 1 : Nat) : Int).toNat l.toArray).foldl (fun a b => a ++ b) #[]).toList = _
      rw [Int.toNat_natCast, flat_fold]
      rfl
/-- a text times a number -/
def rMulS : R2 := fun x y H Q => ∃ (l : List Nat) (n : Nat), x = .str (S l) ∧ y = .int (n : Int) ∧ n ≤ 1000 ∧ l.length ≤ 1000 ∧ Q (.str (S (List.replicate n l).flatten)) H
theorem op_mulS {X : Cx} : OpR X (binaryOp .Mult) rMulS := by
  intro pins s σ H x y v u Q I rx ry h
  obtain ⟨l, n, rfl, rfl, h1, h2, q⟩ := h
  obtain ⟨t, rfl⟩ := rx
  obtain ⟨t', rfl⟩ := ry
  have hl : (S l).length = l.length := S_len l
  have hp : l.length * n ≤ 1000 * 1000 := Nat.mul_le_mul h2 h1
  refine SB.mul ⟨?_, fun a _ => ?_, fun a _ => ?_⟩ fun t2 k => ⟨.str (S (List.replicate n l).flatten), H, I.tok _, ⟨t2, by rw [mul_S]⟩, q⟩
  · rw [decide_eq_false (by omega : ¬ (n : Int) < -(2 ^ 63 : Int)), decide_eq_false (by omega : ¬ (n : Int) ≥ 2 ^ 63)]
    rfl
  · rw [hl]
    have : (1000 : Int) ≤ (2 ^ 63 - 1) / (n : Int) := (Int.le_ediv_iff_mul_le (by omega)).mpr (by omega)
    omega
  · rw [hl, Int.toNat_natCast]
    unfold Builtin.Str.tooLong
    rw [sizeLine_eq]
    exact decide_eq_false (by omega)

/-- z[::-1] -/
def tRevS (te : TE) : TE := fun σ H Q => te σ H fun x H1 => ∃ l : List Nat, x = .str (S l) ∧ l.length ≤ 100000 ∧ Q (.str (S l.reverse)) H1
theorem rev_get (l : List Nat) : (List.range l.length).map (fun k => l.toArray.getD (l.length - 1 - k) 0) = l.reverse := by
  refine List.ext_getElem (by simp) fun i h1 h2 => ?_
  simp at h1 h2
  have h3 : l.length - 1 - i < l.length := by omega
  simp [h3]
theorem picked_S (l : List Nat) : (⟨((Builtin.Str.strSliceIndices none none (-1) (S l).length).filterMap ((S l).cps[·]?)).toArray⟩ : Str) = S l.reverse := by
  refine TL.ext_tl ?_
  show ((Builtin.Str.strSliceIndices none none (-1) (S l).length).filterMap (l.toArray[·]?)) = l.reverse
  rw [S_len, PyProof.Rows.picked_rev, PyProof.Rows.filterMap_get, List.map_map]
  · exact rev_get l
  · intro i hi
    obtain ⟨k, hk, rfl⟩ := List.mem_map.mp hi
    have := List.mem_range.mp hk
    show l.length - 1 - k < l.toArray.size
    rw [List.size_toArray]
    omega
theorem pe_revS {X : Cx} {e : Expr} {te : TE} {k : Nat} {p1 p2 p3 pos : Pos} (he : PE X e te) : PE X (.Subscript e (.Slice none none (some (.UnaryOp .USub (.Constant (.int 1) k p1) p2)) p3) pos) (tRevS te) := by
  constructor
  intro pins s σ H Q I h
  refine Subscript_ (thn (he.run pins s σ H _ I h) ?_)
  rintro v s1 ⟨x, H1, I1, r1, l, rfl, hl, q⟩
  obtain ⟨t, rfl⟩ := r1
  have hst : PO X (some (.UnaryOp .USub (.Constant (.int 1) k p1) p2)) (tPart (tUn (rU fun i => .int (-i)) (tC (.int 1)))) := po_some (pe_un un_neg pe_int)
  refine wpAny_Slice (thn (po_none.run pins s1 σ H1 (fun o G => o = none ∧ G = H1) I1 ⟨rfl, rfl⟩) ?_)
  rintro vl s2 ⟨_, _, I2, pl, rfl, rfl⟩
  refine thn (po_none.run pins s2 σ _ (fun o G => o = none ∧ G = _) I2 ⟨rfl, rfl⟩) ?_
  rintro vu s3 ⟨_, _, I3, pu, rfl, rfl⟩
  refine thn (hst.run pins s3 σ _ (fun o G => o = some (-1) ∧ G = _) I3 ⟨1, rfl, -1, rfl, rfl, rfl⟩) ?_
  rintro vs s4 ⟨_, _, I4, pz, rfl, rfl⟩
  obtain ⟨a1, rfl, e1⟩ := IsPart.raw pl
  obtain ⟨a2, rfl, e2⟩ := IsPart.raw pu
  obtain ⟨a3, rfl, e3⟩ := IsPart.raw pz
  have I5 : Inv X pins σ _ { s4 with heap := s4.heap.push { cls := .type "slice", data := .fields #[partValue a1, partValue a2, partValue a3] } } := I4.kept (t' := s4.toks) fun b ob z => Heap.get?_push_of_some _ z
  refine tail_any (ops := [.str (S l) t, .ref s4.heap.objs.size]) (typeIs_str _ _ _) (F.slot_str_getitem.lookup) ?_ (by with_unfolding_all rfl)
  refine wpAny_getItem_str_slice (l := a1) (u := a2) (st := a3) ⟨_, Heap.get?_push_size _ rfl, rfl, rfl⟩ (by rw [e3]; rfl) ?_
  unfold sliceMade slicePicked
  rw [e1, e2, e3]
  rw [if_neg (by simp)]
  show Made.post (Made.str ⟨((Builtin.Str.strSliceIndices none none (-1) (S l).length).filterMap ((S l).cps[·]?)).toArray⟩) _ _
  rw [picked_S]
  exact ⟨by rw [S_len, List.length_reverse, sizeLine_eq]; omega, .str _, _, I5.tok _, ⟨_, rfl⟩, q⟩

/-! ### repr of plain values -/
def reprV : V → Str
  | .non => "None"
  | .bl b => if b then "True" else "False"
  | .int i => toString i
  | .str z => reprText z
  | _ => ""
def plainR : V → Prop
  | .non => True
  | .bl _ => True
  | .int i => i.natAbs.log2 < 1920
  | .str z => (reprText z).length ≤ sizeLine
  | _ => False
def rRepr : List V → Hp → VK → Prop := fun xs H Q => ∃ v, xs = [v] ∧ plainR v ∧ Q (.str (reprV v)) H
theorem call_repr {X : Cx} : CallR X (.builtin "repr") rRepr := by
  intro pins s σ H xs us Q I r h
  obtain ⟨v, rfl, hv, q⟩ := h
  obtain ⟨u, rfl, ru⟩ := vals1 r
  cases v with
  | non =>
    cases ru
    exact PySem.P.repr_of_none ⟨.str _, H, I.tok _, ⟨_, rfl⟩, q⟩
  | bl b =>
    cases ru
    exact PySem.P.repr_of_bool ⟨.str _, H, I.tok _, ⟨_, rfl⟩, q⟩
  | int i =>
    obtain ⟨t, rfl⟩ := ru
    exact PySem.P.repr_of_int hv ⟨.str _, H, I.tok _, ⟨_, rfl⟩, q⟩
  | str z =>
    obtain ⟨t, rfl⟩ := ru
    exact PySem.P.repr_of_str ⟨.str _, H, I.tok _, ⟨_, rfl⟩, q⟩ hv
  | byt _ => exact hv.elim
  | flt _ => exact hv.elim
  | ref _ => exact hv.elim
  | ty _ => exact hv.elim

/-! ### the least of a list of texts -/
theorem best_lt (val : Nat → List Nat) : ∀ n, argBest (fun i j => decide (val i < val j)) n ≤ n ∧ ∀ j, j ≤ n → ¬ val j < val (argBest (fun i j => decide (val i < val j)) n)
  | 0 => ⟨Nat.le_refl _, fun j hj => by
    have e : j = 0 := by omega
    subst e
    exact List.lt_irrefl _⟩
  | n + 1 => by
    obtain ⟨h1, h2⟩ := best_lt val n
    unfold argBest
    by_cases c : val (n + 1) < val (argBest (fun i j => decide (val i < val j)) n)
    · rw [if_pos (decide_eq_true c)]
      refine ⟨Nat.le_refl _, fun j hj => ?_⟩
      by_cases hn : j ≤ n
      · exact fun z => h2 j hn (List.lt_trans z c)
      · have e : j = n + 1 := by omega
        subst e
        exact List.lt_irrefl _
    · rw [if_neg (by rw [decide_eq_false c]; decide)]
      refine ⟨by omega, fun j hj => ?_⟩
      by_cases hn : j ≤ n
      · exact h2 j hn
      · have e : j = n + 1 := by omega
        subst e
        exact c
def rMinS (K : PySem.W.Frag) : List V → Hp → VK → Prop := fun vs H Q => ∃ (a : Addr) (ys : List (List Nat)), vs = [.ref a] ∧ SqL K H a (ys.map fun l => V.str (S l)) ∧ ys ≠ [] ∧
  ∀ m, m ∈ ys → (∀ y ∈ ys, ¬ y < m) → Q (.str (S m)) H
theorem cr_minS {X : Cx} (hc : X.calm = true) : CallR X (.builtin "min") (rMinS X.K) := by
  intro pins s σ H vs us Q I r h
  obtain ⟨a, ys, rfl, hs, hne, q⟩ := h
  obtain ⟨its, rv, hl, _⟩ := I.list hs
  rw [Vals.ref1 r]
  have hlen : its.length = ys.length := by rw [← rv.length, List.length_map]
  have hpos : 0 < ys.length := List.length_pos_iff.mpr hne
  have hlI := hl.isList
  have hlt : a < s.heap.objs.size := by
    obtain ⟨_, e, _⟩ := hlI
    exact Heap.lt_size e
  have at_ : ∀ (i : Nat) (v : Value), its.toArray[i]? = some v → ∃ t, v = .str (S (ys.getD i [])) t := by
    intro i v hv
    have hv' : its[i]? = some v := by simpa using hv
    have hi : i < ys.length := by
      rw [← hlen]
      exact (List.getElem?_eq_some_iff.mp hv').1
    obtain ⟨u, e1, e2⟩ := rv.get (i := i) (x := .str (S ys[i])) (by simp [hi])
    rw [hv'] at e1
    cases e1
    obtain ⟨t, rfl⟩ := e2
    exact ⟨t, by simp [hi]⟩
  refine call_min_walk (wpAny_pyIter_list hlI ?_)
  refine ⟨_, _, _, _, _, _, (fun i j => decide (ys.getD i [] < ys.getD j [])), rfl, Walks.list (A := X.A.in1) (I.ok.hd hc) s.heap.objs.size a (Nat.ne_of_lt hlt) its.toArray, ⟨⟨_, Heap.get?_push_size _ rfl, rfl, rfl⟩, hlI.push _⟩, ?_, by simpa [hlen] using hpos, ?_, ?_⟩
  · intro b hb
    show b < (s.heap.push _).objs.size
    rw [Heap.size_push]
    rcases List.mem_cons.mp hb with rfl | hb
    · exact Nat.lt_succ_self _
    · rcases List.mem_cons.mp hb with rfl | hb
      · exact Nat.lt_succ_of_lt hlt
      · cases hb
  · intro i j vi vj s2 Q2 E2 hi hj hq
    obtain ⟨t, rfl⟩ := at_ i vi hi
    obtain ⟨u, rfl⟩ := at_ j vj hj
    exact richCompare_gives (op := .Lt) (typeIs_str s2 _ t) (typeIs_str s2 _ u) F.slot_str_lt F.entry_str_lt (F.args_str_lt_2 _ _) (gives_str_lt _ _ t u) (fun x => nomatch x) hq
  · intro v h' tk hv hk
    obtain ⟨b1, b2⟩ := best_lt (fun i => ys.getD i []) (its.toArray.size - 1)
    have hsz : its.toArray.size = ys.length := by rw [List.size_toArray, hlen]
    obtain ⟨t, rfl⟩ := at_ _ v hv
    refine ⟨.str _, H, I.kept (t' := tk) fun b o e => hk b o (fun z => ?_) (Heap.get?_push_of_some _ e), ⟨t, rfl⟩, q _ ?_ fun y hy => ?_⟩
    · have z' : b = s.heap.objs.size := by simpa using z
      subst z'
      exact absurd (Heap.lt_size e) (Nat.lt_irrefl _)
    · have : argBest (fun i j => decide (ys.getD i [] < ys.getD j [])) (its.toArray.size - 1) < ys.length := by omega
      rw [List.getD_eq_getElem?_getD, List.getElem?_eq_getElem this]
      exact List.getElem_mem _
    · obtain ⟨j, hj, rfl⟩ := List.mem_iff_getElem.mp hy
      have e := b2 j (by omega)
      rw [List.getD_eq_getElem?_getD, List.getElem?_eq_getElem hj] at e
      exact e
end Br
namespace Br
open PySem PySem.Spec PyProof.Rows L2 Evl SX

/-! ### an exception that was caught and is held by a name behind the suite -/
def exH (cls : Value) (d : Option Addr) (a : Addr) : HO := .ext fun h => ∃ (oe : Obj) (vs : Array Value), h.get? a = some oe ∧ Zc cls d oe ∧ oe.data = .fields vs
section
variable {X : Cx} {pins : List (Addr × Obj)} {σ : L2.St} {H : Hp} {s : Shared}
/-- an object that nobody tracked, younger than the entry, is tracked from now on -/
theorem track_one {a : Addr} {o : HO} (I : Inv X pins σ H s) (na : H a = none) (young : X.s_0.heap.get? a = none) (nL : a ≠ X.env.locals) (np : ∀ p ∈ X.pn ++ pins, p.1 ≠ a) (nc : ∀ v, ¬ s.heap.IsCell a v)
    (new : ObjOk X.prog X.w (upd H a o) s.heap a o) : Inv X pins σ (upd H a o) s := by
  have far : ∀ b ob, X.s_0.heap.get? b = some ob → b ≠ a := fun b ob e z => by
    rw [z, young] at e
    cases e
  refine ⟨I.ok, I.os, I.bare, ⟨I.base.keep, I.base.slot, fun b ob e n hx => ?_, I.base.there, fun b xs e => ?_, fun b ob u e => ?_, fun b q e => ?_⟩, I.loc, I.cell, ?_, fun x c e => ?_, fun p hp => ?_, I.hok.laidN (fun _ _ z => z) na new, I.len⟩
  · rw [upd_ne (far b ob e)]
    exact I.base.free b ob e n hx
  · rw [upd_ne (ne_of_none (I.base.tups b xs e) na)]
    exact I.base.tups b xs e
  · rw [upd_ne (ne_of_none (I.base.frzs b ob u e) na)]
    exact I.base.frzs b ob u e
  · obtain ⟨m, z⟩ := I.base.tbls b q e
    exact ⟨m, by rw [upd_ne (ne_of_none z na)]; exact z⟩
  · rw [upd_ne (Ne.symm nL)]
    exact I.free
  · have hca : c ≠ a := fun z => by
      obtain ⟨v, hv⟩ := I.cell x c e
      rw [z] at hv
      exact nc v hv
    rw [upd_ne hca]
    exact I.freeC x c e
  · obtain ⟨e, n, r⟩ := I.pin p hp
    exact ⟨e, by rw [upd_ne (np p hp)]; exact n, r⟩
end

/-- what «except x as n: m = n» wishes of an exception of the body that it names: slot i is n's, slot j is m's -/
def wHeld (K : PySem.W.Frag) (c : Value) (i j : Nat) (D : Ends) : WX := fun cls d σ H =>
  PySem.W.exmOne K cls c = some true ∧ ∀ a, H a = none → D.nx (((σ.set i (some (.ref a))).set j (some (.ref a))).set i none) (upd H a (exH cls d a))
section
variable {X : Cx} {x n m : Str} {c : Value} {i j : Nat} {body : List Stmt} {np mp p2 p3 pos pos' : Pos} {tb : WX → TS}
theorem ps_try_held (stk : X.stack = X.env :: X.outer) (frm : X.env.frame = some X.env.locals) (hex : X.ex = []) (hN : X.N.Nodup) (hi : X.N[i]? = some n) (hj : X.N[j]? = some m) (hln : X.env.kindOf n = some .local) (hlm : X.env.kindOf m = some .local) (hij : i < X.N.length)
    (nam : Names X x c)
    (hb : ∀ (W : WX) (q : List (Addr × Obj)) (xe : Value → Shared → Prop), Takes (X.tr q xe) W → PassesOwn (model X.prog X.w) X.A X.env xe → PSs (X.tr q xe) body (tb W)) (hd : (n == ("__debug__" : Str)) = false := by decide) (hcd : (n == ("__classdict__" : Str)) = false := by decide) :
    PS X (.Try body [.ExceptHandler (some (.Name x np)) (some n) [.Assign [.Name m mp] (.Name n p2) p3] pos'] [] [] pos) (fun D σ H => tb (wHeld X.K c i j D) D σ H) := by
  constructor
  intro pins s σ H D I h
  have good := I.ok
  have around : X.A.frames = some (X.env :: X.outer) := good.frames.trans (congrArg some stk)
  have here : Loc X.env.scope n := Or.inl hln
  refine wpAny_Try_except ?_
  let clause : List ExceptHandler := [.ExceptHandler (some (.Name x np)) (some n) [.Assign [.Name m mp] (.Name n p2) p3] pos']
  let air : Value → Shared → Prop := fun e s₁ => wpAny (model X.prog X.w) X.A (noteFrame e X.env) (fun _ s₂ => wpAny (model X.prog X.w) X.A (setFlight e none) (fun _ s₃ => wpAny (model X.prog X.w) X.A (handleBy e X.env clause) (SP X pins D) X.xe s₃) X.xe s₂) X.xe s₁
  have caught : Takes (X.tr (X.pn ++ pins) air) (wHeld X.K c i j D) := by
    rintro u s' ⟨a, B, sI, pins', σ', H', cls, d, rfl, J0, nb, up, sky, na, os, ag, hit, go⟩
    have J : Inv X pins σ' H' sI := J0.ofTry good
    have sky1 : Sky B (X.env :: X.outer) a (Zc cls d) X.env.locals s'.heap := by
      rw [← stk]
      exact sky
    show wpAny (model X.prog X.w) X.A (noteFrame (.ref a) X.env) _ _ _
    refine Sky.land Zc.steady around frm sky1 fun h3 fl3 up3 => ?_
    have J3 : Inv X pins σ' H' { s' with heap := h3 } := J.landed nb fl3.1 (up.trans up3) os ag
    obtain ⟨o3, v3, g3, z3, d3⟩ := fl3.there
    have off : a ∉ frs (X.env :: X.outer) := fun hm => by
      obtain ⟨_, o', e', hnf⟩ := fl3.2.2.1.mem hm
      rw [g3] at e'
      cases e'
      exact hnf _ d3
    have nL : a ≠ X.env.locals := fun z => off (List.mem_filterMap.mpr ⟨X.env, List.mem_cons_self, by rw [frm, z]⟩)
    have nF : a ∉ X.fs := fun hm => by
      obtain ⟨en, hen, q⟩ := List.mem_filterMap.mp hm
      exact off (List.mem_filterMap.mpr ⟨en, List.mem_cons_of_mem _ hen, q⟩)
    -- nothing stood there before
    have noI : sI.heap.get? a = none := by
      cases e : sI.heap.get? a with
      | none => rfl
      | some o =>
        have z := nb a o e (by rw [stk]; exact off)
        rw [fl3.2.1] at z
        cases z
    have young : X.s_0.heap.get? a = none := by
      cases e : X.s_0.heap.get? a with
      | none => rfl
      | some o =>
        obtain ⟨o', z⟩ := J.base.there a o e (by rw [hex]; exact fun q => nomatch q)
        rw [noI] at z
        cases z
    have pinsOff : ∀ p ∈ X.pn ++ pins, p.1 ≠ a := fun p hp z => by
      have q := (J.pin p hp).1
      rw [z, noI] at q
      cases q
    have S3 := J3.suite g3 d3 na nL nF
    refine wpAny_handleBy_cons (codeAny_handlers_test ?_) (by intro q; cases q)
    have tells : PySem.W.Looks (model X.prog X.w) h3 (typeOf (.ref a)) cls := fun A Q E s k q => wpAny_typeOf_ref (k _ _ g3) (by rw [z3.1]; exact q)
    have named := PySem.W.exm_one (M := model X.prog X.w) J3.kIn tells hit
    have look : ∀ {Q : Value → Shared → Prop} {E : Value → Shared → Prop}, Q c { s' with heap := h3 } → wpAny (model X.prog X.w) (X.A.mark (some (.ref a))) (eval (.Name x np) X.env) Q E { s' with heap := h3 } := fun {Q E} q => by
      obtain ⟨hg, hdbg, hm | ⟨hm, hv, hnn⟩⟩ := nam
      · exact ld_glob (X := X.suite a ((a, o3) :: (X.pn ++ pins))) S3 hg hm q hdbg
      · exact ld_blt (X := X.suite a ((a, o3) :: (X.pn ++ pins))) S3 hg hm hv q hnn hdbg
    refine look (named.here ?_)
    refine codeAny_handlers_suite_as ?_
    refine HandSPX.lands_againZ fl3 fun h4 fl4 up4 => ?_
    have J4 : Inv X pins σ' H' { s' with heap := h4 } := J.landed nb fl4.1 ((up.trans up3).trans up4) os ag
    obtain ⟨o4, v4, g4, z4, d4⟩ := fl4.there
    have S4 := J4.suite g4 d4 na nL nF
    refine store_ok (X := X.suite a ((a, o4) :: (X.pn ++ pins))) (v := .ref a) S4 hN hi here rfl (fun s5 S5 => ?_) (.inr hln)
    have one : PSs (X.suite a ((a, o4) :: (X.pn ++ pins))) [.Assign [.Name m mp] (.Name n p2) p3] (tAsg (tVar i) (gName j)) :=
      pss_one (ps_set (X := X.suite a ((a, o4) :: (X.pn ++ pins))) (i := j) hN hj (Or.inl hlm) (pe_var (i := i) hi (Or.inl hln) hd hcd) (by rfl) (Or.inr hlm))
    have hσ : (σ'.set i (some (V.ref a)))[i]? = some (some (V.ref a)) := by
      have : i < σ'.length := by
        rw [J.len]
        exact hij
      simp [this]
    refine wpAny_mono (one.run [] s5 _ H' { D with nx := fun σ6 H6 => σ6 = (σ'.set i (some (.ref a))).set j (some (.ref a)) ∧ H6 = H', rt := fun _ _ => False, bk := fun _ _ => False, ct := fun _ _ => False } S5 ⟨.ref a, hσ, rfl, rfl⟩) (fun f s6 hsp => ?_) (fun _ _ z => False.elim z)
    cases f with
    | next =>
      obtain ⟨σ6, H6, S6, rfl, rfl⟩ := hsp
      have g6 : s6.heap.get? a = some o4 := (S6.pin (a, o4) (List.mem_append_left _ List.mem_cons_self)).1
      have J6 : Inv X pins _ H6 s6 := S6.unsuite good
      have noCell : ∀ v, ¬ s6.heap.IsCell a v := fun v hv => by
        obtain ⟨oc, e1, e2⟩ := hv
        rw [g6] at e1
        cases e1
        rw [d4] at e2
        cases e2
      have ob : ObjOk X.prog X.w (upd H6 a (exH cls d a)) s6.heap a (exH cls d a) := ⟨⟨o4, v4, g6, z4, d4⟩, ⟨o4, g6⟩, fun _ _ ⟨o, w, q, r⟩ k => ⟨o, w, k o q, r⟩⟩
      have J7 := track_one J6 na young nL pinsOff noCell ob
      exact gone_ok J7 hN hi hln fun s7 J8 => ⟨_, _, J8, go a na⟩
    | brk =>
      obtain ⟨_, _, _, z⟩ := hsp
      exact z.elim
    | cont =>
      obtain ⟨_, _, _, z⟩ := hsp
      exact z.elim
    | ret u =>
      obtain ⟨_, _, _, _, _, z⟩ := hsp
      exact z.elim
  refine wpAny_mono ((hb (wHeld X.K c i j D) (X.pn ++ pins) air caught PassesOwn.looking).run [] s σ H D (I.toTry _) h) (fun f s1 hsp => ?_) (fun e s1 he => he)
  cases f with
  | next =>
    obtain ⟨σ', H', J', q⟩ := hsp
    exact wpAny_execs_nil ⟨σ', H', J'.ofTry good, q⟩
  | brk =>
    obtain ⟨σ', H', J', q⟩ := hsp
    exact ⟨σ', H', J'.ofTry good, q⟩
  | cont =>
    obtain ⟨σ', H', J', q⟩ := hsp
    exact ⟨σ', H', J'.ofTry good, q⟩
  | ret u =>
    obtain ⟨v, σ', H', J', r, q⟩ := hsp
    exact ⟨v, σ', H', J'.ofTry good, r, q⟩
end

/-- isinstance(e, c), e an exception that is held -/
def rIsX (K : PySem.W.Frag) (D : Addr) : List V → Hp → VK → Prop := fun xs H Q => ∃ (a : Addr) (c : V) (u : Value) (b : Bool), xs = [.ref a, c] ∧ H a = some (exH (.ref D) none a) ∧ ClsV c u ∧ PySem.W.kitOne K (.ref D) u = some b ∧ Q (.bl b) H
theorem call_isX {X : Cx} {D : Addr} (C : ExcC X.K D) : CallR X (.builtin "isinstance") (rIsX X.K D) := by
  intro pins s σ H xs us Q I r h
  obtain ⟨a, c, u, b, rfl, ha, hc, e, q⟩ := h
  obtain ⟨u1, u2, rfl, r1, r2⟩ := vals2 r
  have e2 := hc.eq r2
  subst e2
  cases r1
  obtain ⟨⟨oe, vs, g, z, dv⟩, _, _⟩ := I.hok a _ ha
  have J : PySem.W.InstAt s.heap a oe D none := by
    obtain ⟨oc, od, oda, osl⟩ := oe
    obtain ⟨h1, h2⟩ := z
    dsimp only at h1 h2 dv
    subst h1 h2 dv
    exact ⟨g, rfl, rfl, trivial⟩
  exact PySem.W.kia_one (PySem.W.handS_kitx_exc C.hg C.hk C.hs C.hd C.ha C.hn C.ht C.hm) I.kIn J e (fun z => nomatch z) fun tk => ⟨.bl b, H, I.tok tk, rfl, q⟩
end Br
namespace Br
open PySem PySem.Spec PyProof.Rows L2 Evl SX

/-! ### evaluation: texts, calls, kinds of things -/
section
variable {K : PySem.W.Frag} {σ : L2.St} {H H' : Hp} {ta tb tc te : TE} {tl th : TO} {x y z v : V} {r r' : R2}
theorem tl_S (l : List Nat) : (S l).cps.toList = l := rfl
theorem sz_txt {l : List Nat} (h : l.length ≤ 100000) : (S l).length ≤ sizeLine := by
  rw [S_len]
  exact sz_of h
/-- a module's constant -/
theorem pe_globC {X : Cx} {x : Str} {v : V} {pos : Pos} (hg : Gl X x) (h : ∃ u, X.mg x = some u ∧ RelV v u) (hd : (x == ("__debug__" : Str)) = false := by decide) : PE X (.Name x pos) (tC v) := by
  obtain ⟨u, hm, hv⟩ := h
  exact pe_glob hg hm hv hd
theorem ev_cS {z : Str} {l : List Nat} (e : z = S l) : Ev (tC (.str z)) σ H (.str (S l)) := by
  rw [e]
  exact ev_c
/-- isinstance, the written part named -/
theorem call_isiK' {X : Cx} {K : PySem.W.Frag} (h : X.K = K) : CallR X (.builtin "isinstance") (rIsi K) := by
  rw [← h]
  exact call_isi
def rCatS : R2 := fun x y H Q => ∃ i j, x = .str i ∧ y = .str j ∧ i.length + j.length ≤ sizeLine ∧ Q (.str (i ++ j)) H
theorem rv_catS {a b : List Nat} (h : a.length + b.length ≤ 100000) : RV rCatS (.str (S a)) (.str (S b)) H (.str (S (a ++ b))) := fun H1 _ Q q =>
  ⟨S a, S b, rfl, rfl, by rw [S_len, S_len]; exact sz_of h, by rw [S_cat]; exact q H1 (Ex.refl H1)⟩
theorem rv_mulS {l : List Nat} {n : Nat} {i : Int} (e : i = (n : Int)) (h1 : n ≤ 1000) (h2 : l.length ≤ 1000) : RV rMulS (.str (S l)) (.int i) H (.str (S (List.replicate n l).flatten)) := fun H1 _ Q q =>
  ⟨l, n, rfl, by rw [e], h1, h2, q H1 (Ex.refl H1)⟩
def rLtS : R2 := fun x y H Q => ∃ i j, x = .str i ∧ y = .str j ∧ Q (.bl (decide (i.cps.toList < j.cps.toList))) H
theorem rv_ltS {a b : List Nat} : RV rLtS (.str (S a)) (.str (S b)) H (.bl (decide (a < b))) := fun H1 _ _ q => ⟨S a, S b, rfl, rfl, q H1 (Ex.refl H1)⟩
def rLeS : R2 := fun x y H Q => ∃ i j, x = .str i ∧ y = .str j ∧ Q (.bl (!decide (j.cps.toList < i.cps.toList))) H
theorem rv_leS {a b : List Nat} : RV rLeS (.str (S a)) (.str (S b)) H (.bl (!decide (b < a))) := fun H1 _ _ q => ⟨S a, S b, rfl, rfl, q H1 (Ex.refl H1)⟩
theorem str_dec {a b : List Nat} : decide (V.str (S a) = V.str (S b)) = decide (a = b) := by
  by_cases e : a = b
  · rw [e, decide_eq_true rfl, decide_eq_true rfl]
  · rw [decide_eq_false e, decide_eq_false fun q => e (S_inj (V.str.inj q))]
theorem int_dec {a b : Int} : decide (V.int a = V.int b) = decide (a = b) := by
  by_cases e : a = b
  · rw [e, decide_eq_true rfl, decide_eq_true rfl]
  · rw [decide_eq_false e, decide_eq_false fun q => e (V.int.inj q)]
theorem rv_eqS {a b : List Nat} : RV rEq (.str (S a)) (.str (S b)) H (.bl (decide (a = b))) := by
  rw [← str_dec]
  exact rv_eq rfl
theorem rv_neS {a b : List Nat} : RV rNe (.str (S a)) (.str (S b)) H (.bl (!decide (a = b))) := by
  rw [← str_dec]
  exact rv_ne rfl
theorem rv_eqI {a b : Int} : RV rEq (.int a) (.int b) H (.bl (decide (a = b))) := by
  rw [← int_dec]
  exact rv_eq rfl
theorem rv_neI {a b : Int} : RV rNe (.int a) (.int b) H (.bl (!decide (a = b))) := by
  rw [← int_dec]
  exact rv_ne rfl
def rInSg : R2 := fun x y H Q => ∃ (c : Nat) (z : Str), x = .str ⟨#[c]⟩ ∧ y = .str z ∧ Q (.bl (decide (c ∈ z.cps.toList))) H
theorem rv_inSg {c : Nat} {z : Str} : RV rInSg (.str ⟨#[c]⟩) (.str z) H (.bl (decide (c ∈ z.cps.toList))) := fun H1 _ _ q => ⟨c, z, rfl, rfl, q H1 (Ex.refl H1)⟩
theorem rv_ixW {l : List Nat} {i : Int} {c : Nat} (h : l.length ≤ 100000) (ha : atI l i = some c) : RV rIxS (.str (S l)) (.int i) H (.str (S [c])) := rv_ixS (w := S l) (by rw [S_len]; exact h) ha
theorem atI_get {α : Type} {l : List α} {i : Int} (h0 : 0 ≤ i) (h1 : i < l.length) : atI l i = some (l[i.toNat]'(by omega)) := by
  unfold atI ixN
  rw [if_pos h0, if_pos h1]
  show l[i.toNat]? = _
  rw [List.getElem?_eq_getElem]
/-! slices of texts -/
theorem cut_from {l : List Nat} {i : Int} (h : 0 ≤ i) : cutS (S l) (some i) none = S (l.drop i.toNat) := by
  obtain ⟨n, rfl⟩ : ∃ n : Nat, i = n := ⟨i.toNat, by omega⟩
  unfold cutS
  rw [HT.sIx_nat, HT.sIx_none, S_len, Int.toNat_natCast, tl_S]
  refine congrArg S ?_
  by_cases hn : n ≤ l.length
  · rw [Nat.min_eq_left hn, List.take_of_length_le (by rw [List.length_drop]; omega)]
  · rw [Nat.min_eq_right (by omega), List.drop_of_length_le (Nat.le_refl _), List.drop_of_length_le (by omega)]
    simp
theorem cut_to {l : List Nat} {i : Int} (h : 0 ≤ i) : cutS (S l) none (some i) = S (l.take i.toNat) := by
  obtain ⟨n, rfl⟩ : ∃ n : Nat, i = n := ⟨i.toNat, by omega⟩
  unfold cutS
  rw [HT.sIx_nat, HT.sIx_none, S_len, Int.toNat_natCast, tl_S]
  refine congrArg S ?_
  rw [List.drop_zero, Nat.sub_zero]
  by_cases hn : n ≤ l.length
  · rw [Nat.min_eq_left hn]
  · rw [Nat.min_eq_right (by omega), List.take_of_length_le (Nat.le_refl _), List.take_of_length_le (by omega)]
theorem cut_mid {l : List Nat} {i j : Int} (h0 : 0 ≤ i) (hj : i ≤ j) (hl : j ≤ l.length) : cutS (S l) (some i) (some j) = S ((l.drop i.toNat).take (j - i).toNat) := by
  obtain ⟨n, rfl⟩ : ∃ n : Nat, i = n := ⟨i.toNat, by omega⟩
  obtain ⟨m, rfl⟩ : ∃ m : Nat, j = m := ⟨j.toNat, by omega⟩
  unfold cutS
  rw [HT.sIx_nat, HT.sIx_nat, S_len, tl_S, Nat.min_eq_left (by omega), Nat.min_eq_left (by omega), Int.toNat_natCast]
  refine congrArg S ?_
  rw [show ((m : Int) - (n : Int)).toNat = m - n by omega]
theorem cut_neg {l : List Nat} : cutS (S l) none (some (-1)) = S (l.take (l.length - 1)) := by
  unfold cutS
  rw [HT.sIx_none, S_len, tl_S, List.drop_zero, Nat.sub_zero]
  refine congrArg S ?_
  show l.take (if (-1 : Int) < 0 then ((-1 : Int) + (l.length : Int)).toNat else min (-1 : Int).toNat l.length) = _
  rw [if_pos (by decide), show ((-1 : Int) + (l.length : Int)).toNat = l.length - 1 by omega]
theorem ev_cutS {l : List Nat} {lo hi : Option Int} {w : List Nat} (h : Ev te σ H (.str (S l))) (hl : l.length ≤ 100000) (h1 : EvO tl σ H lo) (h2 : EvO th σ H hi) (e : cutS (S l) lo hi = S w) : Ev (tSl rSlS te tl th) σ H (.str (S w)) := fun H1 a Q q =>
  h H1 a _ fun H2 e2 => h1 H2 (a.trans e2) _ fun H3 e3 => h2 H3 ((a.trans e2).trans e3) _ fun H4 e4 => ⟨S l, rfl, sz_txt hl, by rw [e]; exact q H4 ((e2.trans e3).trans e4)⟩
theorem ev_from {l : List Nat} {i : Int} (h : Ev te σ H (.str (S l))) (hl : l.length ≤ 100000) (h1 : Ev ta σ H (.int i)) (hi : 0 ≤ i) : Ev (tSl rSlS te (tPart ta) tNoPart) σ H (.str (S (l.drop i.toNat))) := ev_cutS h hl (eo_some h1) eo_none (cut_from hi)
theorem ev_to {l : List Nat} {i : Int} (h : Ev te σ H (.str (S l))) (hl : l.length ≤ 100000) (h1 : Ev ta σ H (.int i)) (hi : 0 ≤ i) : Ev (tSl rSlS te tNoPart (tPart ta)) σ H (.str (S (l.take i.toNat))) := ev_cutS h hl eo_none (eo_some h1) (cut_to hi)
theorem ev_mid {l : List Nat} {i j : Int} (h : Ev te σ H (.str (S l))) (hl : l.length ≤ 100000) (h1 : Ev ta σ H (.int i)) (h2 : Ev tb σ H (.int j)) (hi : 0 ≤ i) (hj : i ≤ j) (hb : j ≤ l.length) :
    Ev (tSl rSlS te (tPart ta) (tPart tb)) σ H (.str (S ((l.drop i.toNat).take (j - i).toNat))) := ev_cutS h hl (eo_some h1) (eo_some h2) (cut_mid hi hj hb)
theorem ev_revS {l : List Nat} (h : Ev te σ H (.str (S l))) (hl : l.length ≤ 100000) : Ev (tRevS te) σ H (.str (S l.reverse)) := fun H1 a _ q => h H1 a _ fun H2 e2 => ⟨l, rfl, hl, q H2 e2⟩
/-! len, repr, all, join -/
def rLenT : List V → Hp → VK → Prop := fun xs H Q => ∃ z, xs = [.str z] ∧ z.length ≤ sizeLine ∧ Q (.int z.length) H
theorem ev_lenS {l : List Nat} (h : Ev te σ H (.str (S l))) (hl : l.length ≤ 100000) : Ev (tCB rLenT (tCons te tNil)) σ H (.int (l.length : Int)) := ev_cb (ea_cons h ea_nil) fun H1 _ _ q =>
  ⟨S l, rfl, sz_txt hl, by rw [S_len]; exact q H1 (Ex.refl H1)⟩
theorem ev_repr (h : Ev te σ H v) (hv : plainR v) : Ev (tCB rRepr (tCons te tNil)) σ H (.str (reprV v)) := ev_cb (ea_cons h ea_nil) fun H1 _ _ q => ⟨v, rfl, hv, q H1 (Ex.refl H1)⟩
theorem ev_all {bs : List Bool} (h : EvL te σ H (bs.map V.bl)) : Ev (tCB (rAll K) (tCons te tNil)) σ H (.bl (bs.all id)) := fun H1 e _ q =>
  h H1 e _ fun p H2 _ e2 hp => ⟨p, bs, rfl, sq_of hp, q H2 e2⟩
theorem joinE : ∀ ys : List (List Nat), TL.joinL [] ys = ys.flatten
  | [] => rfl
  | [p] => by
    show p = [p].flatten
    simp
  | p :: q :: r => by
    show p ++ ([] ++ TL.joinL [] (q :: r)) = _
    rw [joinE (q :: r)]
    simp
def rJoin (K : PySem.W.Frag) : V → List V → Hp → VK → Prop := fun x xs H Q => ∃ a p, ∃ ys : List Str, x = .str a ∧ xs = [.ref p] ∧ (SqL K H p (ys.map V.str) ∨ SqT K H p (ys.map V.str)) ∧ (ys.map (·.length)).sum + ys.length * a.length ≤ 16777216 ∧ Q (.str (Txt.join a ys)) H
theorem ev_joinE {ys : List (List Nat)} (h0 : Ev ta σ H (.str (S []))) (h : EvL te σ H (ys.map fun l => V.str (S l))) (hl : (ys.map (·.length)).sum ≤ 100000) : Ev (tM1 (rJoin K) ta te) σ H (.str (S ys.flatten)) := fun H1 e _ q =>
  h0 H1 e _ fun H2 e2 => ⟨⟨_, rfl⟩, h H2 (e.trans e2) _ fun p H3 _ e3 hp => ⟨S [], p, ys.map S, rfl, rfl, .inl (sq_of (by rw [hp, List.map_map]; rfl)), by
    rw [lens]
    show _ + _ * 0 ≤ _
    omega, by
    rw [join_S, joinE]
    exact q H3 (e2.trans e3)⟩⟩
/-! two comparisons in one -/
theorem ev_chain {a b : Bool} (h1 : Ev ta σ H x) (h2 : Ev tb σ H y) (h3 : RV r x y H (.bl a)) (h4 : a = true → Ev tc σ H z) (h5 : a = true → RV r' y z H (.bl b)) : Ev (tChain r r' ta tb tc) σ H (.bl (a && b)) := fun H1 e Q q =>
  h1 H1 e _ fun H2 e2 => h2 H2 (e.trans e2) _ fun H3 e3 => h3 H3 ((e.trans e2).trans e3) _ fun H4 e4 => ⟨a, rfl, by
    have e0 := ((e.trans e2).trans e3).trans e4
    cases a with
    | false =>
      show Q (.bl false) H4
      exact q H4 ((e2.trans e3).trans e4)
    | true =>
      show tc σ H4 fun w' H5 => r' y w' H5 Q
      exact h4 rfl H4 e0 _ fun H5 e5 => h5 rfl H5 (e0.trans e5) Q fun H6 e6 => q H6 ((((e2.trans e3).trans e4).trans e5).trans e6)⟩
theorem et_chain {a b : Bool} (h1 : Ev ta σ H x) (h2 : Ev tb σ H y) (h3 : RV r x y H (.bl a)) (h4 : a = true → Ev tc σ H z) (h5 : a = true → RV r' y z H (.bl b)) : EvT (tTest (tChain r r' ta tb tc)) σ H (a && b) := et_test (ev_chain h1 h2 h3 h4 h5)
/-- a list from outside, measured or read -/
theorem rv_ixI {p : Addr} {ns : List Int} {i n : Int} (h : SqL K H p (ns.map V.int)) (ha : atI ns i = some n) : RV (rIxL K) (.ref p) (.int i) H (.int n) := by
  refine rv_ixL h ?_
  unfold atI at ha ⊢
  rw [List.length_map]
  cases e : ixN ns.length i with
  | none =>
    rw [e] at ha
    cases ha
  | some j =>
    rw [e] at ha
    have ha' : ns[j]? = some n := ha
    show (ns.map V.int)[j]? = _
    rw [List.getElem?_map, ha']
    rfl
theorem ev_lenI {p : Addr} {ns : List Int} (h : Ev ta σ H (.ref p)) (hs : SqL K H p (ns.map V.int)) : Ev (tCB (rLenS K) (tCons ta tNil)) σ H (.int (ns.length : Int)) := by
  have e := ev_len h hs
  rw [List.length_map] at e
  exact e
/-- an item of a list that is written on the way -/
theorem ev_pick {xs : List V} {i : Int} (ha : EvL ta σ H xs) (hb : Ev tb σ H (.int i)) (hv : atI xs i = some v) : Ev (tOp (rIxL K) ta tb) σ H v :=
  ev_opL1 ha (fun H1 e => hb.mono e) fun p H1 hp _ => rv_ixL (sq_of hp) hv
/-! the kind of a thing -/
theorem tyx_mono {t : Value} (e : Ex H H') (h : TyX K H x t) : TyX K H' x t := by
  cases h with
  | base b =>
    refine .base ?_
    cases b with
    | non => exact .non
    | bl y => exact .bl y
    | int i => exact .int i
    | str y => exact .str y
    | flt y => exact .flt y
    | lst ea => exact .lst (e _ _ ea)
    | frz ea => exact .frz (e _ _ ea)
    | tup ea => exact .tup (e _ _ ea)
    | dK ea => exact .dK (e _ _ ea)
    | dT ea => exact .dT (e _ _ ea)
    | ins ea c a n t m => exact .ins (e _ _ ea) c a n t m
  | byt b => exact .byt b
  | set ea => exact .set (e _ _ ea)
  | kList a c => exact .kList a c
  | kTuple a c => exact .kTuple a c
  | kDict a c => exact .kDict a c
  | fTuple ea => exact .fTuple (e _ _ ea)
  | fDict ea => exact .fDict (e _ _ ea)
theorem ev_isi {T U : String} {b : Bool} (h : Ev ta σ H x) (ht : TyX K H x (.type T)) (hk : kitB T U = some b) : Ev (tCB (rIsi K) (tCons ta (tCons (tC (.ty U)) tNil))) σ H (.bl b) :=
  ev_cb (ea_cons h (ea_cons ev_c ea_nil)) fun H1 e _ q => ⟨x, .ty U, .type T, .type U, b, rfl, .ty U, tyx_mono e ht, kit_ty hk, q H1 (Ex.refl H1)⟩
end

/-- no test in a comprehension -/
theorem tYes_if {σ : L2.St} {H : Hp} {A B : Hp → Prop} (h : A H) : tYes σ H (fun b H3 => if b = true then A H3 else B H3) := by
  show (if true = true then A H else B H)
  rw [if_pos rfl]
  exact h

/-! ### words -/
def okS (l : List Nat) : Bool := decide (1 ≤ l.length) && decide (l.length ≤ 60) && l.all fun c => decide (c ∈ [97, 98, 99, 100, 101, 102, 103, 104])
def isWordV : V → Bool
  | .str z => okS z.cps.toList
  | _ => false
def isWholeV : V → Bool
  | .int _ => true
  | _ => false
/-- a thing whose kind is known: a text, or none -/
def ThS (K : PySem.W.Frag) (H : Hp) (v : V) : Prop := (∃ l, v = .str (S l) ∧ l.length ≤ 100000) ∨ ∃ T, TyX K H v (.type T) ∧ kitB T "str" = some false ∧ ∀ z, v ≠ .str z
/-- a thing whose kind is known: a whole number, a truth value, or none of them -/
def ThI (K : PySem.W.Frag) (H : Hp) (v : V) : Prop := (∃ i, v = .int i) ∨ (∃ b, v = .bl b) ∨ ∃ T, TyX K H v (.type T) ∧ kitB T "int" = some false ∧ ∀ i, v ≠ .int i
theorem ThS.mono {K : PySem.W.Frag} {H H' : Hp} {v : V} (e : Ex H H') (h : ThS K H v) : ThS K H' v := by
  rcases h with h | ⟨T, h1, h2⟩
  · exact .inl h
  · exact .inr ⟨T, tyx_mono e h1, h2⟩
theorem ThI.mono {K : PySem.W.Frag} {H H' : Hp} {v : V} (e : Ex H H') (h : ThI K H v) : ThI K H' v := by
  rcases h with h | h | ⟨T, h1, h2⟩
  · exact .inl h
  · exact .inr (.inl h)
  · exact .inr (.inr ⟨T, tyx_mono e h1, h2⟩)
theorem word_ok {l : List Nat} (h : okS l = true) : 1 ≤ l.length ∧ l.length ≤ 60 ∧ ∀ c ∈ l, c ∈ [97, 98, 99, 100, 101, 102, 103, 104] := by
  unfold okS at h
  simp only [Bool.and_eq_true, decide_eq_true_eq, List.all_eq_true] at h
  exact ⟨h.1.1, h.1.2, h.2⟩
theorem ok_word {l : List Nat} (h1 : 1 ≤ l.length) (h2 : l.length ≤ 60) (h3 : ∀ c ∈ l, c ∈ [97, 98, 99, 100, 101, 102, 103, 104]) : okS l = true := by
  unfold okS
  simp only [Bool.and_eq_true, decide_eq_true_eq, List.all_eq_true]
  exact ⟨⟨h1, h2⟩, h3⟩
/-- an error of the class at C leaves, nothing of what was tracked has changed -/
def Ref (E : XK) (C : Addr) (H : Hp) : Prop := ∀ H', Ex H H' → E (.ref C) none H'
theorem Ref.mono {E : XK} {C : Addr} {H H' : Hp} (e : Ex H H') (h : Ref E C H) : Ref E C H' := fun H2 e2 => h H2 (e.trans e2)
theorem RetV.mono {v : V} {H H' : Hp} {Q : VK} (e : Ex H H') (h : RetV v H Q) : RetV v H' Q := fun H2 e2 => h H2 (e.trans e2)
theorem RetL.mono {xs : List V} {H H' : Hp} {Q : VK} (e : Ex H H') (h : RetL xs H Q) : RetL xs H' Q := fun p H2 hp e2 h2 => h p H2 (fresh_back e hp) (e.trans e2) h2
/-- the promises -/
def sp_is_word (K : PySem.W.Frag) : Sp := fun vs H Q _ => ∃ v, vs = [v] ∧ ThS K H v ∧ RetV (.bl (isWordV v)) H Q
def sp_need_word (K : PySem.W.Frag) (CW : Addr) : Sp := fun vs H Q E => ∃ v, vs = [v] ∧ ThS K H v ∧ (isWordV v = true → RetV .non H Q) ∧ (isWordV v = false → Ref E CW H)
def sp_is_whole (K : PySem.W.Frag) : Sp := fun vs H Q _ => ∃ v, vs = [v] ∧ ThI K H v ∧ RetV (.bl (isWholeV v)) H Q
def turnL (l : List Nat) (k : Nat) : List Nat := l.drop k ++ l.take k
def sp_turned (K : PySem.W.Frag) (CW CN : Addr) : Sp := fun vs H Q E => ∃ v u, vs = [v, u] ∧ ThS K H v ∧ ThI K H u ∧ (isWordV v = false → Ref E CW H) ∧ (isWordV v = true → isWholeV u = false → Ref E CN H) ∧
  ∀ (l : List Nat) (i : Int), v = .str (S l) → okS l = true → u = .int i → RetV (.str (S (turnL l (i % l.length).toNat))) H Q
def turnsL (l : List Nat) : List (List Nat) := (List.range l.length).map (turnL l)
def sp_turnings (K : PySem.W.Frag) (CW : Addr) : Sp := fun vs H Q E => ∃ v, vs = [v] ∧ ThS K H v ∧ (isWordV v = false → Ref E CW H) ∧
  ∀ l : List Nat, v = .str (S l) → okS l = true → RetL ((turnsL l).map fun l => V.str (S l)) H Q
/-- the numbers that the law mixes -/
def mixN (c k : Int) : Int := (c % 1000000007 + 7919 * k * k + 31 * k + 17) * 48271 % 2147483647
def mixed (c k : Int) : Int := mixN c k * (mixN c k % 65521 + 16807) % 2147483629 / 4
theorem mixed_bd (c k : Int) : 0 ≤ mixed c k ∧ mixed c k < 536870908 := by
  unfold mixed
  generalize mixN c k * (mixN c k % 65521 + 16807) = t
  omega
def number (ns : List Int) (k : Int) : Int := mixed (if 0 < ns.length then ns.getD (k % ns.length).toNat 0 else 0) k
theorem number_bd (ns : List Int) (k : Int) : 0 ≤ number ns k ∧ number ns k < 536870908 := mixed_bd _ _
def sp_mixed : Sp := fun vs H Q _ => ∃ c k : Int, vs = [.int c, .int k] ∧ 0 ≤ k ∧ k ≤ 100000 ∧ RetV (.int (mixed c k)) H Q
def sp_number (K : PySem.W.Frag) : Sp := fun vs H Q _ => ∃ (a : Addr) (ns : List Int) (k : Int), vs = [.ref a, .int k] ∧ SqL K H a (ns.map V.int) ∧ 0 ≤ k ∧ k ≤ 100000 ∧ RetV (.int (number ns k)) H Q
end Br
namespace Br
open PySem PySem.Spec PyProof.Rows L2 Evl SX

section
variable {K : PySem.W.Frag} {σ : L2.St} {H H' : Hp} {ta tb tc te : TE} {x y z v : V}
theorem et_yes : EvT tYes σ H true := fun H1 _ _ q => q H1 (Ex.refl H1)
theorem given_all (n : Nat) (v : Nat → V) : given n (fun _ => true) v = (List.range n).map v := by
  unfold given
  rw [List.filter_eq_self.mpr fun _ _ => rfl]
/-- xs * k, xs + ys: new lists -/
theorem el_rep {xs : List V} {k : Int} (ha : EvL ta σ H xs) (hb : ∀ H1, Ex H H1 → Ev tb σ H1 (.int k)) (h0 : 0 ≤ k) (h1 : k ≤ 1000) (hl : xs.length ≤ 100) : EvL (tOp rRep ta tb) σ H (List.replicate k.toNat xs).flatten := fun H1 e Q q =>
  ha H1 e _ fun p H2 hp e2 h2 => hb H2 (e.trans e2) H2 (Ex.refl H2) _ fun H3 e3 => ⟨p, k, xs, rfl, rfl, e3 p _ h2, by omega, by omega, sz_of (by
    have : xs.length * k.toNat ≤ 100 * 1000 := Nat.mul_le_mul hl (by omega)
    omega), fun r hr => q r _ (fresh_back (e2.trans e3) hr) ((e2.trans e3).trans (Ex.new hr)) upd_same⟩
theorem el_cat {xs ys : List V} (ha : EvL ta σ H xs) (hb : EvL tb σ H ys) (hl : xs.length + ys.length ≤ 100000) : EvL (tOp rCat ta tb) σ H (xs ++ ys) := fun H1 e Q q =>
  ha H1 e _ fun p H2 hp e2 h2 => hb H2 (e.trans e2) _ fun r H3 hr e3 h3 => ⟨p, r, xs, ys, rfl, rfl, e3 p _ h2, h3, sz_of hl, fun s hs => q s _ (fresh_back (e2.trans e3) hs) ((e2.trans e3).trans (Ex.new hs)) upd_same⟩
theorem el_catV {p : Addr} {xs ys : List V} (ha : Ev ta σ H (.ref p)) (hp : H p = some (.lst xs)) (hb : EvL tb σ H ys) (hl : xs.length + ys.length ≤ 100000) : EvL (tOp rCat ta tb) σ H (xs ++ ys) := fun H1 e Q q =>
  ha H1 e _ fun H2 e2 => hb H2 (e.trans e2) _ fun r H3 hr e3 h3 => ⟨p, r, xs, ys, rfl, rfl, e3 p _ (e2 p _ (e p _ hp)), h3, sz_of hl, fun s hs => q s _ (fresh_back (e2.trans e3) hs) ((e2.trans e3).trans (Ex.new hs)) upd_same⟩
def rInt1 : List V → Hp → VK → Prop := fun xs H Q => (∃ i, xs = [.int i] ∧ Q (.int i) H) ∨ ∃ k, xs = [.bl k] ∧ Q (.int (if k then 1 else 0)) H
theorem ev_intB {b : Bool} (h : Ev te σ H (.bl b)) : Ev (tCB rInt1 (tCons te tNil)) σ H (.int (if b then 1 else 0)) := ev_cb (ea_cons h ea_nil) fun H1 _ _ q => .inr ⟨b, rfl, q H1 (Ex.refl H1)⟩
theorem ev_isX {D : Addr} {a : Addr} {c : V} {u : Value} {b : Bool} (h1 : Ev ta σ H (.ref a)) (h2 : Ev tb σ H c) (ha : H a = some (exH (.ref D) none a)) (hc : ClsV c u) (hk : PySem.W.kitOne K (.ref D) u = some b) : Ev (tCB (rIsX K D) (tCons ta (tCons tb tNil))) σ H (.bl b) :=
  ev_cb (ea_cons h1 (ea_cons h2 ea_nil)) fun H1 e _ q => ⟨a, c, u, b, rfl, e a _ ha, hc, hk, q H1 (Ex.refl H1)⟩
/-- sep.join(one text) -/
theorem ev_join1 {a w : List Nat} (h0 : Ev ta σ H (.str (S a))) (h : EvL te σ H [V.str (S w)]) (hl : w.length + a.length ≤ 100000) : Ev (tM1 (rJoin K) ta te) σ H (.str (S w)) := fun H1 e _ q =>
  h0 H1 e _ fun H2 e2 => ⟨⟨_, rfl⟩, h H2 (e.trans e2) _ fun p H3 _ e3 hp => ⟨S a, p, [w].map S, rfl, rfl, .inl (sq_of hp), by
    rw [lens, S_len]
    show (w.length + 0) + 1 * a.length ≤ _
    omega, by
    rw [join_S]
    exact q H3 (e2.trans e3)⟩⟩
end

/-! ### the drawn words -/
def letter (k : Int) : Nat := [97, 98, 99, 100, 101, 102, 103, 104].getD k.toNat 97
theorem letter_in (k : Int) : letter k ∈ [97, 98, 99, 100, 101, 102, 103, 104] := by
  unfold letter
  by_cases h : k.toNat < [97, 98, 99, 100, 101, 102, 103, 104].length
  · rw [List.getD_eq_getElem?_getD, List.getElem?_eq_getElem h]
    exact List.getElem_mem h
  · rw [List.getD_eq_getElem?_getD, List.getElem?_eq_none (Nat.le_of_not_lt h)]
    decide
def abc : List Nat := [97, 98, 99, 100, 101, 102, 103, 104]
theorem abc_S : (PySem.Str.ofString "abcdefgh" : Str) = S abc := by decide +kernel
theorem letter_at {k : Int} (h0 : 0 ≤ k) (h1 : k < 8) : atI abc k = some (letter k) := by
  rw [atI_get h0 (show k < (abc.length : Int) from h1)]
  unfold letter
  have h : k.toNat < [97, 98, 99, 100, 101, 102, 103, 104].length := by
    show k.toNat < 8
    omega
  rw [List.getD_eq_getElem?_getD, List.getElem?_eq_getElem h]
  rfl
def drawn (ns : List Int) (at_ few : Int) (n : Nat) : List Nat := (List.range n).map fun (k : Nat) => letter (number ns (at_ + 1 + (k : Int)) / 3 % few)
def wsizes (n : Int) : List Int := [1 + n / 32 % 12, 1 + n / 32 % 60, 60, 1 + n / 32 % 5]
def wsize (n : Int) : Int := (wsizes n).getD (n / 2000 % 4).toNat 0
theorem wsize_at (n : Int) : atI ((wsizes n).map V.int) (n / 2000 % 4) = some (.int (wsize n)) ∧ 1 ≤ wsize n ∧ wsize n ≤ 60 := by
  have h : n / 2000 % 4 = 0 ∨ n / 2000 % 4 = 1 ∨ n / 2000 % 4 = 2 ∨ n / 2000 % 4 = 3 := by omega
  unfold wsize
  rcases h with h | h | h | h <;> rw [h]
  · refine ⟨rfl, ?_⟩
    show 1 ≤ 1 + n / 32 % 12 ∧ 1 + n / 32 % 12 ≤ 60
    omega
  · refine ⟨rfl, ?_⟩
    show 1 ≤ 1 + n / 32 % 60 ∧ 1 + n / 32 % 60 ≤ 60
    omega
  · refine ⟨rfl, ?_⟩
    show (1 : Int) ≤ 60 ∧ (60 : Int) ≤ 60
    decide
  · refine ⟨rfl, ?_⟩
    show 1 ≤ 1 + n / 32 % 5 ∧ 1 + n / 32 % 5 ≤ 60
    omega
def again (l : List Nat) (m : Int) (z : Nat) : List Nat := (List.replicate 60 (l.take m.toNat)).flatten.take z
theorem sum_ones {α : Type} : ∀ l : List α, (l.map fun _ => 1).sum = l.length
  | [] => rfl
  | a :: r => by
    rw [List.map_cons, List.sum_cons, sum_ones r, List.length_cons, Nat.add_comm]
theorem flat_len (n : Nat) (l : List Nat) : (List.replicate n l).flatten.length = n * l.length := by
  induction n with
  | zero => simp
  | succ m ih => rw [List.replicate_succ, List.flatten_cons, List.length_append, ih, Nat.succ_mul, Nat.add_comm]
theorem again_ok {l : List Nat} {m : Int} {z : Nat} (hl : l.length = z) (h1 : 1 ≤ z) (h2 : z ≤ 60) (hm : 1 ≤ m) (ha : ∀ c ∈ l, c ∈ abc) : (again l m z).length = z ∧ ∀ c ∈ again l m z, c ∈ abc := by
  unfold again
  constructor
  · rw [List.length_take, flat_len, List.length_take]
    have : 1 ≤ min m.toNat l.length := by omega
    omega
  · intro c hc
    obtain ⟨p, hp, hcp⟩ := List.mem_flatten.mp (List.mem_of_mem_take hc)
    rw [List.eq_of_mem_replicate hp] at hcp
    exact ha c (List.mem_of_mem_take hcp)
def lword0 (ns : List Int) (at_ : Int) : List Nat := drawn ns at_ (1 + number ns at_ / 4 % 8) (wsize (number ns at_)).toNat
def lword1 (ns : List Int) (at_ : Int) : List Nat := if number ns at_ % 4 = 1 then again (lword0 ns at_) (1 + number ns at_ / 9000 % 9) (wsize (number ns at_)).toNat else lword0 ns at_
def lwordA (ns : List Int) (at_ : Int) : List Nat := again (lword1 ns at_) (1 + number ns at_ / 9000 % 4) (wsize (number ns at_)).toNat
def lwordP (ns : List Int) (at_ : Int) : Int := number ns at_ / 40000 % wsize (number ns at_)
def lword (ns : List Int) (at_ : Int) : List Nat := if number ns at_ % 4 = 2 then (lwordA ns at_).take (lwordP ns at_).toNat ++ [letter (number ns at_ / 7 % 8)] ++ (lwordA ns at_).drop (lwordP ns at_ + 1).toNat else lword1 ns at_
theorem lword0_ok (ns : List Int) (at_ : Int) : (lword0 ns at_).length = (wsize (number ns at_)).toNat ∧ ∀ c ∈ lword0 ns at_, c ∈ abc := by
  unfold lword0 drawn
  refine ⟨by simp, fun c hc => ?_⟩
  obtain ⟨k, _, rfl⟩ := List.mem_map.mp hc
  exact letter_in _
theorem lword1_ok (ns : List Int) (at_ : Int) : (lword1 ns at_).length = (wsize (number ns at_)).toNat ∧ ∀ c ∈ lword1 ns at_, c ∈ abc := by
  obtain ⟨h1, h2⟩ := lword0_ok ns at_
  obtain ⟨_, s1, s2⟩ := wsize_at (number ns at_)
  unfold lword1
  split
  · exact again_ok h1 (by omega) (by omega) (by omega) h2
  · exact ⟨h1, h2⟩
theorem lwordA_ok (ns : List Int) (at_ : Int) : (lwordA ns at_).length = (wsize (number ns at_)).toNat ∧ ∀ c ∈ lwordA ns at_, c ∈ abc := by
  obtain ⟨h1, h2⟩ := lword1_ok ns at_
  obtain ⟨_, s1, s2⟩ := wsize_at (number ns at_)
  exact again_ok h1 (by omega) (by omega) (by omega) h2
theorem lwordP_bd (ns : List Int) (at_ : Int) : 0 ≤ lwordP ns at_ ∧ lwordP ns at_ < wsize (number ns at_) := by
  obtain ⟨_, s1, s2⟩ := wsize_at (number ns at_)
  exact ⟨Int.emod_nonneg _ (by omega), Int.emod_lt_of_pos _ (by omega)⟩
theorem lword_ok (ns : List Int) (at_ : Int) : okS (lword ns at_) = true := by
  obtain ⟨h1, h2⟩ := lword1_ok ns at_
  obtain ⟨a1, a2⟩ := lwordA_ok ns at_
  obtain ⟨p1, p2⟩ := lwordP_bd ns at_
  obtain ⟨_, s1, s2⟩ := wsize_at (number ns at_)
  unfold lword
  split
  · refine ok_word ?_ ?_ fun c hc => ?_
    · simp only [List.length_append, List.length_cons, List.length_nil]
      omega
    · simp only [List.length_append, List.length_cons, List.length_nil, List.length_take, List.length_drop]
      omega
    · rcases List.mem_append.mp hc with hc | hc
      · rcases List.mem_append.mp hc with hc | hc
        · exact a2 c (List.mem_of_mem_take hc)
        · rw [List.mem_singleton.mp hc]
          exact letter_in _
      · exact a2 c (List.mem_of_mem_drop hc)
  · exact ok_word (by omega) (by omega) h2
def sp_word (K : PySem.W.Frag) : Sp := fun vs H Q _ => ∃ (a : Addr) (ns : List Int) (k : Int), vs = [.ref a, .int k] ∧ SqL K H a (ns.map V.int) ∧ 0 ≤ k ∧ k ≤ 50000 ∧ RetV (.str (S (lword ns k))) H Q
/-- the name of an error's class -/
def sp_kind (CW : Addr) (nm : List Nat) : Sp := fun vs H Q _ => ∃ a, vs = [.ref a] ∧ H a = some (exH (.ref CW) none a) ∧ RetV (.str (S nm)) H Q
def wWord : List Nat := [119, 111, 114, 100]
def wNumber : List Nat := [110, 117, 109, 98, 101, 114]
theorem wWord_S : (PySem.Str.ofString "word" : Str) = S wWord := by decide +kernel
theorem wNumber_S : (PySem.Str.ofString "number" : Str) = S wNumber := by decide +kernel
end Br
namespace Br
open PySem PySem.Spec PyProof.Rows L2 Evl SX

/-! ### turnings -/
theorem turn_len (l : List Nat) (k : Nat) : (turnL l k).length = l.length := by
  unfold turnL
  rw [List.length_append, List.length_drop, List.length_take]
  omega
theorem turn_get {l : List Nat} {k i : Nat} (hk : k ≤ l.length) (hi : i < l.length) : (turnL l k)[i]? = l[(i + k) % l.length]? := by
  unfold turnL
  by_cases h : i + k < l.length
  · rw [List.getElem?_append_left (by rw [List.length_drop]; omega), List.getElem?_drop, Nat.mod_eq_of_lt h, Nat.add_comm]
  · rw [List.getElem?_append_right (by rw [List.length_drop]; omega), List.length_drop, List.getElem?_take]
    have e : (i + k) % l.length = i + k - l.length := by
      rw [Nat.mod_eq_sub_mod (by omega), Nat.mod_eq_of_lt (by omega)]
    rw [e, if_pos (by omega)]
    congr 1
    omega
theorem eq_of_get {a b : List Nat} (hl : a.length = b.length) (h : ∀ i, i < a.length → a[i]? = b[i]?) : a = b := by
  refine List.ext_getElem? fun i => ?_
  by_cases hi : i < a.length
  · exact h i hi
  · rw [List.getElem?_eq_none (by omega), List.getElem?_eq_none (by omega)]
theorem turn_turn {l : List Nat} {a b : Nat} (ha : a ≤ l.length) (hb : b ≤ l.length) (hl : 0 < l.length) : turnL (turnL l a) b = turnL l ((a + b) % l.length) := by
  refine eq_of_get (by rw [turn_len, turn_len, turn_len]) fun i hi => ?_
  rw [turn_len, turn_len] at hi
  have h3 : (i + b) % l.length < l.length := Nat.mod_lt _ hl
  rw [turn_get (by rw [turn_len]; exact hb) (by rw [turn_len]; exact hi), turn_len, turn_get ha h3, turn_get (Nat.le_of_lt (Nat.mod_lt _ hl)) hi]
  congr 1
  rw [Nat.mod_add_mod, Nat.add_mod_mod]
  congr 1
  omega
theorem turn_zero (l : List Nat) : turnL l 0 = l := by
  unfold turnL
  simp
theorem turn_full (l : List Nat) : turnL l l.length = l := by
  unfold turnL
  simp
theorem turn_back {l : List Nat} {a : Nat} (ha : a ≤ l.length) (hl : 0 < l.length) : turnL (turnL l a) (l.length - a) = l := by
  rw [turn_turn ha (by omega) hl, show a + (l.length - a) = l.length by omega, Nat.mod_self, turn_zero]
theorem turn_inj {l m : List Nat} {a : Nat} (ha : a ≤ l.length) (hl : 0 < l.length) (hm : m.length = l.length) (h : turnL l a = turnL m a) : l = m := by
  rw [← turn_back ha hl, h, ← hm, turn_back (by omega) (by omega)]
theorem mem_turns {l t : List Nat} : t ∈ turnsL l ↔ ∃ k, k < l.length ∧ t = turnL l k := by
  unfold turnsL
  constructor
  · intro h
    obtain ⟨k, hk, rfl⟩ := List.mem_map.mp h
    exact ⟨k, List.mem_range.mp hk, rfl⟩
  · rintro ⟨k, hk, rfl⟩
    exact List.mem_map.mpr ⟨k, List.mem_range.mpr hk, rfl⟩
theorem turns_turn {l t : List Nat} {a : Nat} (ha : a < l.length) : t ∈ turnsL (turnL l a) ↔ t ∈ turnsL l := by
  have hl : 0 < l.length := by omega
  rw [mem_turns, mem_turns, turn_len]
  constructor
  · rintro ⟨k, hk, rfl⟩
    exact ⟨(a + k) % l.length, Nat.mod_lt _ hl, turn_turn (by omega) (by omega) hl⟩
  · rintro ⟨k, hk, rfl⟩
    refine ⟨(k + (l.length - a)) % l.length, Nat.mod_lt _ hl, ?_⟩
    rw [turn_turn (by omega) (Nat.le_of_lt (Nat.mod_lt _ hl)) hl]
    congr 1
    rw [Nat.add_mod_mod, show a + (k + (l.length - a)) = k + l.length by omega, Nat.add_mod_right, Nat.mod_eq_of_lt hk]
theorem turn_ok {l : List Nat} {k : Nat} (h : okS l = true) : okS (turnL l k) = true := by
  obtain ⟨h1, h2, h3⟩ := word_ok h
  refine ok_word (by rw [turn_len]; exact h1) (by rw [turn_len]; exact h2) fun c hc => ?_
  unfold turnL at hc
  rcases List.mem_append.mp hc with hc | hc
  · exact h3 c (List.mem_of_mem_drop hc)
  · exact h3 c (List.mem_of_mem_take hc)
/-- the least of all turnings -/
def IsLeast (l m : List Nat) : Prop := m ∈ turnsL l ∧ ∀ t ∈ turnsL l, ¬ t < m
theorem lt_tri {a b : List Nat} (h1 : ¬ a < b) (h2 : ¬ b < a) : a = b := List.le_antisymm (List.not_lt.mp h2) (List.not_lt.mp h1)
theorem least_uniq {l m m' : List Nat} (h : IsLeast l m) (h' : IsLeast l m') : m = m' := lt_tri (h'.2 m h.1) (h.2 m' h'.1)
theorem least_turn {l m : List Nat} {a : Nat} (ha : a < l.length) : IsLeast (turnL l a) m ↔ IsLeast l m := by
  unfold IsLeast
  rw [turns_turn ha]
  constructor
  · rintro ⟨h1, h2⟩
    exact ⟨h1, fun t ht => h2 t ((turns_turn ha).mpr ht)⟩
  · rintro ⟨h1, h2⟩
    exact ⟨h1, fun t ht => h2 t ((turns_turn ha).mp ht)⟩
/-- the least of the turnings by less than k (and the word) -/
def leastTo (l : List Nat) : Nat → List Nat
  | 0 => l
  | k + 1 => if turnL l k < leastTo l k then turnL l k else leastTo l k
theorem leastTo_in {l : List Nat} (hl : 0 < l.length) : ∀ k, k ≤ l.length → leastTo l k ∈ turnsL l
  | 0, _ => mem_turns.mpr ⟨0, hl, (turn_zero l).symm⟩
  | k + 1, hk => by
    unfold leastTo
    split
    · exact mem_turns.mpr ⟨k, hk, rfl⟩
    · exact leastTo_in hl k (by omega)
theorem leastTo_le {l : List Nat} : ∀ k j, j < k → ¬ turnL l j < leastTo l k
  | 0, j, h => absurd h (Nat.not_lt_zero _)
  | k + 1, j, h => by
    unfold leastTo
    split
    · rename_i c
      by_cases e : j = k
      · rw [e]
        exact List.lt_irrefl _
      · exact fun z => leastTo_le k j (by omega) (List.lt_trans z c)
    · rename_i c
      by_cases e : j = k
      · rw [e]
        exact c
      · exact leastTo_le k j (by omega)
def leastL (l : List Nat) : List Nat := leastTo l l.length
theorem leastL_is {l : List Nat} (hl : 0 < l.length) : IsLeast l (leastL l) := ⟨leastTo_in hl _ (Nat.le_refl _), fun t ht => by
  obtain ⟨k, hk, rfl⟩ := mem_turns.mp ht
  exact leastTo_le _ k hk⟩
/-- the least number from 1 on by which the word turned is the word again -/
def IsPer (l : List Nat) (p : Nat) : Prop := 1 ≤ p ∧ p ≤ l.length ∧ turnL l p = l ∧ ∀ k, 1 ≤ k → k < p → turnL l k ≠ l
theorem per_uniq {l : List Nat} {p q : Nat} (h : IsPer l p) (h' : IsPer l q) : p = q := by
  obtain ⟨a1, a2, a3, a4⟩ := h
  obtain ⟨b1, b2, b3, b4⟩ := h'
  rcases Nat.lt_trichotomy p q with c | c | c
  · exact absurd a3 (b4 p a1 c)
  · exact c
  · exact absurd b3 (a4 q b1 c)
theorem per_from {l : List Nat} : ∀ n k, 1 ≤ k → k ≤ l.length → n = l.length - k → (∀ j, 1 ≤ j → j < k → turnL l j ≠ l) → ∃ p, IsPer l p
  | 0, k, h1, h2, hn, hj => ⟨k, h1, h2, by rw [show k = l.length by omega, turn_full], hj⟩
  | n + 1, k, h1, h2, hn, hj => by
    by_cases c : turnL l k = l
    · exact ⟨k, h1, h2, c, hj⟩
    · refine per_from n (k + 1) (by omega) (by omega) (by omega) fun j j1 j2 => ?_
      by_cases e : j = k
      · rw [e]
        exact c
      · exact hj j j1 (by omega)
theorem per_ex {l : List Nat} (hl : 0 < l.length) : ∃ p, IsPer l p := per_from _ 1 (Nat.le_refl _) hl rfl fun j h1 h2 => absurd h1 (by omega)
theorem turn_comm {l : List Nat} {a b : Nat} (ha : a ≤ l.length) (hb : b ≤ l.length) (hl : 0 < l.length) : turnL (turnL l a) b = turnL (turnL l b) a := by
  rw [turn_turn ha hb hl, turn_turn hb ha hl, Nat.add_comm]
theorem per_turn {l : List Nat} {a p : Nat} (ha : a < l.length) : IsPer (turnL l a) p ↔ IsPer l p := by
  have hl : 0 < l.length := by omega
  have same : ∀ k, k ≤ l.length → (turnL (turnL l a) k = turnL l a ↔ turnL l k = l) := fun k hk => by
    rw [turn_comm (by omega) hk hl]
    constructor
    · intro h
      exact turn_inj (by rw [turn_len]; omega) (by rw [turn_len]; exact hl) (by rw [turn_len]) h
    · intro h
      rw [h]
  unfold IsPer
  rw [turn_len]
  constructor
  · rintro ⟨h1, h2, h3, h4⟩
    exact ⟨h1, h2, (same p h2).mp h3, fun k k1 k2 z => h4 k k1 k2 ((same k (by omega)).mpr z)⟩
  · rintro ⟨h1, h2, h3, h4⟩
    exact ⟨h1, h2, (same p h2).mpr h3, fun k k1 k2 z => h4 k k1 k2 ((same k (by omega)).mp z)⟩
/-- the text told twice, and where it comes again -/
theorem twice_at {l : List Nat} {k : Nat} (hk : k ≤ l.length) : (((l ++ l).drop k).take l.length = l) ↔ turnL l k = l := by
  have e : ((l ++ l).drop k).take l.length = turnL l k := by
    unfold turnL
    rw [List.drop_append_of_le_length hk, List.take_append, List.take_of_length_le (by rw [List.length_drop]; omega), List.length_drop]
    congr 2
    omega
  rw [e]
theorem find_per {l : List Nat} {p : Nat} (h : IsPer l p) : Txt.find3 (S (l ++ l)) (S l) 1 = (p : Int) := by
  obtain ⟨h1, h2, h3, h4⟩ := h
  have hne : TL.tl (S l) ≠ [] := fun z => by
    have z' : l = [] := z
    rw [z'] at h2
    simp at h2
    omega
  have at_ : ∀ k, PySem.StrLaws.At (S (l ++ l)) (S l) (S (l ++ l)).length k ↔ ((l ++ l).drop k).take l.length = l := fun k => by
    rw [TL.at_iff hne]
    show (((l ++ l).drop k).take l.length == l) = true ↔ _
    rw [beq_iff_eq]
  have e1 : PySem.fromIndex (S (l ++ l)).length 1 = 1 := rfl
  unfold Txt.find3
  rw [e1]
  rcases PySem.StrLaws.occ_head_from (S (l ++ l)) (S l) 1 1 (Nat.le_refl _) with ⟨_, hn⟩ | ⟨i, r, e, hi, ha, hb⟩
  · exact absurd ((at_ p).mpr ((twice_at h2).mpr h3)) (hn p h1)
  · rw [e]
    show (i : Int) = (p : Int)
    have hip : ¬ p < i := fun z => hb p h1 z ((at_ p).mpr ((twice_at h2).mpr h3))
    have hpi : ¬ i < p := fun z => h4 i hi z ((twice_at (by omega)).mp ((at_ i).mp ha))
    omega

/-! ### what evaluates to a thing of some kind -/
def EvP (te : TE) (σ : L2.St) (H : Hp) (P : V → Hp → Prop) : Prop := ∀ H1, Ex H H1 → ∀ Q : VK, (∀ v H2, Ex H1 H2 → P v H2 → Q v H2) → te σ H1 Q
def EvAll (ta : TA) (σ : L2.St) (H : Hp) (n : Nat) (P : V → Hp → Prop) : Prop := ∀ H1, Ex H H1 → ∀ Q : List V → Hp → Prop, (∀ vs H2, Ex H1 H2 → vs.length = n → (∀ v ∈ vs, P v H2) → Q vs H2) → ta σ H1 Q
section
variable {K : PySem.W.Frag} {σ : L2.St} {H H' : Hp} {ta tb tc te : TE} {x y z v : V} {P : V → Hp → Prop}
theorem ep_of (h : Ev te σ H v) (hp : ∀ H2, Ex H H2 → P v H2) : EvP te σ H P := fun H1 e Q q => h H1 e Q fun H2 e2 => q v H2 e2 (hp H2 (e.trans e2))
theorem ep_lst {xs : List V} (h : EvL te σ H xs) (hp : ∀ p H2, Ex H H2 → H2 p = some (.lst xs) → P (.ref p) H2) : EvP te σ H P := fun H1 e Q q => h H1 e Q fun p H2 _ e2 h2 => q _ H2 e2 (hp p H2 (e.trans e2) h2)
theorem ep_tup {xs : List V} (h : EvU te σ H xs) (hp : ∀ p H2, Ex H H2 → H2 p = some (.tup xs) → P (.ref p) H2) : EvP te σ H P := fun H1 e Q q => h H1 e Q fun p H2 _ e2 h2 => q _ H2 e2 (hp p H2 (e.trans e2) h2)
theorem ep_dct (hp : ∀ p H2, Ex H H2 → H2 p = some (.dK []) → P (.ref p) H2) : EvP tDNewK σ H P := fun H1 e Q q p hn => q _ _ (Ex.new hn) (hp p _ (e.trans (Ex.new hn)) upd_same)
theorem eall_nil : EvAll tNil σ H 0 P := fun H1 _ Q q => q [] H1 (Ex.refl H1) rfl fun _ h => nomatch h
theorem eall_cons {tr : TA} {n : Nat} (mono : ∀ v H1 H2, Ex H1 H2 → P v H1 → P v H2) (h : EvP te σ H P) (hr : EvAll tr σ H n P) : EvAll (tCons te tr) σ H (n + 1) P := fun H1 e Q q =>
  h H1 e _ fun v H2 e2 hv => hr H2 (e.trans e2) _ fun vs H3 e3 hl hvs => q (v :: vs) H3 (e2.trans e3) (by rw [List.length_cons, hl]) fun u hu => by
    rcases List.mem_cons.mp hu with rfl | hu
    · exact mono _ H2 H3 e3 hv
    · exact hvs u hu
theorem ep_pick {t : TA} {n : Nat} {i : Int} (mono : ∀ v H1 H2, Ex H1 H2 → P v H1 → P v H2) (h : EvAll t σ H n P) (hb : ∀ H1, Ex H H1 → Ev tb σ H1 (.int i)) (hn : n ≤ 1000) (h0 : 0 ≤ i) (h1 : i < n) : EvP (tOp (rIxL K) (tLst t) tb) σ H P := fun H1 e Q q =>
  h H1 e _ fun vs H2 e2 hl hvs => ⟨sz_of (by omega), fun p hp => hb _ ((e.trans e2).trans (Ex.new hp)) _ (Ex.refl _) _ fun H3 e3 =>
    ⟨p, vs, i, vs[i.toNat]'(by omega), rfl, rfl, sq_of (e3 p _ upd_same), atI_get h0 (by omega), q _ H3 ((e2.trans (Ex.new hp)).trans e3) (mono _ H2 H3 ((Ex.new hp).trans e3) (hvs _ (List.getElem_mem _)))⟩⟩
/-- stored under a name -/
theorem p_asg {D : Ends} {i : Nat} {tz : TS} (h : EvP te σ H P) (k : ∀ v H1, Ex H H1 → P v H1 → tz D (σ.set i (some v)) H1) : tSeq (tAsg te (gName i)) tz D σ H := h H (Ex.refl H) _ fun v H1 e hv => k v H1 e hv
/-- a thing that is no word -/
def Odd (K : PySem.W.Frag) (v : V) (H : Hp) : Prop := ThS K H v ∧ isWordV v = false
theorem Odd.mono (v : V) (H1 H2 : Hp) (e : Ex H1 H2) (h : Odd K v H1) : Odd K v H2 := ⟨ThS.mono e h.1, h.2⟩
theorem odd_txt {l : List Nat} {H2 : Hp} (hl : l.length ≤ 100000) (h : okS l = false) : Odd K (.str (S l)) H2 := ⟨.inl ⟨l, rfl, hl⟩, h⟩
theorem odd_non {H2 : Hp} : Odd K .non H2 := ⟨.inr ⟨"NoneType", .base .non, by decide +kernel, fun _ h => nomatch h⟩, rfl⟩
theorem odd_int {i : Int} {H2 : Hp} : Odd K (.int i) H2 := ⟨.inr ⟨"int", .base (.int i), by decide +kernel, fun _ h => nomatch h⟩, rfl⟩
theorem odd_bl {b : Bool} {H2 : Hp} : Odd K (.bl b) H2 := ⟨.inr ⟨"bool", .base (.bl b), by decide +kernel, fun _ h => nomatch h⟩, rfl⟩
theorem odd_lst {p : Addr} {xs : List V} {H2 : Hp} (h : H2 p = some (.lst xs)) : Odd K (.ref p) H2 := ⟨.inr ⟨"list", .base (.lst h), by decide +kernel, fun _ h => nomatch h⟩, rfl⟩
theorem odd_tup {p : Addr} {xs : List V} {H2 : Hp} (h : H2 p = some (.tup xs)) : Odd K (.ref p) H2 := ⟨.inr ⟨"tuple", .base (.tup h), by decide +kernel, fun _ h => nomatch h⟩, rfl⟩
theorem odd_dct {p : Addr} {H2 : Hp} (h : H2 p = some (.dK [])) : Odd K (.ref p) H2 := ⟨.inr ⟨"dict", .base (.dK h), by decide +kernel, fun _ h => nomatch h⟩, rfl⟩
theorem not_ok_of {l : List Nat} {c : Nat} (hc : c ∈ l) (hn : c ∉ [97, 98, 99, 100, 101, 102, 103, 104]) : okS l = false := by
  cases e : okS l with
  | false => rfl
  | true => exact absurd ((word_ok e).2.2 c hc) hn
theorem not_ok_long {l : List Nat} (h : 60 < l.length) : okS l = false := by
  cases e : okS l with
  | false => rfl
  | true => exact absurd (word_ok e).2.1 (by omega)
/-- is None, is not None, is False as values -/
def rIsNo : R2 := fun x y H Q => y = .non ∧ Q (.bl (decide (x = .non))) H
def rNotNo : R2 := fun x y H Q => y = .non ∧ Q (.bl (!decide (x = .non))) H
theorem rv_isNo : RV rIsNo x .non H (.bl (decide (x = .non))) := fun H1 _ _ q => ⟨rfl, q H1 (Ex.refl H1)⟩
theorem rv_notNo : RV rNotNo x .non H (.bl (!decide (x = .non))) := fun H1 _ _ q => ⟨rfl, q H1 (Ex.refl H1)⟩
theorem rv_isB {a b : Bool} : RV rIsB (.bl a) (.bl b) H (.bl (decide (a = b))) := fun H1 _ _ q => ⟨a, b, rfl, rfl, q H1 (Ex.refl H1)⟩
theorem rv_notB {a b : Bool} : RV rNotB (.bl a) (.bl b) H (.bl (!decide (a = b))) := fun H1 _ _ q => ⟨a, b, rfl, rfl, q H1 (Ex.refl H1)⟩
/-- the least of a new list of texts -/
theorem ev_minS {ys : List (List Nat)} {m : List Nat} (h : EvL te σ H (ys.map fun l => V.str (S l))) (hm : m ∈ ys) (hl : ∀ y ∈ ys, ¬ y < m) : Ev (tCB (rMinS K) (tCons te tNil)) σ H (.str (S m)) := fun H1 e _ q =>
  h H1 e _ fun p H2 _ e2 hp => ⟨p, ys, rfl, sq_of hp, fun z => (by rw [z] at hm; cases hm), fun m' hm' hl' => by
    rw [lt_tri (hl m' hm') (hl' m hm)]
    exact q H2 e2⟩
/-- text.find(text, number) -/
def rFind3 : V → List V → Hp → VK → Prop := fun x xs H Q => ∃ (a b : Str) (i : Int), x = .str a ∧ xs = [.str b, .int i] ∧ Q (.int (Txt.find3 a b i)) H
theorem ev_find3 {a b : Str} {i : Int} (h1 : Ev ta σ H (.str a)) (h2 : Ev tb σ H (.str b)) (h3 : Ev tc σ H (.int i)) : Ev (tBM K "str" rFind3 ta (tCons tb (tCons tc tNil))) σ H (.int (Txt.find3 a b i)) := fun H1 e _ q =>
  h1 H1 e _ fun H2 e2 => ⟨rfl, h2 H2 (e.trans e2) _ fun H3 e3 => h3 H3 ((e.trans e2).trans e3) _ fun H4 e4 => ⟨a, b, i, rfl, rfl, q H4 ((e2.trans e3).trans e4)⟩⟩
def rMinI : List V → Hp → VK → Prop := fun xs H Q => ∃ i j, xs = [.int i, .int j] ∧ Q (.int (if j < i then j else i)) H
theorem ev_minI {i j : Int} (h1 : Ev ta σ H (.int i)) (h2 : Ev tb σ H (.int j)) : Ev (tCB rMinI (tCons ta (tCons tb tNil))) σ H (.int (if j < i then j else i)) := ev_cb (ea_cons h1 (ea_cons h2 ea_nil)) fun H1 _ _ q => ⟨i, j, rfl, q H1 (Ex.refl H1)⟩
end
theorem repr_small {l : List Nat} (h : l.length ≤ 1000) (hc : ∀ c ∈ l, c < 16 ^ 8) : plainR (.str (S l)) := by
  show (reprText (S l)).length ≤ sizeLine
  have := PySem.StrLaws.reprText_len (S l) hc
  have h2 : (S l).length = l.length := S_len l
  exact sz_of (by omega)
theorem repr_word {l : List Nat} (h : okS l = true) : plainR (.str (S l)) := by
  obtain ⟨_, h2, h3⟩ := word_ok h
  refine repr_small (by omega) fun c hc => ?_
  have := h3 c hc
  simp only [List.mem_cons, List.not_mem_nil, or_false] at this
  rcases this with rfl | rfl | rfl | rfl | rfl | rfl | rfl | rfl <;> decide
theorem repr_int {i : Int} (h : i.natAbs < 2 ^ 60) : plainR (.int i) := by
  show i.natAbs.log2 < 1920
  by_cases e : i.natAbs = 0
  · rw [e]
    decide
  · exact Nat.lt_of_lt_of_le ((Nat.log2_lt e).mpr h) (by decide)
def sp_law (K : PySem.W.Frag) : Sp := fun vs H Q _ => ∃ (a : Addr) (ns : List Int), vs = [.ref a] ∧ SqL K H a (ns.map V.int) ∧ ns.length ≤ 63 ∧ RetV (.bl true) H Q
theorem law_asked (K : PySem.W.Frag) (H : Hp) (a : Addr) (ns : List Int) (hl : ns.length ≤ 63) (_ : Only H) (hs : SqL K H a (ns.map V.int)) : sp_law K [.ref a] H (fun v _ => v = .bl true) fun _ _ _ => False :=
  ⟨a, ns, rfl, hs, hl, fun _ _ => rfl⟩
end Br
namespace Br
open PySem PySem.Spec PyProof.Rows L2 Evl SX
section
variable {K : PySem.W.Frag} {σ : L2.St} {H H' : Hp} {ta tb tc te : TE} {t u : TT} {x y z v : V} {D : Ends} {tu tw tz : TS} {g : TG}
/-- a loop over a tuple that is written in its head -/
theorem q_forNT {xs : List V} {tl : TE} (h : EvU tl σ H xs) (Pv : Addr → Nat → L2.St → Hp → Prop) (h0 : ∀ p H1, H p = none → Ex H H1 → H1 p = some (.tup xs) → Pv p 0 σ H1) (hl : ∀ p i σ' H', i ≤ xs.length → Pv p i σ' H' → SqT K H' p xs)
    (hs : ∀ p i x σ' H', xs[i]? = some x → Pv p i σ' H' → g x σ' H' fun σ2 H2 => tu { D with nx := Pv p (i + 1), ct := Pv p (i + 1), bk := tz D } σ2 H2) (hd : ∀ p σ' H', Pv p xs.length σ' H' → tz D σ' H') : tSeq (tFor (iTup K tl) g tu) tz D σ H :=
  h H (Ex.refl H) _ fun p H1 hp e h1 => ⟨p, rfl, ⟨xs, st_of h1⟩, for_tup (D := { D with nx := tz D }) (Pv p) (h0 p H1 hp e h1) (hl p) (hs p) (hd p)⟩
/-- two values that are one -/
theorem et_same (h1 : Ev ta σ H v) (h2 : Ev tb σ H v) (hs : scal v v = true) : EvT (tTest (tOp rNe ta tb)) σ H false := by
  have e := et_test (ev_op h1 h2 (rv_ne hs))
  rw [decide_eq_true rfl] at e
  exact e
theorem min30 (n : Nat) : 1 ≤ 1 + (if (n : Int) < 30 then (n : Int) else 30) ∧ 1 + (if (n : Int) < 30 then (n : Int) else 30) ≤ 31 := by
  split <;> omega
end
end Br
namespace Br
open PySem PySem.Spec PyProof.Rows L2 Evl SX
section
variable {K : PySem.W.Frag} {σ : L2.St} {H H' : Hp} {ta tb tc te : TE} {t u : TT} {x y z v : V} {D : Ends} {tu tw tz : TS} {g : TG} {P : V → Hp → Prop}
/-- a loop over a tuple that is written in its head, all items of one kind -/
theorem q_forP {t : TA} {n : Nat} (mono : ∀ v H1 H2, Ex H1 H2 → P v H1 → P v H2) (h : EvAll t σ H n P) (hn : n ≤ 1000) (I : L2.St → Prop) (h0 : I σ)
    (hs : ∀ (N : L2.St → Hp → Prop) x σ' H', (∀ σ2 H2, I σ2 → Ex H' H2 → N σ2 H2) → I σ' → Ex H H' → P x H' → g x σ' H' fun σ2 H2 => tu { D with nx := N, ct := N, bk := tz D } σ2 H2) (hd : ∀ σ' H', I σ' → Ex H H' → tz D σ' H') :
    tSeq (tFor (iTup K (tTup t)) g tu) tz D σ H := h H (Ex.refl H) _ fun vs H1 e1 hl hv => ⟨sz_of (by omega), fun p hp => ⟨p, rfl, ⟨vs, st_of upd_same⟩, for_tup (xs := vs) (D := { D with nx := tz D }) (fun _ σ' H' => I σ' ∧ Ex (upd H1 p (.tup vs)) H') ⟨h0, Ex.refl _⟩ (fun i σ' H' _ q => st_of (q.2 p _ upd_same))
      (fun i x σ' H' hx q => hs _ x σ' H' (fun σ2 H2 h2 e2 => ⟨h2, q.2.trans e2⟩) q.1 ((e1.trans (Ex.new hp)).trans q.2) (mono x H1 H' ((Ex.new hp).trans q.2) (hv x (List.mem_of_getElem? hx)))) (fun σ' H' q => hd σ' H' q.1 ((e1.trans (Ex.new hp)).trans q.2))⟩⟩
theorem s_forP {t : TA} {n : Nat} (mono : ∀ v H1 H2, Ex H1 H2 → P v H1 → P v H2) (h : EvAll t σ H n P) (hn : n ≤ 1000) (I : L2.St → Prop) (h0 : I σ)
    (hs : ∀ (N : L2.St → Hp → Prop) x σ' H', (∀ σ2 H2, I σ2 → Ex H' H2 → N σ2 H2) → I σ' → Ex H H' → P x H' → g x σ' H' fun σ2 H2 => tu { D with nx := N, ct := N, bk := D.nx } σ2 H2) (hd : ∀ σ' H', I σ' → Ex H H' → D.nx σ' H') :
    tFor (iTup K (tTup t)) g tu D σ H := q_forP (tz := fun D σ H => D.nx σ H) mono h hn I h0 hs hd
theorem ep_call {sp : Sp} {dvs vs : List V} {E : XK} {ta : TA} (h : EvA ta σ H vs) (hs : ∀ H1, Ex H H1 → ∀ Q : VK, (∀ v H2, Ex H1 H2 → P v H2 → Q v H2) → sp (vs ++ dvs) H1 Q E) : EvP (tCall sp dvs E ta) σ H P := fun H1 e Q q =>
  h H1 e _ fun H2 e2 => hs H2 (e.trans e2) Q fun v H3 e3 hv => q v H3 (e2.trans e3) hv
/-- a pair that is written, of two things that are known -/
def PairP (R : V → V → Hp → Prop) : V → Hp → Prop := fun v H => ∃ p x y, v = .ref p ∧ H p = some (.tup [x, y]) ∧ R x y H
theorem PairP.mono {R : V → V → Hp → Prop} (hr : ∀ x y H1 H2, Ex H1 H2 → R x y H1 → R x y H2) (v : V) (H1 H2 : Hp) (e : Ex H1 H2) (h : PairP R v H1) : PairP R v H2 := by
  obtain ⟨p, x, y, rfl, hp, q⟩ := h
  exact ⟨p, x, y, rfl, e p _ hp, hr x y H1 H2 e q⟩
theorem ep_pair {R : V → V → Hp → Prop} (h1 : Ev ta σ H x) (h2 : Ev tb σ H y) (hr : ∀ H2, Ex H H2 → R x y H2) : EvP (tTup (tCons ta (tCons tb tNil))) σ H (PairP R) :=
  ep_tup (eu_tup (ea_cons h1 (ea_cons h2 ea_nil)) (by show 2 ≤ 100000; decide)) fun p H2 e hp => ⟨p, x, y, rfl, hp, hr H2 e⟩
end
/-- the first turning of the one that is the other -/
def byL (l m : List Nat) : Option Nat := (List.range l.length).find? fun k => decide (turnL l k = m)
def optV : Option Nat → V
  | some k => .int k
  | none => .non
theorem find_some {n k : Nat} {p : Nat → Bool} (hk : k < n) (hp : p k = true) (hn : ∀ j, j < k → p j = false) : (List.range n).find? p = some k := by
  rw [List.find?_range_eq_some]
  exact ⟨hp, List.mem_range.mpr hk, fun j hj => by rw [hn j hj]; rfl⟩
theorem find_none {n : Nat} {p : Nat → Bool} (hn : ∀ j, j < n → p j = false) : (List.range n).find? p = none := by
  rw [List.find?_eq_none]
  intro j hj
  rw [hn j (List.mem_range.mp hj)]
  decide
theorem by_some {l m : List Nat} {k : Nat} (hk : k < l.length) (h : turnL l k = m) (hn : ∀ j, j < k → turnL l j ≠ m) : byL l m = some k := find_some hk (decide_eq_true h) fun j hj => decide_eq_false (hn j hj)
theorem by_none {l m : List Nat} (hn : ∀ j, j < l.length → turnL l j ≠ m) : byL l m = none := find_none fun j hj => decide_eq_false (hn j hj)
theorem by_bd {l m : List Nat} {k : Nat} (h : byL l m = some k) : k < l.length := List.mem_range.mp (List.mem_of_find?_eq_some h)
theorem repr_opt {l m : List Nat} (hl : l.length ≤ 1000) : plainR (optV (byL l m)) := by
  cases e : byL l m with
  | none => exact True.intro
  | some k =>
    have := by_bd e
    exact repr_int (by omega)
theorem optV_non (o : Option Nat) : decide (optV o = V.non) = !o.isSome := by
  cases o <;> rfl
/-- two words; two things of which one is no word -/
def Words (x y : V) (_ : Hp) : Prop := ∃ l m, x = .str (S l) ∧ y = .str (S m) ∧ okS l = true ∧ okS m = true
def OddOne (K : PySem.W.Frag) (x y : V) (H : Hp) : Prop := ThS K H x ∧ ThS K H y ∧ (isWordV x = false ∨ isWordV y = false)
theorem OddOne.mono {K : PySem.W.Frag} (x y : V) (H1 H2 : Hp) (e : Ex H1 H2) (h : OddOne K x y H1) : OddOne K x y H2 := ⟨ThS.mono e h.1, ThS.mono e h.2.1, h.2.2⟩
theorem ths_word {K : PySem.W.Frag} {H : Hp} {l : List Nat} (h : okS l = true) : ThS K H (.str (S l)) := .inl ⟨l, rfl, by have := (word_ok h).2.1; omega⟩
theorem scal_same {v : V} (h : plainR v) : scal v v = true := by
  cases v <;> first | rfl | exact h.elim
end Br
namespace Br
open PySem PySem.Spec PyProof.Rows L2 Evl SX

/-! ### texts in order -/
theorem lt_app {a b : List Nat} (h : a < b) (c : List Nat) : a < b ++ c := by
  induction a generalizing b with
  | nil =>
    cases b with
    | nil => exact absurd h (List.lt_irrefl _)
    | cons y b => exact List.nil_lt_cons _ _
  | cons x a ih =>
    cases b with
    | nil => exact absurd h (List.not_lt_nil _)
    | cons y b =>
      rw [List.cons_append]
      rcases List.cons_lt_cons_iff.mp h with h | ⟨h, h'⟩
      · exact List.cons_lt_cons_iff.mpr (.inl h)
      · exact List.cons_lt_cons_iff.mpr (.inr ⟨h, ih h'⟩)
theorem lt_apps {a b : List Nat} (h : a < b) (hn : ¬ a <+: b) (c d : List Nat) : a ++ c < b ++ d := by
  induction a generalizing b with
  | nil => exact absurd (List.nil_prefix) hn
  | cons x a ih =>
    cases b with
    | nil => exact absurd h (List.not_lt_nil _)
    | cons y b =>
      rw [List.cons_append, List.cons_append]
      rcases List.cons_lt_cons_iff.mp h with h | ⟨h, h'⟩
      · exact List.cons_lt_cons_iff.mpr (.inl h)
      · refine List.cons_lt_cons_iff.mpr (.inr ⟨h, ih h' fun z => hn ?_⟩)
        rw [h]
        exact List.cons_prefix_cons.mpr ⟨rfl, z⟩
theorem app_lt {c a b : List Nat} : c ++ a < c ++ b ↔ a < b := by
  induction c with
  | nil => exact Iff.rfl
  | cons x c ih =>
    rw [List.cons_append, List.cons_append, List.cons_lt_cons_iff]
    constructor
    · rintro (h | ⟨_, h⟩)
      · exact absurd h (Nat.lt_irrefl _)
      · exact ih.mp h
    · exact fun h => .inr ⟨rfl, ih.mpr h⟩
theorem pre_le {a b : List Nat} (h : a <+: b) : ¬ b < a := by
  obtain ⟨c, rfl⟩ := h
  intro z
  have z' : a ++ c < a ++ [] := by rw [List.append_nil]; exact z
  exact List.not_lt_nil _ (app_lt.mp z')
theorem lt_of_not {a b : List Nat} (h : ¬ b < a) (hne : a ≠ b) : a < b := by
  by_cases c : a < b
  · exact c
  · exact absurd (lt_tri c h) hne
theorem le_lt {a b c : List Nat} (h : ¬ b < a) (h' : b < c) : a < c := by
  by_cases e : a = b
  · rw [e]; exact h'
  · exact List.lt_trans (lt_of_not h e) h'
theorem lt_le {a b c : List Nat} (h : a < b) (h' : ¬ c < b) : a < c := by
  by_cases e : b = c
  · rw [← e]; exact h
  · exact List.lt_trans h (lt_of_not h' e)
theorem le_le {a b c : List Nat} (h : ¬ b < a) (h' : ¬ c < b) : ¬ c < a := fun z => h' (lt_le z h)

/-! ### primes: by their turnings, by their endings -/
def Lyn (l : List Nat) : Prop := 0 < l.length ∧ ∀ k, 1 ≤ k → k < l.length → l < turnL l k
def Suf (l : List Nat) : Prop := 0 < l.length ∧ ∀ k, 1 ≤ k → k < l.length → l < l.drop k
theorem lyn_of_suf {l : List Nat} (h : Suf l) : Lyn l := ⟨h.1, fun k k1 k2 => lt_app (h.2 k k1 k2) _⟩
theorem same_len {a b c d : List Nat} (hl : a.length = b.length) (h : a ++ c < b ++ d) : a < b ∨ (a = b ∧ c < d) := by
  induction a generalizing b with
  | nil =>
    have e : b = [] := List.length_eq_zero_iff.mp hl.symm
    subst e
    exact .inr ⟨rfl, h⟩
  | cons x a ih =>
    cases b with
    | nil => cases hl
    | cons y b =>
      rw [List.cons_append, List.cons_append] at h
      rcases List.cons_lt_cons_iff.mp h with g | ⟨rfl, g⟩
      · exact .inl (List.cons_lt_cons_iff.mpr (.inl g))
      · rcases ih (Nat.succ.inj hl) g with g2 | ⟨rfl, g2⟩
        · exact .inl (List.cons_lt_cons_iff.mpr (.inr ⟨rfl, g2⟩))
        · exact .inr ⟨rfl, g2⟩
theorem suf_of_lyn {l : List Nat} (h : Lyn l) : Suf l := by
  refine ⟨h.1, fun k k1 k2 => ?_⟩
  by_cases c : l < l.drop k
  · exact c
  exfalso
  -- the ending is not greater: it begins the word
  have hlt := h.2 k k1 k2
  have hne : l.drop k ≠ l := fun z => by
    have := congrArg List.length z
    rw [List.length_drop] at this
    omega
  have hs : l.drop k < l := lt_of_not c hne
  by_cases hp : l.drop k <+: l
  · obtain ⟨u, hu⟩ := hp
    have hul : u.length = k := by
      have := congrArg List.length hu
      rw [List.length_append, List.length_drop] at this
      omega
    -- l = s u, turned by k: s t
    have h1 : l.drop k ++ u < l.drop k ++ l.take k := by
      rw [hu]
      exact hlt
    have h2 : u < l.take k := app_lt.mp h1
    -- turned by as many as s has: u s
    have h3 := h.2 (l.length - k) (by omega) (by omega)
    have e : turnL l (l.length - k) = u ++ l.drop k := by
      have ed : l.drop (l.length - k) = u := by
        have := congrArg (List.drop (l.length - k)) hu
        rw [List.drop_append_of_le_length (by rw [List.length_drop]; exact Nat.le_refl _), List.drop_of_length_le (by rw [List.length_drop]; exact Nat.le_refl _)] at this
        exact this.symm
      have et : l.take (l.length - k) = l.drop k := by
        have := congrArg (List.take (l.length - k)) hu
        rw [List.take_append_of_le_length (by rw [List.length_drop]; exact Nat.le_refl _), List.take_of_length_le (by rw [List.length_drop]; exact Nat.le_refl _)] at this
        exact this.symm
      unfold turnL
      rw [ed, et]
    rw [e] at h3
    have h4 : l.take k ++ l.drop k < u ++ l.drop k := by
      rw [List.take_append_drop]
      exact h3
    rcases same_len (by rw [List.length_take, hul]; omega) h4 with h5 | ⟨_, h5⟩
    · exact List.lt_irrefl _ (List.lt_trans h2 h5)
    · exact List.lt_irrefl _ h5
  · have z := lt_apps hs hp (l.take k) []
    rw [List.append_nil] at z
    exact List.lt_irrefl _ (List.lt_trans hlt z)
/-- an ending, begun anywhere ahead of the end -/
theorem suf_le {l : List Nat} (h : Suf l) {k : Nat} (hk : k < l.length) : ¬ l.drop k < l := by
  by_cases e : k = 0
  · rw [e]
    exact List.lt_irrefl _
  · exact fun z => List.lt_irrefl _ (List.lt_trans z (h.2 k (by omega) hk))
theorem suf_cat {u v : List Nat} (hu : Suf u) (hv : Suf v) (h : u < v) : Suf (u ++ v) := by
  have huv : u ++ v < v := by
    by_cases hp : u <+: v
    · obtain ⟨t, ht⟩ := hp
      have htl : 0 < t.length := by
        cases t with
        | nil =>
          rw [List.append_nil] at ht
          rw [ht] at h
          exact absurd h (List.lt_irrefl _)
        | cons _ _ => exact Nat.succ_pos _
      have hd : v.drop u.length = t := by
        rw [← ht, List.drop_append_of_le_length (Nat.le_refl _), List.drop_of_length_le (Nat.le_refl _), List.nil_append]
      have hlen : v.length = u.length + t.length := by rw [← ht, List.length_append]
      have z := hv.2 u.length hu.1 (by omega)
      rw [hd] at z
      have z2 : u ++ v < u ++ t := app_lt.mpr z
      rw [ht] at z2
      exact z2
    · have z := lt_apps h hp v []
      rw [List.append_nil] at z
      exact z
  refine ⟨by rw [List.length_append]; have := hu.1; omega, fun k k1 k2 => ?_⟩
  by_cases hk : k < u.length
  · have z := hu.2 k k1 hk
    rw [List.drop_append_of_le_length (by omega)]
    refine lt_apps z (fun hp => ?_) v v
    have := hp.length_le
    rw [List.length_drop] at this
    omega
  · have e : (u ++ v).drop k = v.drop (k - u.length) := by
      rw [List.drop_append, List.drop_of_length_le (by omega), List.nil_append]
    rw [e]
    rw [List.length_append] at k2
    by_cases h0 : k - u.length = 0
    · rw [h0]
      exact huv
    · exact List.lt_trans huv (hv.2 _ (by omega) (by omega))
theorem suf_one (c : Nat) : Suf [c] := ⟨Nat.succ_pos _, fun k k1 k2 => absurd k2 (by rw [List.length_singleton]; omega)⟩

/-! ### the stack of primes, its top first -/
def push : List (List Nat) → List Nat → List (List Nat)
  | [], w => [w]
  | t :: rs, w => if t < w then push rs (t ++ w) else w :: t :: rs
def partsR (l : List Nat) : List (List Nat) := l.foldl (fun rs c => push rs [c]) []
def partsL (l : List Nat) : List (List Nat) := (partsR l).reverse
/-- primes, none greater than the one ahead of it (the top first: none less than the one above it) -/
def Down (rs : List (List Nat)) : Prop := (∀ t ∈ rs, Suf t) ∧ rs.Pairwise fun a b => ¬ b < a
theorem push_down : ∀ (rs : List (List Nat)) (w : List Nat), Down rs → Suf w → Down (push rs w) ∧ (push rs w).reverse.flatten = rs.reverse.flatten ++ w
  | [], w, _, hw => ⟨⟨fun t ht => by rw [List.mem_singleton.mp ht]; exact hw, List.pairwise_singleton _ _⟩, by show ([w] : List (List Nat)).reverse.flatten = _; simp⟩
  | t :: rs, w, h, hw => by
    unfold push
    by_cases c : t < w
    · rw [if_pos c]
      have hd : Down rs := ⟨fun u hu => h.1 u (List.mem_cons_of_mem _ hu), (List.pairwise_cons.mp h.2).2⟩
      obtain ⟨h1, h2⟩ := push_down rs (t ++ w) hd (suf_cat (h.1 t List.mem_cons_self) hw c)
      refine ⟨h1, ?_⟩
      rw [h2]
      simp
    · rw [if_neg c]
      refine ⟨⟨fun u hu => ?_, List.pairwise_cons.mpr ⟨fun u hu => ?_, h.2⟩⟩, by simp⟩
      · rcases List.mem_cons.mp hu with rfl | hu
        · exact hw
        · exact h.1 u hu
      · rcases List.mem_cons.mp hu with rfl | hu
        · exact c
        · exact le_le c ((List.pairwise_cons.mp h.2).1 u hu)
theorem partsR_from : ∀ (l : List Nat) (rs : List (List Nat)), Down rs → Down (l.foldl (fun rs c => push rs [c]) rs) ∧ (l.foldl (fun rs c => push rs [c]) rs).reverse.flatten = rs.reverse.flatten ++ l
  | [], rs, h => ⟨h, by simp⟩
  | c :: l, rs, h => by
    obtain ⟨h1, h2⟩ := push_down rs [c] h (suf_one c)
    obtain ⟨h3, h4⟩ := partsR_from l _ h1
    refine ⟨h3, ?_⟩
    show (l.foldl _ (push rs [c])).reverse.flatten = _
    rw [h4, h2, List.append_assoc]
    rfl
theorem partsR_ok (l : List Nat) : Down (partsR l) ∧ (partsL l).flatten = l := by
  have h := partsR_from l [] ⟨(fun _ h => nomatch h), List.Pairwise.nil⟩
  exact ⟨h.1, by have e := h.2; rw [List.reverse_nil, List.flatten_nil, List.nil_append] at e; exact e⟩
/-- primes that fall, in their own order -/
def Falls (ws : List (List Nat)) : Prop := (∀ t ∈ ws, Suf t) ∧ ws.Pairwise fun a b => ¬ a < b
theorem partsL_ok (l : List Nat) : Falls (partsL l) ∧ (partsL l).flatten = l := by
  obtain ⟨h1, h2⟩ := partsR_ok l
  exact ⟨⟨fun t ht => h1.1 t (List.mem_reverse.mp ht), List.pairwise_reverse.mpr h1.2⟩, h2⟩
theorem push_len : ∀ (rs : List (List Nat)) (w : List Nat), (push rs w).length ≤ rs.length + 1
  | [], w => Nat.le_refl _
  | t :: rs, w => by
    unfold push
    split
    · have := push_len rs (t ++ w)
      rw [List.length_cons]
      omega
    · exact Nat.le_refl _
theorem part_len {ws : List (List Nat)} {t : List Nat} (h : t ∈ ws) : t.length ≤ ws.flatten.length := by
  obtain ⟨a, b, rfl⟩ := List.append_of_mem h
  simp
  omega
theorem many_len : ∀ {ws : List (List Nat)}, (∀ t ∈ ws, Suf t) → ws.length ≤ ws.flatten.length
  | [], _ => Nat.le_refl _
  | w :: ws, h => by
    have h1 := (h w List.mem_cons_self).1
    have h2 := many_len (ws := ws) fun t ht => h t (List.mem_cons_of_mem _ ht)
    rw [List.flatten_cons, List.length_append, List.length_cons]
    omega
/-- just one way -/
theorem begins {vs : List (List Nat)} : ∀ {r rest : List Nat}, r ≠ [] → vs.flatten = r ++ rest → ∃ (x : List Nat) (v : List Nat), x ≠ [] ∧ v ∈ vs ∧ x <+: v ∧ x <:+ r := by
  induction vs with
  | nil =>
    intro r rest hr h
    have : r = [] := (List.append_eq_nil_iff.mp h.symm).1
    exact absurd this hr
  | cons v vs ih =>
    intro r rest hr h
    rw [List.flatten_cons] at h
    by_cases hl : r.length ≤ v.length
    · refine ⟨r, v, hr, List.mem_cons_self, ?_, List.suffix_refl _⟩
      have e := congrArg (List.take r.length) h
      rw [List.take_append_of_le_length hl, List.take_append_of_le_length (Nat.le_refl _), List.take_of_length_le (Nat.le_refl _)] at e
      rw [← e]
      exact List.take_prefix _ _
    · have e1 := congrArg (List.take v.length) h
      rw [List.take_append_of_le_length (Nat.le_refl _), List.take_of_length_le (Nat.le_refl _), List.take_append_of_le_length (by omega)] at e1
      have e2 := congrArg (List.drop v.length) h
      rw [List.drop_append_of_le_length (Nat.le_refl _), List.drop_of_length_le (Nat.le_refl _), List.nil_append, List.drop_append_of_le_length (by omega)] at e2
      have hne : r.drop v.length ≠ [] := fun z => by
        have := congrArg List.length z
        rw [List.length_drop, List.length_nil] at this
        omega
      obtain ⟨x, u, h1, h2, h3, h4⟩ := ih hne e2
      exact ⟨x, u, h1, List.mem_cons_of_mem _ h2, h3, h4.trans (List.drop_suffix _ _)⟩
theorem first_le {w v : List Nat} {ws vs : List (List Nat)} (hw : Falls (w :: ws)) (hv : Falls (v :: vs)) (h : (w :: ws).flatten = (v :: vs).flatten) : w.length ≤ v.length := by
  by_cases c : w.length ≤ v.length
  · exact c
  exfalso
  rw [List.flatten_cons, List.flatten_cons] at h
  have sw := hw.1 w List.mem_cons_self
  have sv := hv.1 v List.mem_cons_self
  -- w = v r
  have e1 := congrArg (List.take v.length) h
  rw [List.take_append_of_le_length (by omega), List.take_append_of_le_length (Nat.le_refl _), List.take_of_length_le (Nat.le_refl _)] at e1
  have e2 := congrArg (List.drop v.length) h
  rw [List.drop_append_of_le_length (by omega), List.drop_append_of_le_length (Nat.le_refl _), List.drop_of_length_le (Nat.le_refl _), List.nil_append] at e2
  have hne : w.drop v.length ≠ [] := fun z => by
    have := congrArg List.length z
    rw [List.length_drop, List.length_nil] at this
    omega
  obtain ⟨x, u, h1, h2, h3, ⟨q, hq⟩⟩ := begins hne e2.symm
  have hx : x = w.drop (v.length + q.length) := by
    have e := congrArg (List.drop q.length) hq
    rw [List.drop_append_of_le_length (Nat.le_refl _), List.drop_of_length_le (Nat.le_refl _), List.nil_append, List.drop_drop] at e
    exact e
  have hxl : v.length + q.length < w.length := by
    by_cases d : v.length + q.length < w.length
    · exact d
    · rw [List.drop_of_length_le (by omega)] at hx
      exact absurd hx h1
  have z1 : w < x := by
    rw [hx]
    exact sw.2 _ (by have := sv.1; omega) hxl
  have z2 : ¬ u < x := pre_le h3
  have z3 : ¬ v < u := (List.pairwise_cons.mp hv.2).1 u h2
  have z4 : ¬ w < v := pre_le (by rw [← e1]; exact List.take_prefix _ _)
  exact z4 (lt_le (lt_le z1 z2) z3)
theorem one_way : ∀ {ws vs : List (List Nat)}, Falls ws → Falls vs → ws.flatten = vs.flatten → ws = vs
  | [], [], _, _, _ => rfl
  | [], v :: vs, _, hv, h => by
    have := (hv.1 v List.mem_cons_self).1
    have e := congrArg List.length h
    rw [List.flatten_nil, List.flatten_cons, List.length_append, List.length_nil] at e
    omega
  | w :: ws, [], hw, _, h => by
    have := (hw.1 w List.mem_cons_self).1
    have e := congrArg List.length h
    rw [List.flatten_nil, List.flatten_cons, List.length_append, List.length_nil] at e
    omega
  | w :: ws, v :: vs, hw, hv, h => by
    have hl : w.length = v.length := Nat.le_antisymm (first_le hw hv h) (first_le hv hw h.symm)
    rw [List.flatten_cons, List.flatten_cons] at h
    obtain ⟨e1, e2⟩ := List.append_inj h hl
    subst e1
    have e := one_way (ws := ws) (vs := vs) ⟨fun t ht => hw.1 t (List.mem_cons_of_mem _ ht), (List.pairwise_cons.mp hw.2).2⟩ ⟨fun t ht => hv.1 t (List.mem_cons_of_mem _ ht), (List.pairwise_cons.mp hv.2).2⟩ e2
    rw [e]
theorem parts_uniq {ws : List (List Nat)} {l : List Nat} (h : Falls ws) (e : ws.flatten = l) : ws = partsL l := one_way h (partsL_ok l).1 (e.trans (partsL_ok l).2.symm)
theorem parts_one {w : List Nat} (h : Suf w) : partsL w = [w] := (parts_uniq (ws := [w]) ⟨fun t ht => by rw [List.mem_singleton.mp ht]; exact h, List.pairwise_singleton _ _⟩ (by simp)).symm
/-- the last prime is the least ending -/
theorem last_le : ∀ {ws : List (List Nat)} {z : List Nat}, Falls (ws ++ [z]) → ∀ k, k < (ws ++ [z]).flatten.length → ¬ (ws ++ [z]).flatten.drop k < z
  | [], z, h, k, hk => by
    have e : ([] ++ [z] : List (List Nat)).flatten = z := by simp
    rw [e] at hk ⊢
    exact suf_le (h.1 z (by simp)) hk
  | w :: ws, z, h, k, hk => by
    have hz : Falls (ws ++ [z]) := ⟨fun t ht => h.1 t (List.mem_cons_of_mem _ ht), (List.pairwise_cons.mp h.2).2⟩
    rw [List.cons_append, List.flatten_cons] at hk ⊢
    by_cases c : k < w.length
    · rw [List.drop_append_of_le_length (by omega)]
      have h1 : ¬ w.drop k < w := suf_le (h.1 w List.mem_cons_self) c
      have h2 : ¬ w < z := (List.pairwise_cons.mp h.2).1 z (by simp)
      have h3 : ¬ (w.drop k ++ (ws ++ [z]).flatten) < w.drop k := pre_le (List.prefix_append _ _)
      exact le_le (le_le h2 h1) h3
    · rw [List.drop_append, List.drop_of_length_le (by omega), List.nil_append]
      rw [List.length_append] at hk
      exact last_le hz _ (by omega)
end Br
namespace Br
open PySem PySem.Spec PyProof.Rows L2 Evl SX

section
variable {K : PySem.W.Frag} {σ : L2.St} {H H' : Hp} {ta tb tc te : TE} {t : TT} {x y z v : V} {P : V → Hp → Prop}
/-- the truth of a list -/
theorem et_truL {p : Addr} {xs : List V} (h : Ev ta σ H (.ref p)) (hp : SqL K H p xs) : EvT (fun σ H Q => ta σ H fun x H' => ∃ k, TruV K x H' k ∧ Q k H') σ H (!xs.isEmpty) := fun H1 e Q q =>
  h H1 e _ fun H2 e2 => ⟨_, .inl ⟨xs, ex_l (e.trans e2) hp, rfl⟩, q H2 e2⟩
/-- a stretch of a new list -/
theorem el_slN {tl th : TO} {xs : List V} {lo hi : Option Int} (h : EvL te σ H xs) (h1 : EvO tl σ H lo) (h2 : EvO th σ H hi) : EvL (tSl (rSlL K) te tl th) σ H (cutV xs lo hi) := fun H1 e _ q =>
  h H1 e _ fun p H2 hp e2 h2' => h1 H2 (e.trans e2) _ fun H3 e3 => h2 H3 ((e.trans e2).trans e3) _ fun H4 e4 => ⟨p, xs, rfl, sq_of (e4 p _ (e3 p _ h2')), fun r hr => q r _ (fresh_back ((e2.trans e3).trans e4) hr) (((e2.trans e3).trans e4).trans (Ex.new hr)) upd_same⟩
theorem cutV_from (xs : List V) (n : Nat) : cutV xs (some (n : Int)) none = xs.drop n := by
  unfold cutV
  rw [HT.sIx_nat, HT.sIx_none]
  by_cases hn : n ≤ xs.length
  · rw [Nat.min_eq_left hn, List.take_of_length_le (by rw [List.length_drop]; omega)]
  · rw [Nat.min_eq_right (by omega), List.drop_of_length_le (Nat.le_refl _), List.drop_of_length_le (by omega)]
    simp

/-! ### lists as data -/
mutual
theorem dp_mono (e : Ex H H') : ∀ (d : PyData) (v : V), Dp K H v d → Dp K H' v d
  | .none, _, .non => .non
  | .bool _, _, .bl b => .bl b
  | .int _, _, .int i => .int i
  | .str _, _, .str x => .str x
  | .list ds, _, .lst h a => .lst (ex_l e h) (dpa_mono e ds _ a)
  | .tuple ds, _, .tup h a => .tup (ex_t e h) (dpa_mono e ds _ a)
theorem dpa_mono (e : Ex H H') : ∀ (ds : List PyData) (vs : List V), DpAll K H vs ds → DpAll K H' vs ds
  | [], _, .nil => .nil
  | d :: ds, _, .cons h a => .cons (dp_mono e d _ h) (dpa_mono e ds _ a)
end
def dS (l : List Nat) : PyData := .str (S l)
def sV (l : List Nat) : V := .str (S l)
theorem dpa_strs : ∀ ls : List (List Nat), DpAll K H (ls.map sV) (ls.map dS)
  | [] => .nil
  | l :: ls => .cons (.str (S l)) (dpa_strs ls)
theorem dpa_ints : ∀ ns : List Int, DpAll K H (ns.map V.int) (ns.map PyData.int)
  | [] => .nil
  | n :: ns => .cons (.int n) (dpa_ints ns)
def EvD (K : PySem.W.Frag) (te : TE) (σ : L2.St) (H : Hp) (d : PyData) : Prop := EvP te σ H fun v H2 => Dp K H2 v d
theorem ed_strs {ls : List (List Nat)} (h : EvL te σ H (ls.map sV)) : EvD K te σ H (.list (ls.map dS)) := ep_lst h fun p H2 _ hp => .lst (sq_of hp) (dpa_strs ls)
theorem ed_ints {ns : List Int} (h : EvL te σ H (ns.map V.int)) : EvD K te σ H (.list (ns.map PyData.int)) := ep_lst h fun p H2 _ hp => .lst (sq_of hp) (dpa_ints ns)
theorem ed_var {p : Addr} {ls : List (List Nat)} (h : Ev te σ H (.ref p)) (hp : SqL K H p (ls.map sV)) : EvD K te σ H (.list (ls.map dS)) := ep_of h fun H2 e => .lst (ex_l e hp) (dpa_strs ls)
theorem ed_nil : EvD K (tLst tNil) σ H (.list []) := ep_lst (xs := []) (el_lst ea_nil (by decide)) fun p H2 _ hp => .lst (sq_of hp) .nil
theorem ed_one {d : PyData} (h : EvD K te σ H d) : EvD K (tLst (tCons te tNil)) σ H (.list [d]) := fun H1 e Q q =>
  h H1 e _ fun v H2 e2 hv => ⟨sz_of (by show 1 ≤ 100000; decide), fun p hp => q _ _ (e2.trans (Ex.new hp)) (.lst (sq_of upd_same) (.cons (dp_mono (Ex.new hp) d v hv) .nil))⟩
theorem ev_eqD {d e : PyData} (ha : EvD K ta σ H d) (hb : ∀ H1, Ex H H1 → EvD K tb σ H1 e) (h1 : SeqAt.shaped d = true) (h2 : SeqAt.shaped e = true) : Ev (tOp (rEqD K) ta tb) σ H (.bl (PyData.eqv d e)) := fun H1 e1 Q q =>
  ha H1 e1 _ fun v H2 e2 hv => hb H2 (e1.trans e2) H2 (Ex.refl H2) _ fun u H3 e3 hu => ⟨d, e, dp_mono e3 d v hv, hu, h1, h2, q H3 (e2.trans e3)⟩
theorem ev_neD {d e : PyData} (ha : EvD K ta σ H d) (hb : ∀ H1, Ex H H1 → EvD K tb σ H1 e) (h1 : SeqAt.shaped d = true) (h2 : SeqAt.shaped e = true) : Ev (tOp (rNeD K) ta tb) σ H (.bl (!PyData.eqv d e)) := fun H1 e1 Q q =>
  ha H1 e1 _ fun v H2 e2 hv => hb H2 (e1.trans e2) H2 (Ex.refl H2) _ fun u H3 e3 hu => ⟨d, e, dp_mono e3 d v hv, hu, h1, h2, q H3 (e2.trans e3)⟩
/-- letters of a text that lies in Python -/
def Lays (l : List Nat) : Prop := ∀ c ∈ l, c < 1114112
theorem lays_word {l : List Nat} (h : ∀ c ∈ l, c ∈ abc) : Lays l := fun c hc => by
  have := h c hc
  simp only [abc, List.mem_cons, List.not_mem_nil, or_false] at this
  omega
theorem lay_str {l : List Nat} (h : Lays l) : (dS l).canLay0 = true := by
  show PySem.PyData.strOk (S l) = true
  unfold PySem.PyData.strOk
  simp only [← Array.all_toList, List.all_eq_true, decide_eq_true_eq]
  exact h
theorem lay_strs : ∀ {ls : List (List Nat)}, (∀ l ∈ ls, Lays l) → PyData.canLayAll0 (ls.map dS) = true
  | [], _ => by simp [PyData.canLayAll0]
  | l :: ls, h => by
    rw [List.map_cons]
    unfold PyData.canLayAll0
    rw [lay_str (h l List.mem_cons_self), lay_strs fun m hm => h m (List.mem_cons_of_mem _ hm)]
    rfl
theorem deep_strs : ∀ ls : List (List Nat), PyData.depthAll (ls.map dS) = 0
  | [] => by simp [PyData.depthAll]
  | l :: ls => by
    rw [List.map_cons]
    unfold PyData.depthAll
    rw [deep_strs ls]
    simp [dS, PyData.depth]
theorem shape_strs {ls : List (List Nat)} (h : ∀ l ∈ ls, Lays l) : SeqAt.shaped (.list (ls.map dS)) = true := by
  unfold SeqAt.shaped
  have e1 : (PyData.list (ls.map dS)).canLay0 = true := by
    unfold PyData.canLay0
    exact lay_strs h
  have e2 : (PyData.list (ls.map dS)).depth = 1 := by
    unfold PyData.depth
    rw [deep_strs]
  rw [e1, e2]
  rfl
theorem lay_ints : ∀ ns : List Int, PyData.canLayAll0 (ns.map PyData.int) = true
  | [] => by simp [PyData.canLayAll0]
  | n :: ns => by
    rw [List.map_cons]
    unfold PyData.canLayAll0
    rw [lay_ints ns]
    simp [PyData.canLay0]
theorem deep_ints : ∀ ns : List Int, PyData.depthAll (ns.map PyData.int) = 0
  | [] => by simp [PyData.depthAll]
  | n :: ns => by
    rw [List.map_cons]
    unfold PyData.depthAll
    rw [deep_ints ns]
    simp [PyData.depth]
theorem shape_ints (ns : List Int) : SeqAt.shaped (.list (ns.map PyData.int)) = true := by
  unfold SeqAt.shaped
  have e1 : (PyData.list (ns.map PyData.int)).canLay0 = true := by
    unfold PyData.canLay0
    exact lay_ints ns
  have e2 : (PyData.list (ns.map PyData.int)).depth = 1 := by
    unfold PyData.depth
    rw [deep_ints]
  rw [e1, e2]
  rfl
theorem shape_nil : SeqAt.shaped (.list []) = true := shape_ints []
theorem eqv_strs : ∀ ls ms : List (List Nat), PyData.eqvAll (ls.map dS) (ms.map dS) = decide (ls = ms)
  | [], [] => by simp [PyData.eqvAll]
  | [], m :: ms => by simp [PyData.eqvAll]
  | l :: ls, [] => by simp [PyData.eqvAll]
  | l :: ls, m :: ms => by
    rw [List.map_cons, List.map_cons]
    unfold PyData.eqvAll
    rw [eqv_strs ls ms]
    show ((S l == S m) && decide (ls = ms)) = _
    rw [S_beq_eq]
    simp
theorem eqv_nil (ds : List PyData) : PyData.eqv (.list ds) (.list []) = ds.isEmpty := by
  cases ds <;> simp [PyData.eqv, PyData.eqvAll]
/-- [..] == [], [..] != [] of texts, of numbers -/
theorem ev_noS {ls : List (List Nat)} (h : EvL ta σ H (ls.map sV)) (hl : ∀ l ∈ ls, Lays l) : Ev (tOp (rEqD K) ta (tLst tNil)) σ H (.bl ls.isEmpty) := by
  have e := ev_eqD (K := K) (ed_strs h) (fun H1 _ => ed_nil) (shape_strs hl) shape_nil
  rw [eqv_nil, List.isEmpty_map] at e
  exact e
theorem ev_noI {ns : List Int} (h : EvL ta σ H (ns.map V.int)) : Ev (tOp (rEqD K) ta (tLst tNil)) σ H (.bl ns.isEmpty) := by
  have e := ev_eqD (K := K) (ed_ints h) (fun H1 _ => ed_nil) (shape_ints ns) shape_nil
  rw [eqv_nil, List.isEmpty_map] at e
  exact e
theorem ev_anyS {ls : List (List Nat)} (h : EvL ta σ H (ls.map sV)) (hl : ∀ l ∈ ls, Lays l) : Ev (tOp (rNeD K) ta (tLst tNil)) σ H (.bl (!ls.isEmpty)) := by
  have e := ev_neD (K := K) (ed_strs h) (fun H1 _ => ed_nil) (shape_strs hl) shape_nil
  rw [eqv_nil, List.isEmpty_map] at e
  exact e
/-- sep.join(list that stands), the sep nothing -/
theorem ev_joinV {p : Addr} {ys : List (List Nat)} (h0 : Ev ta σ H (.str (S []))) (h : Ev te σ H (.ref p)) (hp : SqL K H p (ys.map sV)) (hl : (ys.map (·.length)).sum ≤ 100000) : Ev (tM1 (rJoin K) ta te) σ H (.str (S ys.flatten)) := fun H1 e _ q =>
  h0 H1 e _ fun H2 e2 => ⟨⟨_, rfl⟩, h H2 (e.trans e2) _ fun H3 e3 => ⟨S [], p, ys.map S, rfl, rfl, .inl (by rw [List.map_map]; exact ex_l ((e.trans e2).trans e3) hp), by
    rw [lens]
    show _ + _ * 0 ≤ _
    omega, by
    rw [join_S, joinE]
    exact q H3 (e2.trans e3)⟩⟩
/-- a comprehension over two lists at once, the first one standing, the second one new -/
theorem el_lcZ {p : Addr} {xs ys : List V} {j1 j2 : Nat} {vs : List Nat} (f : Nat → Bool) (w : Nat → V) (ha : Ev ta σ H (.ref p)) (hx : SqL K H p xs) (hb : ∀ H1, Ex H H1 → EvL tb σ H1 ys) (hn : min xs.length ys.length ≤ 40000)
    (hw : ∀ x y, wipe (((wipe σ vs).set j1 (some x)).set j2 (some y)) vs = wipe σ vs)
    (ht : ∀ (i : Nat) (x y : V) H1, Ex H H1 → xs[i]? = some x → ys[i]? = some y → EvT t (((wipe σ vs).set j1 (some x)).set j2 (some y)) H1 (f i))
    (he : ∀ (i : Nat) (x y : V) H1, Ex H H1 → xs[i]? = some x → ys[i]? = some y → f i = true → Ev te (((wipe σ vs).set j1 (some x)).set j2 (some y)) H1 (w i)) :
    EvL (tLc (iZip K (tCons ta (tCons tb tNil))) (gTup K 2 (gCons (gName j1) (gCons (gName j2) gNil))) t te vs) σ H (given (min xs.length ys.length) f w) := fun H0 e Q q =>
  ha H0 e _ fun H1 e1 => hb H1 (e.trans e1) H1 (Ex.refl H1) _ fun r H2 _ e2 h2 => ⟨p, r, xs, ys, rfl, ex_l ((e.trans e1).trans e2) hx, sq_of h2, fun Dl hD =>
    lc_it (walk_zip (K := K) (a := p) (b := r) (xs := xs) (ys := ys) rfl) (Cw H2 f w Dl) ⟨hD, Ex.new hD, upd_same⟩ (fun i H' _ c => ⟨ex_l (((e.trans e1).trans e2).trans c.2.1) hx, sq_of (c.2.1 r _ h2)⟩)
      (fun i v H3 H4 hi c y => by
        obtain ⟨T, a, b, rfl, hT, rfl, ea, eb⟩ := y
        have c' : Cw H2 f w Dl i (upd H3 T (.tup [a, b])) := ⟨c.1, c.2.1.trans (Ex.new hT), by rw [upd_ne (ne_of_none c.2.2 hT)]; exact c.2.2⟩
        refine ⟨T, _, rfl, st_of upd_same, rfl, _, _, rfl, _, _, rfl, rfl, hw a b, ?_⟩
        exact cw_turn c' (by omega) (ht i a b H2 ((e.trans e1).trans e2) ea eb) (fun hf => he i a b H2 ((e.trans e1).trans e2) ea eb hf))
      (fun H3 c => q Dl H3 (fresh_back (e1.trans e2) c.1) ((e1.trans e2).trans c.2.1) c.2.2)⟩
/-- a comprehension over numbers from lo on, below n -/
theorem el_lcR2 {t1 : TA} {j : Nat} {vs : List Nat} {lo n : Int} (f : Nat → Bool) (w : Nat → V) (h : EvA t1 σ H [.int lo, .int n]) (hn : 0 ≤ lo ∧ lo ≤ 1000 ∧ 0 ≤ n ∧ n ≤ 40000) (hw : ∀ x, wipe ((wipe σ vs).set j (some x)) vs = wipe σ vs)
    (ht : ∀ (i : Nat) H1, Ex H H1 → lo + (i : Int) < n → EvT t ((wipe σ vs).set j (some (.int (lo + (i : Int))))) H1 (f i)) (he : ∀ (i : Nat) H1, Ex H H1 → lo + (i : Int) < n → f i = true → Ev te ((wipe σ vs).set j (some (.int (lo + (i : Int))))) H1 (w i)) :
    EvL (tLc (iRng2 t1) (gName j) t te vs) σ H (given (n - lo).toNat f w) := fun H0 e Q q => h H0 e _ fun H1 e1 => ⟨lo, n, rfl, ⟨by omega, by omega, by omega, by omega⟩, fun Dl hD =>
  lc_range (lo := lo) (n := (n - lo).toNat) (Cw H1 f w Dl) ⟨hD, Ex.new hD, upd_same⟩ (fun i H' hi c => ⟨hw _, cw_turn c (by omega) (ht i H1 (e.trans e1) (by omega)) (fun hf => he i H1 (e.trans e1) (by omega) hf)⟩) (fun H' c => q Dl H' (fresh_back e1 c.1) (e1.trans c.2.1) c.2.2)⟩
end
theorem given_none {n : Nat} {f : Nat → Bool} {v : Nat → V} (h : ∀ i, i < n → f i = false) : given n f v = [] := by
  unfold given
  have : (List.range n).filter f = [] := List.filter_eq_nil_iff.mpr fun i hi => by rw [h i (List.mem_range.mp hi)]; decide
  rw [this]
  rfl
/-- prime, by trying all turnings -/
def primeB (l : List Nat) : Bool := ((turnsL l).drop 1).all fun t => decide (l < t)
theorem drop_turns (l : List Nat) : (turnsL l).drop 1 = (List.range (l.length - 1)).map fun k => turnL l (1 + k) := by
  unfold turnsL
  cases e : l.length with
  | zero => rfl
  | succ n =>
    rw [List.range_succ_eq_map, List.map_cons, List.map_map]
    show (List.range n).map _ = _
    refine List.map_congr_left fun k _ => ?_
    show turnL l (k + 1) = turnL l (1 + k)
    rw [Nat.add_comm]
theorem primeB_iff {l : List Nat} (hl : 0 < l.length) : primeB l = true ↔ Lyn l := by
  unfold primeB
  rw [drop_turns, List.all_map, List.all_eq_true]
  constructor
  · intro h
    refine ⟨hl, fun k k1 k2 => ?_⟩
    have := h (k - 1) (List.mem_range.mpr (by omega))
    have e : 1 + (k - 1) = k := by omega
    simp only [Function.comp, e] at this
    exact of_decide_eq_true this
  · intro h k hk
    have := List.mem_range.mp hk
    exact decide_eq_true (h.2 (1 + k) (by omega) (by omega))
theorem primeB_suf {l : List Nat} (h : Suf l) : primeB l = true := (primeB_iff h.1).mpr (lyn_of_suf h)
theorem suf_primeB {l : List Nat} (hl : 0 < l.length) (h : primeB l = true) : Suf l := suf_of_lyn ((primeB_iff hl).mp h)
theorem parts_word {l w : List Nat} (h : okS l = true) (hw : w ∈ partsL l) : okS w = true := by
  obtain ⟨h1, h2⟩ := partsL_ok l
  obtain ⟨w1, w2, w3⟩ := word_ok h
  have hp := (h1.1 w hw).1
  have hle := part_len hw
  rw [h2] at hle
  refine ok_word hp (by omega) fun c hc => w3 c ?_
  rw [← h2]
  exact List.mem_flatten.mpr ⟨w, hw, hc⟩
theorem parts_many {l : List Nat} (h : okS l = true) : (partsL l).length ≤ 60 := by
  obtain ⟨h1, h2⟩ := partsL_ok l
  have := many_len h1.1
  rw [h2] at this
  have := (word_ok h).2.1
  omega
theorem sum_lens : ∀ ws : List (List Nat), (ws.map (·.length)).sum = ws.flatten.length
  | [] => rfl
  | w :: ws => by
    rw [List.map_cons, List.sum_cons, sum_lens ws, List.flatten_cons, List.length_append]
end Br
namespace Br
open PySem PySem.Spec PyProof.Rows L2 Evl SX

/-! ### lists of lists of texts -/
def LLs (H : Hp) (xs : List V) (lss : List (List (List Nat))) : Prop := xs.length = lss.length ∧ ∀ (i : Nat) (x : V) (ws : List (List Nat)), xs[i]? = some x → lss[i]? = some ws → ∃ q, x = .ref q ∧ H q = some (.lst (ws.map sV))
def IsLL (H : Hp) (v : V) (lss : List (List (List Nat))) : Prop := ∃ p xs, v = .ref p ∧ H p = some (.lst xs) ∧ LLs H xs lss
theorem LLs.mono {H H' : Hp} {xs : List V} {lss : List (List (List Nat))} (e : Ex H H') (h : LLs H xs lss) : LLs H' xs lss := ⟨h.1, fun i x ws hx hw => by
  obtain ⟨q, e1, e2⟩ := h.2 i x ws hx hw
  exact ⟨q, e1, e q _ e2⟩⟩
theorem LLs.nil {H : Hp} : LLs H [] [] := ⟨rfl, fun i x ws hx _ => by cases hx⟩
theorem LLs.app {H : Hp} {xs ys : List V} {ls ms : List (List (List Nat))} (h1 : LLs H xs ls) (h2 : LLs H ys ms) : LLs H (xs ++ ys) (ls ++ ms) := by
  refine ⟨by rw [List.length_append, List.length_append, h1.1, h2.1], fun i x ws hx hw => ?_⟩
  by_cases hi : i < xs.length
  · rw [List.getElem?_append_left hi] at hx
    rw [List.getElem?_append_left (by rw [← h1.1]; exact hi)] at hw
    exact h1.2 i x ws hx hw
  · rw [List.getElem?_append_right (by omega)] at hx
    rw [List.getElem?_append_right (by rw [← h1.1]; omega), ← h1.1] at hw
    exact h2.2 _ x ws hx hw
theorem LLs.one {H : Hp} {q : Addr} {ws : List (List Nat)} (h : H q = some (.lst (ws.map sV))) : LLs H [.ref q] [ws] := ⟨rfl, fun i x ws' hx hw => by
  match i, hx, hw with
  | 0, hx, hw => exact ⟨q, (Option.some.inj hx).symm, by rw [← Option.some.inj hw]; exact h⟩
  | i + 1, hx, _ => cases hx⟩
section
variable {K : PySem.W.Frag} {σ : L2.St} {H H' : Hp} {ta tb tc te tx : TE} {t : TT} {x y z v : V}
theorem dp_ll : ∀ (xs : List V) (lss : List (List (List Nat))), LLs H xs lss → DpAll K H xs (lss.map fun ws => PyData.list (ws.map dS))
  | [], [], _ => .nil
  | [], _ :: _, h => by cases h.1
  | _ :: _, [], h => by cases h.1
  | x :: xs, ws :: lss, h => by
    obtain ⟨q, rfl, hq⟩ := h.2 0 x ws rfl rfl
    exact .cons (.lst (sq_of hq) (dpa_strs ws)) (dp_ll xs lss ⟨Nat.succ.inj h.1, fun i x ws hx hw => h.2 (i + 1) x ws hx hw⟩)
theorem ed_ll {lss : List (List (List Nat))} (h : EvP te σ H fun v H2 => IsLL H2 v lss) : EvD K te σ H (.list (lss.map fun ws => PyData.list (ws.map dS))) := fun H1 e Q q =>
  h H1 e Q fun v H2 e2 hv => by
    obtain ⟨p, xs, rfl, hp, hl⟩ := hv
    exact q _ H2 e2 (.lst (sq_of hp) (dp_ll xs lss hl))
/-- a comprehension over a new list of lists of texts, that hands on lists of texts -/
theorem ep_lcLL {lss : List (List (List Nat))} {j : Nat} {vs : List Nat} (f : List (List Nat) → Bool) (g : List (List Nat) → List (List Nat)) (h : EvP tx σ H fun v H2 => IsLL H2 v lss) (hz : lss.length ≤ 10000) (hw : ∀ x, wipe ((wipe σ vs).set j (some x)) vs = wipe σ vs)
    (ht : ∀ ws q H1, ws ∈ lss → Ex H H1 → H1 q = some (.lst (ws.map sV)) → EvT t ((wipe σ vs).set j (some (.ref q))) H1 (f ws))
    (he : ∀ ws q H1, ws ∈ lss → Ex H H1 → H1 q = some (.lst (ws.map sV)) → f ws = true → EvP te ((wipe σ vs).set j (some (.ref q))) H1 fun v H2 => ∃ r, v = .ref r ∧ (H1 r = none ∨ r = q) ∧ H2 r = some (.lst ((g ws).map sV))) :
    EvP (tLc (iList K tx) (gName j) t te vs) σ H fun v H2 => IsLL H2 v ((lss.filter f).map g) := fun H0 e0 Q q =>
  h H0 e0 _ fun v H1 e1 hv => by
    obtain ⟨p, xs, rfl, hp, hl⟩ := hv
    have hlen := hl.1
    refine ⟨p, rfl, ⟨xs, sq_of hp⟩, fun Dl hD => lc_list (xs := xs) (fun i H' => ∃ acc, H' Dl = some (.lst acc) ∧ Ex H1 H' ∧ LLs H' acc (((lss.take i).filter f).map g) ∧ ∀ x, x ∈ acc → x ≠ .ref Dl) ⟨[], upd_same, Ex.new hD, LLs.nil, fun x hx => by cases hx⟩ (fun i H' _ c => ex_l (let ⟨_, _, c, _⟩ := c; c) (sq_of hp)) ?_ ?_⟩
    · rintro i x H2 hx ⟨acc, h2, e2, hacc, hnD⟩
      have hi : i < lss.length := by
        rw [← hlen]
        exact (List.getElem?_eq_some_iff.mp hx).1
      have hws : lss[i]? = some lss[i] := List.getElem?_eq_getElem hi
      obtain ⟨r, rfl, hr⟩ := hl.2 i x lss[i] hx hws
      have hmem : lss[i] ∈ lss := List.getElem_mem hi
      have e02 := (e0.trans e1).trans e2
      have hr2 := e2 r _ hr
      have hD0 : H1 Dl = none := hD
      have hrD : r ≠ Dl := fun z => by
        rw [z, hD0] at hr
        cases hr
      have htake : lss.take (i + 1) = lss.take i ++ [lss[i]] := by rw [List.take_succ, hws]; rfl
      refine ⟨hw _, ht lss[i] r H2 hmem e02 hr2 H2 (Ex.refl H2) _ fun H3 e3 => ?_⟩
      cases hf : f lss[i] with
      | true =>
        refine (show (if true = true then _ else _) from iteT ?_)
        refine he lss[i] r H3 hmem (e02.trans e3) (e3 r _ hr2) hf H3 (Ex.refl H3) _ fun u H4 e4 hu => ?_
        obtain ⟨r2, rfl, hfr, hr2'⟩ := hu
        have hacc4 := hacc.mono (e3.trans e4)
        have e14 : Ex H1 (upd H4 Dl (.lst (acc ++ [.ref r2]))) := Ex.mut ((e2.trans e3).trans e4) hD0
        have hlz : acc.length ≤ 10000 := by
          have z1 := hacc.1
          have z2 := List.length_filter_le f (lss.take i)
          rw [List.length_map] at z1
          rw [List.length_take] at z2
          omega
        have hr2D : r2 ≠ Dl := fun z => by
          rcases hfr with hfr | hfr
          · rw [z, e3 Dl _ h2] at hfr
            cases hfr
          · exact hrD (hfr ▸ z)
        refine ⟨acc, e4 Dl _ (e3 Dl _ h2), sz_lt (by omega), acc ++ [.ref r2], upd_same, e14, ?_, ?_⟩
        · rw [htake, List.filter_append, List.map_append]
          have hone : ([lss[i]].filter f).map g = [g lss[i]] := by
            rw [List.filter_cons, if_pos hf]
            rfl
          rw [hone]
          refine LLs.app ⟨hacc4.1, fun k x ws hx hw => ?_⟩ (LLs.one (by rw [upd_ne hr2D]; exact hr2'))
          obtain ⟨r', e1', e2'⟩ := hacc4.2 k x ws hx hw
          have hne : r' ≠ Dl := fun z => hnD x (List.mem_of_getElem? hx) (by rw [e1', z])
          exact ⟨r', e1', by rw [upd_ne hne]; exact e2'⟩
        · intro x hx
          rcases List.mem_append.mp hx with hx | hx
          · exact hnD x hx
          · rw [List.mem_singleton.mp hx]
            exact fun z => hr2D (by injection z)
      | false =>
        refine (show (if false = true then _ else _) from iteF ?_)
        refine ⟨acc, e3 Dl _ h2, e2.trans e3, ?_, hnD⟩
        rw [htake, List.filter_append, List.map_append]
        have hone : ([lss[i]].filter f).map g = [] := by
          rw [List.filter_cons, if_neg (by rw [hf]; decide)]
          rfl
        rw [hone, List.append_nil]
        exact hacc.mono e3
    · rintro H2 ⟨acc, h2, e2, hacc, _⟩
      rw [List.take_of_length_le (by omega)] at hacc
      exact q _ H2 (e1.trans e2) ⟨Dl, acc, rfl, h2, hacc⟩
end
end Br
namespace Br
open PySem PySem.Spec PyProof.Rows L2 Evl SX

/-! ### all ways to part a word -/
def waysTo (W : List Nat → List (List (List Nat))) (l : List Nat) (i : Nat) : List (List (List Nat)) := (List.range i).flatMap fun k => (W (l.drop (k + 1))).map (l.take (k + 1) :: ·)
def waysN : Nat → List Nat → List (List (List Nat))
  | 0, _ => []
  | n + 1, l => if l = [] then [[]] else waysTo (waysN n) l l.length
theorem waysTo_succ (W : List Nat → List (List (List Nat))) (l : List Nat) (i : Nat) : waysTo W l (i + 1) = waysTo W l i ++ (W (l.drop (i + 1))).map (l.take (i + 1) :: ·) := by
  unfold waysTo
  rw [List.range_succ, List.flatMap_append]
  simp
theorem ways_many : ∀ (n : Nat) (l : List Nat), l.length < n → (waysN n l).length ≤ 2 ^ l.length ∧ ∀ i, i ≤ l.length → (waysTo (waysN (n - 1)) l i).length + 2 ^ (l.length - i) ≤ 2 ^ l.length
  | 0, _, h => absurd h (Nat.not_lt_zero _)
  | n + 1, l, h => by
    have part : ∀ i, i ≤ l.length → (waysTo (waysN n) l i).length + 2 ^ (l.length - i) ≤ 2 ^ l.length := by
      intro i
      induction i with
      | zero =>
        intro _
        simp [waysTo]
      | succ i ih =>
        intro hi
        have h1 := ih (by omega)
        have h2 := (ways_many n (l.drop (i + 1)) (by rw [List.length_drop]; omega)).1
        rw [List.length_drop] at h2
        rw [waysTo_succ, List.length_append, List.length_map]
        have e : l.length - i = (l.length - (i + 1)) + 1 := by omega
        rw [e, Nat.pow_succ] at h1
        omega
    refine ⟨?_, part⟩
    show (if l = [] then [[]] else waysTo (waysN n) l l.length).length ≤ _
    by_cases c : l = []
    · rw [if_pos c]
      exact Nat.one_le_two_pow
    · rw [if_neg c]
      exact Nat.le_trans (Nat.le_add_right _ _) (part l.length (Nat.le_refl _))
theorem ways_mem : ∀ (n : Nat) (l : List Nat) (ws : List (List Nat)), l.length < n → (ws ∈ waysN n l ↔ ws.flatten = l ∧ ∀ w ∈ ws, w ≠ [])
  | 0, _, _, h => absurd h (Nat.not_lt_zero _)
  | n + 1, l, ws, h => by
    show ws ∈ (if l = [] then [[]] else waysTo (waysN n) l l.length) ↔ _
    by_cases c : l = []
    · rw [if_pos c, List.mem_singleton]
      constructor
      · rintro rfl
        exact ⟨c.symm, fun w hw => by cases hw⟩
      · rintro ⟨h1, h2⟩
        cases ws with
        | nil => rfl
        | cons w ws =>
          rw [c, List.flatten_cons] at h1
          exact absurd (List.append_eq_nil_iff.mp h1).1 (h2 w List.mem_cons_self)
    · rw [if_neg c]
      have hpos : 0 < l.length := List.length_pos_iff.mpr c
      unfold waysTo
      rw [List.mem_flatMap]
      constructor
      · rintro ⟨k, hk, hm⟩
        obtain ⟨v, hv, rfl⟩ := List.mem_map.mp hm
        have hk := List.mem_range.mp hk
        obtain ⟨h1, h2⟩ := (ways_mem n _ v (by rw [List.length_drop]; omega)).mp hv
        refine ⟨by rw [List.flatten_cons, h1, List.take_append_drop], fun w hw => ?_⟩
        rcases List.mem_cons.mp hw with e | hw
        · rw [e]
          intro z
          have := congrArg List.length z
          rw [List.length_take, List.length_nil] at this
          omega
        · exact h2 w hw
      · rintro ⟨h1, h2⟩
        cases ws with
        | nil => exact absurd h1.symm c
        | cons w v =>
          have hw := List.length_pos_iff.mpr (h2 w List.mem_cons_self)
          rw [List.flatten_cons] at h1
          have hl : w.length + v.flatten.length = l.length := by rw [← h1, List.length_append]
          refine ⟨w.length - 1, List.mem_range.mpr (by omega), List.mem_map.mpr ⟨v, ?_, ?_⟩⟩
          · rw [show w.length - 1 + 1 = w.length by omega]
            refine (ways_mem n _ v (by rw [List.length_drop]; omega)).mpr ⟨?_, fun u hu => h2 u (List.mem_cons_of_mem _ hu)⟩
            rw [← h1, List.drop_left]
          · rw [show w.length - 1 + 1 = w.length by omega, ← h1, List.take_left]
theorem ways_once : ∀ (n : Nat) (l : List Nat), (waysN n l).Pairwise (· ≠ ·)
  | 0, _ => List.Pairwise.nil
  | n + 1, l => by
    show (if l = [] then [[]] else waysTo (waysN n) l l.length).Pairwise _
    by_cases c : l = []
    · rw [if_pos c]
      exact List.pairwise_singleton _ _
    · rw [if_neg c]
      unfold waysTo
      rw [List.pairwise_flatMap]
      refine ⟨fun k _ => ?_, ?_⟩
      · rw [List.pairwise_map]
        exact (ways_once n _).imp fun h z => h (List.cons.inj z).2
      · refine List.Pairwise.imp_of_mem (fun {a b} ha hb hab => ?_) (List.pairwise_lt_range (n := l.length))
        intro x hx y hy
        have ha := List.mem_range.mp ha
        have hb := List.mem_range.mp hb
        obtain ⟨u, _, rfl⟩ := List.mem_map.mp hx
        obtain ⟨v, _, rfl⟩ := List.mem_map.mp hy
        intro z
        have z1 := congrArg List.length (List.cons.inj z).1
        rw [List.length_take, List.length_take] at z1
        omega
theorem filter_one {α : Type} {f : α → Bool} {x : α} : ∀ {xs : List α}, xs.Pairwise (· ≠ ·) → x ∈ xs → (∀ y ∈ xs, f y = true ↔ y = x) → xs.filter f = [x]
  | [], _, h, _ => by cases h
  | y :: ys, hp, h, hf => by
    obtain ⟨h1, h2⟩ := List.pairwise_cons.mp hp
    by_cases e : y = x
    · have hn : ys.filter f = [] := List.filter_eq_nil_iff.mpr fun z hz hfz => h1 z hz (e.trans ((hf z (List.mem_cons_of_mem _ hz)).mp hfz).symm)
      rw [List.filter_cons, if_pos ((hf y List.mem_cons_self).mpr e), hn, e]
    · have hm : x ∈ ys := by
        rcases List.mem_cons.mp h with z | z
        · exact absurd z.symm e
        · exact z
      rw [List.filter_cons, if_neg fun z => e ((hf y List.mem_cons_self).mp z)]
      exact filter_one h2 hm fun z hz => hf z (List.mem_cons_of_mem _ hz)
/-- a way that has primes alone that don't rise -/
def risesAt (ws : List (List Nat)) (i : Nat) : Bool := decide (ws.getD i [] < ws.getD (i + 1) [])
def noRise (ws : List (List Nat)) : Bool := ((List.range (ws.length - 1)).filter (risesAt ws)).isEmpty
def goodB (ws : List (List Nat)) : Bool := noRise ws && ws.all primeB
theorem falls_of {ws : List (List Nat)} (h : ∀ i, i + 1 < ws.length → ¬ ws.getD i [] < ws.getD (i + 1) []) : ws.Pairwise fun a b => ¬ a < b := by
  have chain : ∀ (d i : Nat), i + d < ws.length → ¬ ws.getD i [] < ws.getD (i + d) [] := by
    intro d
    induction d with
    | zero =>
      intro i _ z
      exact absurd z (List.lt_irrefl _)
    | succ d ih =>
      intro i hi
      exact le_le (h (i + d) (by omega)) (ih i (by omega))
  rw [List.pairwise_iff_getElem]
  intro i j hi hj hij
  have := chain (j - i) i (by omega)
  rw [show i + (j - i) = j by omega] at this
  rw [List.getD_eq_getElem?_getD, List.getD_eq_getElem?_getD, List.getElem?_eq_getElem hi, List.getElem?_eq_getElem hj] at this
  exact this
theorem good_falls {ws : List (List Nat)} (hn : ∀ w ∈ ws, w ≠ []) : goodB ws = true ↔ Falls ws := by
  unfold goodB noRise
  rw [Bool.and_eq_true, List.isEmpty_iff, List.filter_eq_nil_iff, List.all_eq_true]
  constructor
  · rintro ⟨h1, h2⟩
    refine ⟨fun w hw => suf_primeB (List.length_pos_iff.mpr (hn w hw)) (h2 w hw), falls_of fun i hi z => h1 i (List.mem_range.mpr (by omega)) (decide_eq_true z)⟩
  · rintro ⟨h1, h2⟩
    refine ⟨fun i hi z => ?_, fun w hw => primeB_suf (h1 w hw)⟩
    have hi := List.mem_range.mp hi
    have z := of_decide_eq_true z
    rw [List.getD_eq_getElem?_getD, List.getD_eq_getElem?_getD, List.getElem?_eq_getElem (show i < ws.length by omega), List.getElem?_eq_getElem (show i + 1 < ws.length by omega)] at z
    exact (List.pairwise_iff_getElem.mp h2) i (i + 1) (by omega) (by omega) (by omega) z
theorem ways_good {l : List Nat} {n : Nat} (h : l.length < n) : (waysN n l).filter goodB = [partsL l] := by
  obtain ⟨h1, h2⟩ := partsL_ok l
  have hne : ∀ w ∈ partsL l, w ≠ [] := fun w hw z => by
    have := (h1.1 w hw).1
    rw [z] at this
    exact absurd this (Nat.lt_irrefl _)
  refine filter_one (ways_once n l) ((ways_mem n l _ h).mpr ⟨h2, hne⟩) fun ws hws => ?_
  obtain ⟨e1, e2⟩ := (ways_mem n l ws h).mp hws
  rw [good_falls e2]
  constructor
  · intro hf
    exact parts_uniq hf e1
  · rintro rfl
    exact h1
section
variable {K : PySem.W.Frag} {σ : L2.St} {H H' : Hp} {ta tb tc te tx : TE} {t : TT} {x y z v : V}
theorem el_catR {p : Addr} {xs ys : List V} (ha : EvL ta σ H xs) (hb : Ev tb σ H (.ref p)) (hp : H p = some (.lst ys)) (hl : xs.length + ys.length ≤ 100000) : EvL (tOp rCat ta tb) σ H (xs ++ ys) := fun H1 e Q q =>
  ha H1 e _ fun r H2 hr e2 h2 => hb H2 (e.trans e2) _ fun H3 e3 => ⟨r, p, xs, ys, rfl, rfl, e3 r _ h2, e3 p _ (e2 p _ (e p _ hp)), sz_of hl, fun s hs => q s _ (fresh_back (e2.trans e3) hs) ((e2.trans e3).trans (Ex.new hs)) upd_same⟩
/-- a list of lists of texts and another one, the first one standing -/
theorem ep_catLL {p : Addr} {xs : List V} {ls ms : List (List (List Nat))} (ha : Ev ta σ H (.ref p)) (hp : H p = some (.lst xs)) (hl : LLs H xs ls) (hb : EvP tb σ H fun v H2 => IsLL H2 v ms) (hz : ls.length + ms.length ≤ 100000) : EvP (tOp rCat ta tb) σ H fun v H2 => IsLL H2 v (ls ++ ms) := fun H1 e Q q =>
  ha H1 e _ fun H2 e2 => hb H2 (e.trans e2) _ fun v H3 e3 hv => by
    obtain ⟨r, ys, rfl, h3, hy⟩ := hv
    refine ⟨p, r, xs, ys, rfl, rfl, e3 p _ (e2 p _ (e p _ hp)), h3, sz_of (by rw [hl.1, hy.1]; exact hz), fun s hs => q _ _ ((e2.trans e3).trans (Ex.new hs)) ⟨s, xs ++ ys, rfl, upd_same, LLs.app (hl.mono (((e.trans e2).trans e3).trans (Ex.new hs))) (hy.mono (Ex.new hs))⟩⟩
/-- [[]] -/
theorem ep_oneLL : EvP (tLst (tCons (tLst tNil) tNil)) σ H fun v H2 => IsLL H2 v [[]] := fun H1 e Q q =>
  ⟨sz_of (by show 0 ≤ 100000; decide), fun p hp => ⟨sz_of (by show 1 ≤ 100000; decide), fun r hr => q _ _ ((Ex.new hp).trans (Ex.new hr)) ⟨r, [.ref p], rfl, upd_same, LLs.one (Ex.new hr p _ upd_same)⟩⟩⟩
end
end Br
namespace Br
open PySem PySem.Spec PyProof.Rows L2 Evl SX
set_option maxRecDepth 100000

/-! ### reversed(a text), at the library's level -/
theorem norev_str : typeLookup (.type "str") "__reversed__" = pure none := by rw [typeLookup_type, builtinLookup_eq_fast]; kernel_rfl
theorem item_str : typeLookup (.type "str") "__getitem__" = pure (some (.builtin "str.__getitem__")) := by rw [typeLookup_type, builtinLookup_eq_fast]; kernel_rfl
theorem nolen_rev : typeLookup (.type "reversed") "__len__" = pure none := by rw [typeLookup_type, builtinLookup_eq_fast]; kernel_rfl
theorem slot_rev_hint : Slot "reversed" "__length_hint__" "reversed.__length_hint__" :=
  .of (owner := "reversed") (n := "__length_hint__") (by rw [typeLookup_type, builtinLookup_eq_fast]; kernel_rfl) (by decide +kernel) (by decide +kernel) (by decide +kernel)
    (by first | exact .inl (by decide +kernel) | exact .inr (by decide +kernel)) (by rw [isSubtype_type]; kernel_rfl)
theorem entry_rev_hint : entryFor table "reversed.__length_hint__" = some Builtin.«reversed.__length_hint__» := entryFor_of_tree (by kernel_rfl)
theorem args_rev_hint (a : Value) : argsOk "reversed.__length_hint__" ⟨[a], []⟩ := by
  unfold argsOk; rw [signature?_of (id := "reversed.__length_hint__") (n := ['_', '_', 't', 'n', 'i', 'h', '_', 'h', 't', 'g', 'n', 'e', 'l', '_', '_']) (o := ['d', 'e', 's', 'r', 'e', 'v', 'e', 'r']) (by kernel_rfl) RT.owner_rt]; kernel_rfl
def BackOf (h : Heap) (a : Addr) (x : Str) (t : Tok) (i : Int) : Prop := ∃ o, h.get? a = some o ∧ o.cls = .type "reversed" ∧ o.data = .fields #[.str x t, rawInt i]
section
variable {prog : Program} {w : World} {A : Around} {E : Value → Shared → Prop} {s : Shared} {x : Str} {t : Tok} {it : Addr}
theorem BackOf.typeIs {i : Int} (z : BackOf s.heap it x t i) : s.TypeIs (.ref it) "reversed" := let ⟨o, ho, hc, _⟩ := z; ⟨o, ho, hc⟩
theorem BackOf.at {h h' : Heap} {i : Int} (z : BackOf h it x t i) (e : ∀ o, h.get? it = some o → h'.get? it = some o) : BackOf h' it x t i := let ⟨o, ho, r⟩ := z; ⟨o, e _ ho, r⟩
theorem new_back {Q₁ : Value → Shared → Prop} (hz : x.length ≤ 1000)
    (h : Q₁ (.ref s.heap.objs.size) { s with heap := s.heap.push { cls := .type "reversed", data := .fields #[.str x t, rawInt ((x.length : Int) - 1)] }, toks := s.toks + 1 + 1 }) :
    codeAny (model prog w) A (.call (.builtin "reversed.__new__") ⟨[.type "reversed", .str x t], []⟩) (wants Q₁ E) s := by
  have hT : s.TypeIs (.str x t) "str" := typeIs_str _ _ _
  refine codeAny_of_tree ?_
  show wpAny _ A.in1 (do checkBuiltinCall "reversed.__new__" ⟨[.type "reversed", .str x t], []⟩; PySem.again (.builtin "reversed.__new__" ⟨[.type "reversed", .str x t], []⟩)) _ _ s
  refine wpAny_bind (wpAny_of_eq (F.newCall_reversed_1 _) (wpAny_pure ⟨plainId_quiet F.plain_reversed_new _, codeAny_builtin F.entry_reversed_new ?_⟩))
  rw [Around.under_plainId F.plain_reversed_new _]
  unfold Builtin.«reversed.__new__»
  refine wpAny_bind (wpAny_of_eq (newClass_reversed _) ?_)
  try dsimp only
  refine wpAny_bind (wpAny_of_eq (a := ()) (by first | rfl | kernel_rfl) ?_)
  try dsimp only
  refine wpAny_bind (wpAny_of_eq (a := ()) (by first | rfl | kernel_rfl) ?_)
  try dsimp only
  refine wpAny_bind (wpAny_specialOf hT norev_str ?_)
  try dsimp only
  refine wpAny_bind ?_
  wp_delta
  refine wpAny_bind (wpAny_isInstance (T := "str") (U := "dict") (b := false) hT PySem.F.sub_str_dict ?_)
  try dsimp only
  try rw [if_neg Bool.false_ne_true]
  try dsimp only
  refine wpAny_bind (wpAny_specialOf hT item_str ?_)
  try dsimp only
  try rw [if_pos (by decide +kernel)]
  refine wpAny_pure ?_
  try dsimp only
  try rw [if_neg (by decide)]
  try dsimp only
  refine wpAny_bind (P.len_str (by omega) ?_)
  refine wpAny_bind (wpAny_of_eq (a := some ((x.length : Nat) : Int)) rfl ?_)
  try dsimp only
  refine wpAny_bind ?_
  show wpAny _ _ (newObj (.type "reversed") (.fields #[.str x t, rawInt ((x.length : Int) - 1)])) _ _ _
  refine wpAny_newObj_type ?_
  exact wpAny_pure h
theorem call_back {Q : Value → Shared → Prop} (hz : x.length ≤ 1000)
    (h : Q (.ref s.heap.objs.size) { s with heap := s.heap.push { cls := .type "reversed", data := .fields #[.str x t, rawInt ((x.length : Int) - 1)] }, toks := s.toks + 1 + 1 }) : wpAny (model prog w) A (call (.type "reversed") [.str x t]) Q E s := by
  refine callType_codes (Q₁ := fun obj s₁ => s₁.TypeIs obj "reversed" ∧ Q obj s₁) RT.called_rt (F.typeCall_reversed_1 _) F.entry_object_init
    (new_back (A := A.in1) hz ⟨⟨_, Heap.get?_push_size _ rfl, rfl⟩, h⟩) fun obj s₁ h₁ => ?_
  exact ⟨h₁.1, F.args_object_init_2 obj _, object_init_meets RT.called_rt.init.lookup RT.called_rt.made (by decide) prog w A.in1 _ s₁ ⟨h₁.1, rfl, h₁.2⟩⟩
theorem next_back {i c : Nat} {Q : Option Value → Shared → Prop} (hit : BackOf s.heap it x t (i : Int)) (hc : x.cps[i]? = some c) (hz : x.length ≤ 1000)
    (hQ : ∀ h' u k, BackOf h' it x t ((i : Int) - 1) → Heap.SameBut it s.heap h' → Q (some (.str ⟨#[c]⟩ u)) { s with heap := h', toks := k }) : wpAny (model prog w) A (pyNext (.ref it)) Q E s := by
  obtain ⟨o, ho, hcl, hd⟩ := id hit
  have hi : i < x.length := (Array.getElem?_eq_some_iff.mp hc).1
  have hT : s.TypeIs (.str x t) "str" := typeIs_str _ _ _
  unfold pyNext
  refine wpAny_bind (wpAny_attempt (wpAny_callSpecial?_slot (name := Str.ofString "__next__") hit.typeIs RT.slot_rt_next
    (wpAny_call_entry RT.slot_rt_next hit.typeIs RT.entry_rt_next ?_ (RT.args_rt_next _))))
  unfold Builtin.«reversed.__next__»
  refine wpAny_bind (wpAny_of_eq (a := (Value.ref it, [])) rfl ?_)
  try dsimp only
  refine wpAny_bind (wpAny_field ho hd (x := .str x t) rfl ?_)
  try dsimp only
  refine wpAny_bind (wpAny_field ho hd (x := rawInt (i : Int)) rfl ?_)
  show wpAny _ _ (if (i : Int) < 0 then _ else _) _ _ s
  rw [if_neg (by omega)]
  try dsimp only
  refine wpAny_bind (wpAny_specialOf hT item_str ?_)
  try dsimp only
  try rw [if_neg (by decide)]
  try dsimp only
  refine wpAny_bind (wpAny_mkInt ?_)
  refine wpAny_bind (wpAny_attempt ?_)
  have fin : seqIndex? (i : Int) x.length = some i := seqIndex_of (by omega) (by omega)
  refine P.getItem_str (s := { s with toks := s.toks + 1 }) (c := c) ?_ (by rw [fin]; exact hc) ?_
  · rw [Bool.or_eq_false_iff]
    exact ⟨decide_eq_false (by omega), decide_eq_false (by omega)⟩
  try dsimp only
  refine wpAny_bind (wpAny_field (s := { s with toks := s.toks + 1 + 1 }) ho hd (x := rawInt (i : Int)) rfl ?_)
  try dsimp only
  refine wpAny_bind (wpAny_setField (s := { s with toks := s.toks + 1 + 1 }) ho hd (by simp) ?_)
  first
  | refine wpAny_pure ⟨_, rfl, wpAny_pure (hQ _ _ _ ?_ (Heap.SameBut.update ..))⟩
  | refine wpAny_bind (wpAny_pure (wpAny_pure ⟨_, rfl, wpAny_pure (hQ _ _ _ ?_ (Heap.SameBut.update ..))⟩))
  exact ⟨_, Heap.get?_update_self _ ho (Obj.isFreed_of_fields (Obj.data_mapFields hd _)), (Obj.cls_mapFields ..).trans hcl, by
    rw [Obj.data_mapFields hd]; simp⟩
theorem done_back {Q : Option Value → Shared → Prop} (hh : A.handled = none) (hit : BackOf s.heap it x t (-1)) (hQ : ∀ h', Heap.ExtBut it s.heap h' → Q none { s with heap := h' }) : wpAny (model prog w) A (pyNext (.ref it)) Q E s := by
  obtain ⟨o, ho, hcl, hd⟩ := id hit
  unfold pyNext
  refine wpAny_bind (wpAny_attempt (wpAny_callSpecial?_slot (name := Str.ofString "__next__") hit.typeIs RT.slot_rt_next
    (wpAny_call_entry RT.slot_rt_next hit.typeIs RT.entry_rt_next ?_ (RT.args_rt_next _))))
  unfold Builtin.«reversed.__next__»
  refine wpAny_bind (wpAny_of_eq (a := (Value.ref it, [])) rfl ?_)
  try dsimp only
  refine wpAny_bind (wpAny_field ho hd (x := .str x t) rfl ?_)
  try dsimp only
  refine wpAny_bind (wpAny_field ho hd (x := rawInt (-1)) rfl ?_)
  show wpAny _ _ (if (-1 : Int) < 0 then _ else _) _ _ s
  rw [if_pos (by decide)]
  try dsimp only
  refine wpAny_bind (wpAny_rule ?_)
  refine wpAny_bind ?_
  wp_delta
  refine wpAny_bind (wpAny_setField ho hd (by simp) ?_)
  have h1 := Heap.get?_update_self (Obj.mapFields (·.set! 1 (rawInt (-1)))) ho (Obj.isFreed_of_fields (Obj.data_mapFields hd _))
  refine wpAny_setField h1 (Obj.data_mapFields hd _) (by simp) ?_
  first
  | show wpAny _ _ (newExc (.type "StopIteration") [] >>= _) _ _ _
  | (refine wpAny_bind ?_; show wpAny _ _ (newExc (.type "StopIteration") [] >>= _) _ _ _)
  | (refine wpAny_bind ?_; wp_delta; show wpAny _ _ (newExc (.type "StopIteration") [] >>= _) _ _ _)
  refine wpAny_bind ?_
  simp only [newExc, newTuple]
  refine wpAny_bind (wpAny_newObj_type ?_ (by size_fits))
  refine wpAny_bind (m := firstArgMember _ _) (wpAny_of_eq (a := Value.none) (by first | rfl | (simp only [firstArgMember]; rfl)) ?_)
  refine wpAny_newObj_type ?_ (by size_fits)
  simp only [raiseNew]
  refine wpAny_bind (wpAny_handled ?_)
  first | rw [show A.in1.handled = none from hh] | rw [hh]
  refine wpAny_bind (wpAny_pure (wpAny_throw ?_))
  refine wpAny_bind (wpAny_isInstance (T := "StopIteration") (b := true) ⟨_, Heap.get?_push_size _ rfl, rfl⟩ isSubtype_stop ?_)
  refine wpAny_pure (hQ _ ?_)
  refine ((?_ : Heap.ExtBut it s.heap _).push _).push _
  exact fun b ob hb e => (Heap.get?_update_other _ _ (Ne.symm hb)).trans ((Heap.get?_update_other _ _ (Ne.symm hb)).trans e)
theorem self_back {i : Int} {Q : Value → Shared → Prop} (hit : BackOf s.heap it x t i) (h : Q (.ref it) s) : wpAny (model prog w) A (pyIter (.ref it)) Q E s := by
  refine wpAny_pyIter_slot hit.typeIs RT.slot_rt_iter (wpAny_call_entry RT.slot_rt_iter hit.typeIs RT.entry_rt_iter ?_ (RT.args_rt_iter _))
  show wpAny _ _ (ret (.ref it)) _ _ s
  exact wpAny_pure ⟨_, rfl, "reversed", _, hit.typeIs, RT.slot_rt_next.lookup, h⟩
theorem walks_back (hh : A.handled = none) (hz : x.length ≤ 1000) :
    WalksS prog w A it [it] [it] (fun a b => b = a) x.length (fun i v => ∃ c u, x.cps[x.length - 1 - i]? = some c ∧ v = .str ⟨#[c]⟩ u) (fun i s => i ≤ x.length ∧ BackOf s.heap it x t ((x.length : Int) - 1 - (i : Nat))) where
  sub := fun b hb => hb
  grefl := fun _ => rfl
  gtrans := fun _ _ _ h1 h2 => h2.trans h1
  frame := fun i s h' tk st _ hk => ⟨st.1, st.2.at fun o e => hk it (by simp) o e⟩
  item := fun i s Q E hi st hQ => by
    have hlt : x.length - 1 - i < x.cps.size := by show _ < x.length; omega
    have e1 : (x.length : Int) - 1 - ((i : Nat) : Int) = ((x.length - 1 - i : Nat) : Int) := by omega
    have e2 : ((x.length - 1 - i : Nat) : Int) - 1 = (x.length : Int) - 1 - ((i + 1 : Nat) : Int) := by omega
    have hb := st.2
    rw [e1] at hb
    refine wpAny_with_toks (Nat.le_refl s.toks) (next_back hb (c := x.cps[x.length - 1 - i]) (Array.getElem?_eq_getElem hlt) hz fun h' u k hb' hs htk => ?_)
    rw [e2] at hb'
    exact hQ _ _ ⟨_, u, Array.getElem?_eq_getElem hlt, rfl⟩ ⟨by omega, hb'⟩ ⟨fun b o hb e => (hs.2 b (fun z => hb (List.mem_singleton.mpr z))).trans e, rfl, rfl, rfl, htk⟩
  done := fun s Q E st hQ => by
    have e1 : (x.length : Int) - 1 - ((x.length : Nat) : Int) = -1 := by omega
    have hb := st.2
    rw [e1] at hb
    exact done_back hh hb fun h' hx => hQ _ ⟨fun b o hb e => hx b o (fun z => hb (List.mem_singleton.mpr z)) e, rfl, rfl, rfl, Nat.le_refl _⟩
  self := fun i s Q E st hQ => self_back st.2 hQ
theorem type_rev_hint : typeOf (.builtin "reversed.__length_hint__") = pure (.type "method_descriptor") := by show builtinType _ = _; rw [builtinType_eq_fast]; kernel_rfl
theorem bind_rev_hint (v : Value) : bindSpecial (.builtin "reversed.__length_hint__") v = pure (.builtin "reversed.__length_hint__", [v]) := by
  unfold bindSpecial
  rw [type_rev_hint]
  rfl
theorem hint_back {i : Nat} {Q : Value → Shared → Prop} (hz : x.length ≤ 1000) (hit : BackOf s.heap it x t ((i : Int) - 1)) (hi : i ≤ x.length) (h : ∀ k k', Q (.int (i : Int) k) { s with toks := k' }) :
    wpAny (model prog w) A (call (.builtin "reversed.__length_hint__") [.ref it]) Q E s := by
  obtain ⟨o, ho, hcl, hd⟩ := id hit
  refine wpAny_call_entry slot_rev_hint hit.typeIs entry_rev_hint ?_ (args_rev_hint _)
  unfold Builtin.«reversed.__length_hint__»
  refine wpAny_bind (wpAny_of_eq (a := Value.ref it) rfl ?_)
  try dsimp only
  refine wpAny_bind (wpAny_field ho hd (x := .str x t) rfl ?_)
  try dsimp only
  rw [if_neg (by simp)]
  refine wpAny_bind (P.len_str (by omega) ?_)
  refine wpAny_bind (wpAny_of_eq (a := some ((x.length : Nat) : Int)) rfl ?_)
  try dsimp only
  refine wpAny_bind (wpAny_field (s := { s with toks := s.toks + 1 + 1 }) ho hd (x := rawInt ((i : Int) - 1)) rfl ?_)
  show wpAny _ _ (if ((x.length : Nat) : Int) < (i : Int) - 1 + 1 then _ else _) _ _ _
  rw [if_neg (by omega)]
  rw [show (i : Int) - 1 + 1 = (i : Int) by omega]
  refine wpAny_bind (wpAny_mkInt ?_)
  exact wpAny_pure ⟨_, rfl, h _ _⟩
theorem collect_back {Q : List Value → Shared → Prop} (hh : A.handled = none) (hit : BackOf s.heap it x t ((x.length : Int) - 1)) (h0 : 1 ≤ x.length) (hz : x.length ≤ 1000)
    (hQ : ∀ (h' : Heap) (tk : Nat) (acc : Array Value), (∀ b o, b ≠ it → s.heap.get? b = some o → h'.get? b = some o) → ItemsOf (fun i v => ∃ c u, x.cps[x.length - 1 - i]? = some c ∧ v = .str ⟨#[c]⟩ u) acc x.length → Q acc.toList { s with heap := h', toks := tk }) :
    wpAny (model prog w) A (collect (.ref it)) Q E s := by
  have W := walks_back (prog := prog) (w := w) (A := A.in1) (it := it) (x := x) (t := t) hh hz
  obtain ⟨oi, hoi, _⟩ := id hit
  have hSi : s.heap.objs.size ≠ it := Nat.ne_of_gt (Heap.lt_size hoi)
  have hSf : s.heap.objs.size ∉ [it] := by simpa using hSi
  have hsl : x.length ≤ sizeLine := Nat.le_trans hz (by decide)
  unfold collect
  refine wpAny_bind (wpAny_runValue (codeAny_builtin F.entry_proto_collect ?_))
  rw [Around.under_plainId F.plain_proto_collect _]
  show wpAny _ A.in1 (newList [] >>= fun l' => PySem.again (.builtin "list.__iadd__" ⟨[l', .ref it], []⟩)) _ _ s
  refine wpAny_bind (wpAny_newObj_type ?_)
  refine wpAny_pure ⟨plainId_quiet F.plain_list_iadd _, codeAny_builtin F.entry_list_iadd ?_⟩
  rw [Around.under_plainId F.plain_list_iadd _]
  have hit1 : BackOf (s.heap.push { cls := .type "list", data := .seq ([] : List Value).toArray }) it x t ((x.length : Int) - 1) := hit.at fun o e => Heap.get?_push_of_some _ e
  have hT : ({ s with heap := s.heap.push { cls := .type "list", data := .seq ([] : List Value).toArray } } : Shared).TypeIs (.ref it) "reversed" := BackOf.typeIs (s := { s with heap := s.heap.push { cls := .type "list", data := .seq ([] : List Value).toArray } }) hit1
  have h1 : Builtin.List.listSameRef (.ref s.heap.objs.size) (.ref it) = false := by simp [Builtin.List.listSameRef, hSi]
  show wpAny _ A.in1 (Builtin.List.listExtendWith (.ref s.heap.objs.size) (.ref it) (.ref s.heap.objs.size)) _ _ _
  unfold Builtin.List.listExtendWith
  refine wpAny_bind (wpAny_typeOf hT ?_)
  rw [if_neg (by rw [h1]; decide)]
  refine wpAny_bind (self_back (s := { s with heap := s.heap.push { cls := .type "list", data := .seq ([] : List Value).toArray } }) hit1 ?_)
  refine wpAny_bind (wpAny_holding ?_)
  unfold Builtin.List.listLengthHint
  refine wpAny_bind (wpAny_specialOf hT nolen_rev ?_)
  show wpAny _ A.in1 (specialOf (Value.ref it) (Str.ofString "__length_hint__") >>= _) _ _ _
  refine wpAny_bind (wpAny_specialOf hT slot_rev_hint.lookup ?_)
  generalize hid : ("reversed.__length_hint__" : String) = id0
  wp_delta
  rw [show splitId id0 = some ("reversed", "__length_hint__") from by subst hid; decide +kernel]
  subst hid
  refine wpAny_bind (wpAny_isInstance (b := true) hT (by rw [isSubtype_type]; kernel_rfl) ?_)
  rw [if_neg (by decide)]
  try dsimp only
  rw [if_neg (by decide +kernel)]
  refine wpAny_bind (wpAny_rule ?_)
  refine wpAny_bind (wpAny_of_eq (bind_rev_hint _) ?_)
  try dsimp only
  refine wpAny_bind (wpAny_attempt (hint_back (s := { s with heap := s.heap.push { cls := .type "list", data := .seq ([] : List Value).toArray } }) (i := x.length) hz hit1 (Nat.le_refl _) fun k k' => ?_))
  try dsimp only
  show wpAny _ A.in1 (asInt? (Value.int ((x.length : Nat) : Int) k) >>= _) _ _ _
  have ha : asInt? (Value.int ((x.length : Nat) : Int) k) = pure (some ((x.length : Nat) : Int)) := rfl
  rw [ha, pure_bind]
  try dsimp only
  rw [if_neg (by unfold Builtin.List.listFitsIndex; simp; omega), if_neg (by omega), if_neg (by unfold Builtin.List.listTooLong; simp; omega)]
  refine wpAny_pure ?_
  rw [if_pos (by rw [show (((x.length : Nat) : Int) != 0) = true from by simp; omega]; rfl)]
  refine wpAny_bind (wpAny_rule ?_)
  have g1 : (s.heap.push { cls := .type "list", data := .seq ([] : List Value).toArray }).get? s.heap.objs.size = some { cls := .type "list", data := .seq ([] : List Value).toArray } := Heap.get?_push_size _ rfl
  refine wpAny_bind ?_
  show wpAny _ A.in1 (updateSeq s.heap.objs.size (·.push .none) >>= fun _ => updateSeq s.heap.objs.size (·.pop)) _ _ _
  refine wpAny_bind (wpAny_updateSeq g1 rfl ?_)
  have g2 := Heap.get?_update_self (Obj.mapSeq (·.push Value.none)) g1 rfl
  refine wpAny_updateSeq g2 rfl ?_
  have g3 := Heap.get?_update_self (Obj.mapSeq (·.pop)) g2 rfl
  have others : ∀ b o, b ≠ s.heap.objs.size → (s.heap.push { cls := .type "list", data := .seq ([] : List Value).toArray }).get? b = some o →
      (((s.heap.push { cls := .type "list", data := .seq ([] : List Value).toArray }).update s.heap.objs.size (Obj.mapSeq (·.push Value.none))).update s.heap.objs.size (Obj.mapSeq (·.pop))).get? b = some o :=
    fun b o hb e => (Heap.get?_update_other _ _ (Ne.symm hb)).trans ((Heap.get?_update_other _ _ (Ne.symm hb)).trans e)
  have st0 : 0 ≤ x.length ∧ BackOf (((s.heap.push { cls := .type "list", data := .seq ([] : List Value).toArray }).update s.heap.objs.size (Obj.mapSeq (·.push Value.none))).update s.heap.objs.size (Obj.mapSeq (·.pop))) it x t ((x.length : Int) - 1 - ((0 : Nat) : Int)) :=
    ⟨Nat.zero_le _, by rw [show (x.length : Int) - 1 - ((0 : Nat) : Int) = (x.length : Int) - 1 by omega]; exact hit1.at fun o e => others it o (Ne.symm hSi) e⟩
  refine wpAny_pure ⟨plainId_quiet F.plain_extend_loop _, codeAny_extend_loopS W hsl _ hSf _ x.length 0 _ _ _ rfl (Nat.zero_le _) st0 g3 (ItemsOf.nil _) fun s' acc' c' hm hS' hacc => ?_⟩
  show wpAny _ A (load s.heap.objs.size >>= _) _ _ s'
  refine wpAny_bind (wpAny_load hS' ?_)
  refine wpAny_pure ?_
  rw [Moved.eq_with hm]
  refine hQ s'.heap s'.toks acc' (fun b o hb e => hm.heap b o (fun hmem => ?_) (others b o (Nat.ne_of_lt (Heap.lt_size e)) (Heap.get?_push_of_some _ e))) hacc
  rcases List.mem_cons.mp hmem with e' | hmem
  · exact absurd (Heap.lt_size e) (by rw [e']; exact Nat.lt_irrefl _)
  · exact hb (List.mem_singleton.mp hmem)
theorem strs_back {acc : Array Value} (h : ItemsOf (fun i v => ∃ c u, x.cps[x.length - 1 - i]? = some c ∧ v = .str ⟨#[c]⟩ u) acc x.length) : StrsAre acc.toList (x.cps.toList.reverse.map fun c => (⟨#[c]⟩ : Str)) := by
  obtain ⟨hl, hi⟩ := h
  have hL : acc.toList.length = (x.cps.toList.reverse.map fun c => (⟨#[c]⟩ : Str)).length := by
    rw [List.length_map, List.length_reverse]
    exact hl
  have key : ∀ (i : Nat) (v : Value), acc.toList[i]? = some v → ∃ (y : Str) (u : Tok), (x.cps.toList.reverse.map fun c => (⟨#[c]⟩ : Str))[i]? = some y ∧ v = .str y u := by
    intro i v hv
    have hv' : acc[i]? = some v := by simpa using hv
    obtain ⟨c, u, hc, rfl⟩ := hi i v hv'
    have hlt : i < x.length := by
      have := (Array.getElem?_eq_some_iff.mp hv').1
      omega
    have hlt' : i < x.cps.toList.length := hlt
    refine ⟨_, u, ?_, rfl⟩
    rw [List.getElem?_map, List.getElem?_reverse hlt']
    have e : x.cps.toList[x.cps.toList.length - 1 - i]? = some c := by
      have e2 : x.cps.toList.length = x.length := by simp [Str.length]
      rw [e2]
      simpa using hc
    rw [e]
    rfl
  generalize acc.toList = L at hL key
  generalize (x.cps.toList.reverse.map fun c => (⟨#[c]⟩ : Str)) = ys at hL key
  clear hl hi
  induction L generalizing ys with
  | nil =>
    cases ys with
    | nil => exact .nil
    | cons y r => simp at hL
  | cons v L ih =>
    cases ys with
    | nil => simp at hL
    | cons y ys =>
      obtain ⟨y', u, hy, rfl⟩ := key 0 v rfl
      have ey : y = y' := Option.some.inj hy
      subst ey
      exact .cons y u (ih _ (by simpa using hL) fun i v' hv => key (i + 1) v' (by simpa using hv))
/-- ''.join(what reads a text backwards) -/
theorem join_back {y : Str} {u : Tok} {Q : Value → Shared → Prop} (hh : A.handled = none) (hit : BackOf s.heap it x t ((x.length : Int) - 1)) (h0 : 1 ≤ x.length) (hz : x.length ≤ 1000) (hy : y.length ≤ 1000)
    (hQ : ∀ (h' : Heap) t' k, (∀ b o, b ≠ it → s.heap.get? b = some o → h'.get? b = some o) → Q (.str (Txt.join y (x.cps.toList.reverse.map fun c => (⟨#[c]⟩ : Str))) t') { s with heap := h', toks := k }) :
    wpAny (model prog w) A (call (.builtin "str.join") [.str y u, .ref it]) Q E s := by
  refine wpAny_call (codeAny_call_builtin F.slot_str_join.plain F.entry_str_join (F.slot_str_join.check _ _ _ _ _ _ _ _ (typeIs_str _ _ _) (F.args_str_join_2 _ _) ?_))
  rw [join_tree_other]
  refine wpAny_bind (wpAny_typeOf hit.typeIs ?_)
  show wpAny _ A.in1 ((pyIter (.ref it)).tryCatch _ >>= fun it => collect it >>= fun items => joinTail y items) _ _ s
  refine wpAny_bind (wpAny_tryCatch (self_back hit ?_))
  refine wpAny_bind (collect_back (A := A.in1) hh hit h0 hz fun h' tk acc hk hacc => ?_)
  obtain ⟨l, hl, ht⟩ := strsAre_values (strs_back hacc)
  rw [hl]
  have hsum : ((x.cps.toList.reverse.map fun c => (⟨#[c]⟩ : Str)).map (·.length)).sum + (x.cps.toList.reverse.map fun c => (⟨#[c]⟩ : Str)).length * y.length ≤ 16777216 := by
    have e1 : (x.cps.toList.reverse.map fun c => (⟨#[c]⟩ : Str)).length = x.length := by rw [List.length_map, List.length_reverse]; rfl
    have e2 : ((x.cps.toList.reverse.map fun c => (⟨#[c]⟩ : Str)).map (·.length)).sum = x.length := by
      rw [List.map_map]
      have : (x.cps.toList.reverse.map ((fun z : Str => z.length) ∘ fun c => (⟨#[c]⟩ : Str))) = x.cps.toList.reverse.map fun _ => 1 := rfl
      rw [this, List.map_const', List.sum_replicate_nat, List.length_reverse, Nat.mul_one]
      rfl
    rw [e1, e2]
    have : x.length * y.length ≤ 1000 * 1000 := Nat.mul_le_mul hz hy
    omega
  rw [← ht] at hsum
  have hok := joinOk_of hsum
  unfold JoinOk at hok
  rw [Bool.not_eq_true'] at hok
  have g : Gives (joinTail y (strValues l)) (joinMade y l) := by
    have g0 := gives_joinTail y l hok
    cases l with
    | nil => exact g0
    | cons p r => cases r with
      | nil => exact g0
      | cons q r' => exact g0
  refine g prog w A (wants Q E) _ (post_join l ⟨joinFit_length hok, fun t' k => ?_⟩)
  rw [ht]
  exact hQ h' t' k hk
end
/-! ### sep.join(reversed(a text)): sep first -/
def tJoinBack (to te : TE) : TE := fun σ H Q => to σ H fun x H1 => (∃ a : Str, x = .str a) ∧ te σ H1 fun v H2 => ∃ (a : Str) (l : List Nat), x = .str a ∧ v = .str (S l) ∧ 1 ≤ l.length ∧ l.length ≤ 1000 ∧ a.length ≤ 1000 ∧ Q (.str (Txt.join a (l.reverse.map fun c => S [c]))) H2
section
variable {X : Cx}
theorem pe_joinBack {o e : Expr} {to te : TE} {apos pos p pos2 : Pos} (hc : X.calm = true) (ho : PE X o to) (hg : Gl X "reversed") (hm : X.mg "reversed" = none) (he : PE X e te)
    (hs1 : starEach [.Call (.Name "reversed" p) [e] [] pos2] X.env = [(false, eval (.Call (.Name "reversed" p) [e] [] pos2) X.env)] := by rfl)
    (hs : starEach [e] X.env = (false, eval e X.env) :: starEach [] X.env := by rfl) (hbase : attributeBase o "join" X.env (eval o X.env) = eval o X.env := by rfl) (hline : (apos.endLine == pos.line) = true := by rfl) :
    PE X (.Call (.Attribute o "join" apos) [.Call (.Name "reversed" p) [e] [] pos2] [] pos) (tJoinBack to te) := by
  refine ⟨fun pins s σ H Q I h => ?_⟩
  refine PySem.Call_method1 hbase hs1 hline (thn (ho.run pins s σ H _ I h) fun v s1 ⟨x, H1, I1, r1, q1⟩ => ?_)
  obtain ⟨⟨a, rfl⟩, q1⟩ := q1
  obtain ⟨t, rfl⟩ := _root_.id r1
  refine ⟨"str", _, F.plainAttrs_str, F.slot_str_join, F.type_str_join, typeIs_str _ _ _, (fun _ e => nomatch e), Calls.callWith_builtin rfl (Calls.evalArgs_plain (Calls.spliced_cons ?_))⟩
  refine Call_ (ld_blt I1 hg hm PyProof.Rows.boot_reversed (PyProof.Rows.callWith_type1 (args_cons (thn (he.run pins s1 σ H1 _ I1 q1) fun u s2 ⟨z, H2, I2, r2, q2⟩ => args_nil ?_) hs) hs rfl))
  obtain ⟨a', l, ea, rfl, h0, hz, hy, q3⟩ := q2
  cases ea
  obtain ⟨t2, rfl⟩ := r2
  have hl : (S l).length = l.length := S_len l
  refine call_back (by rw [hl]; exact hz) (Calls.spliced_nil (join_back (I2.ok.hd hc) ⟨_, Heap.get?_push_size _ rfl, rfl, rfl⟩ (by rw [hl]; exact h0) (by rw [hl]; exact hz) hy fun h' t' k hk => ?_))
  refine ⟨V.str _, H2, I2.kept (t' := k) (fun b o e => hk b o (Nat.ne_of_lt (Heap.lt_size e)) (Heap.get?_push_of_some _ e)), ⟨t', rfl⟩, ?_⟩
  exact q3
end
theorem one_each : ∀ l : List Nat, (l.map fun c => [c]).flatten = l
  | [] => rfl
  | c :: l => by rw [List.map_cons, List.flatten_cons, one_each l]; rfl
theorem ev_joinBack {σ : L2.St} {H : Hp} {to te : TE} {l : List Nat} (h0 : Ev to σ H (.str (S []))) (h : Ev te σ H (.str (S l))) (hl : 1 ≤ l.length) (hz : l.length ≤ 1000) : Ev (tJoinBack to te) σ H (.str (S l.reverse)) := fun H1 e Q q =>
  h0 H1 e _ fun H2 e2 => ⟨⟨_, rfl⟩, h H2 (e.trans e2) _ fun H3 e3 => ⟨S [], l, rfl, rfl, hl, hz, by decide, by
    have e4 : (l.reverse.map fun c => S [c]) = (l.reverse.map fun c => [c]).map S := by rw [List.map_map]; rfl
    rw [e4, join_S, joinE, one_each]
    exact q H3 (e2.trans e3)⟩⟩
end Br
namespace Br
open PySem PySem.Spec PyProof.Rows L2 Evl SX

/-! ### defs that run where no display of a list is under way -/
structure FnG (P : Program) (w : World) (K : PySem.W.Frag) (mg : Str → Option Value) (base : Heap) (C : CXT) (k : Nat) (f : Addr) (fd : FuncData) (ps : List Str) (sp : Sp) : Prop where
  many : ∀ vs H Q E, sp vs H Q E → vs.length = ps.length
  runs : ∀ (A : Around) (out : List Env) (s : Shared) (H : Hp) (as : Args) (us : List Value) (vs : List V) (Q : VK) (E : XK), A.guards = some [] → Room k A → Env0 P w K mg base A out s H → BindsTo s fd as (ps.zip us) → Vals vs us → sp vs H Q E →
    codeAny (model P w) A (.call (.ref f) as) (CR C out P w H s Q E) s
def HasG (P : Program) (w : World) (K : PySem.W.Frag) (mg : Str → Option Value) (base : Heap) (C : CXT) (k : Nat) (x : Str) (ps : List Str) (sp : Sp) : Prop :=
  ∃ (f : Addr) (fd : FuncData), mg x = some (.ref f) ∧ PySem.W.keepIn K (.ref f) = true ∧ Binds K fd ps [] ∧ FnG P w K mg base C k f fd ps sp
section
variable {P : Program} {w : World} {K : PySem.W.Frag} {mg : Str → Option Value} {base : Heap}
theorem Fun.okG {x qual : Str} {st : Stmt} {f : Addr} {fd : FuncData} {N ps : List Str} {k : Nat} {sp : Sp} (F : Fun K x qual st f fd) (S : FnScope N ps (defScope st)) (many : ∀ vs H Q E, sp vs H Q E → vs.length = ps.length)
    (body : ∀ (cdv : Value) (A : Around) (out : List Env) (s : Shared) (H : Hp) (vs : List V) (Q : VK) (E : XK), A.guards = some [] → Room k (A.deeper (envOfC qual (defScope st) s.heap.objs.size f cdv)) → sp vs H Q E →
      ∃ t, PSs (cxOf CX0 P w K mg base N qual (defScope st) f cdv A out s H E).nox (defBody st) t ∧ t { nx := fun _ H' => Q .non H', rt := Q } (start N vs) H) : FnG P w K mg base CX0 (k + 1) f fd ps sp := by
  obtain ⟨oc, od, kV, doc, pm, an, cdv, ct, osl, rfl, lk, hcd⟩ := F.ex
  constructor
  · exact many
  · intro A out s H as us vs Q E hg hr e0 hb r hsp
    have same := many _ _ _ _ hsp
    have KX : K.In s.heap := e0.mod.kin.keeps fun b o e => (e0.bs b o e).1
    have nolim : s.heap.NoLimit := e0.mod.nolimit.keeps fun b o e => (e0.bs b o e).1
    have kinds : ∀ y ∈ ps.zip us, (defScope st).names.lookup y.1 = some .local ∨ ((defScope st).names.lookup y.1 = some .cell ∧ ((cellsFrom (s.heap.objs.size + 1) (defScope st).names []).lookup y.1).isSome = true) := by
      rintro ⟨n, v⟩ hy
      cases S.par n (List.of_mem_zip hy).1 with
      | inl z => exact .inl z
      | inr z => exact .inr ⟨z, PySem.W.cellsFrom_some _ _ _ (.inl z)⟩
    refine codeAny_call_function hr.depth (KX _ _ lk) rfl S.co S.gen rfl (PySem.W.codeRec_of KX hcd) (hb _ _ _ _ (wpAny_newFunctionEnv_cells S.kind kinds fun env he s1 z => ?_))
    subst he
    refine ⟨nolim.keeps z.toInCall.keep, codeAny_func ?_⟩
    obtain ⟨t, ht, hq⟩ := body cdv A out s H vs Q E hg (hr.deeper _) hsp
    have I : Inv (cxOf CX0 P w K mg base N qual (defScope st) f cdv A out s H E) [] (start N vs) H s1 := inv_start S hr.hd e0 same r z
    refine wpAny_mono (ht.nox.run [] s1 (start N vs) H _ I hq) (fun fl s' hs => ?_) fun _ _ z => z
    cases fl with
    | ret u =>
      obtain ⟨v, σ', H', J, rv, q⟩ := hs
      exact ⟨v, H', J.os, J.bare, J.base, J.hok, rv, q⟩
    | next =>
      obtain ⟨σ', H', J, q⟩ := hs
      exact ⟨V.non, H', J.os, J.bare, J.base, J.hok, rfl, q⟩
    | brk => exact hs.choose_spec.choose_spec.2.elim
    | cont => exact hs.choose_spec.choose_spec.2.elim
end
section
variable {X : Cx} {C : CXT} {k : Nat} {ps : List Str} {sp : Sp} {E : XK} {x : Str} {p pos : Pos} {e : Expr} {es : List Expr} {t : TA}
theorem pe_hasG (D : HasG X.prog X.w X.K X.mg X.base C k x ps sp) (hgd : X.A.guards = some []) (hr : Room k X.A) (hg : Gl X x) (hx : Passes C X E) (ha : PA X (e :: es) t)
    (hdb : (x == ("__debug__" : Str)) = false := by decide) (he : starEach (e :: es) X.env = (false, eval e X.env) :: starEach es X.env := by rfl) (hpl : (backTo pos (starEach es X.env)).any (·.1) = false := by rfl) :
    PE X (.Call (.Name x p) (e :: es) [] pos) (tCall sp [] E t) := by
  obtain ⟨f, fd, gm, kp, b, F⟩ := D
  constructor
  intro pins s σ H Q I h
  refine wpAny_Call_Name_kw (ld_glob I hg gm (PySem.W.callWith_K (h₀ := X.base) I.ok.mod.kin kp (thn (ha.run pos pins s σ H _ I h) fun us s1 z => ?_) he hpl) hdb)
  obtain ⟨vs, H1, I1, r, q⟩ := z
  rw [List.append_nil] at q
  have same : us.length = ps.length := r.length.symm.trans (F.many _ _ _ _ q)
  refine ⟨I1.kIn, wpAny_call (codeAny_mono (F.runs X.A X.stack s1 H1 ⟨us, []⟩ us vs Q E hgd hr I1.env0 ?_ r q) fun r' s' hq => ?_)⟩
  · have := b s1 us I1.kIn (by rw [List.append_nil]; exact same)
    rw [List.append_nil] at this
    exact this
  · match r', hq with
    | .error e, hq => exact hx pins σ H1 s1 e s' I1 hq
    | .ok (.ret u), hq => exact I1.after hq
    | .ok .next, hq => exact hq.elim
    | .ok .brk, hq => exact hq.elim
    | .ok .cont, hq => exact hq.elim
/-- repr of what is told by data -/
def rReprD (K : PySem.W.Frag) : List V → Hp → VK → Prop := fun xs H Q => ∃ v d, xs = [v] ∧ Dp K H v d ∧ PyData.showable d = true ∧ d.hasDict = false ∧ d.depth ≤ 8 ∧ d.shown.length ≤ sizeLine ∧ (∃ a, v = .ref a) ∧ Q (.str d.shown) H
theorem call_reprD (hgd : X.A.guards = some []) (hu : X.A.units + 64 < cLine) : CallR X (.builtin "repr") (rReprD X.K) := by
  intro pins s σ H xs us Q I r h
  obtain ⟨v, d, rfl, hd, h1, h2, h3, h4, ⟨a, rfl⟩, q⟩ := h
  obtain ⟨u, rfl, ru⟩ := vals1 r
  obtain ⟨as, rd⟩ := Dp.reads I d (.ref a) u hd ru
  cases ru
  exact repr_of_reads' rd h1 (fun z => by rw [h2] at z; cases z) hgd (by omega) (fun _ _ e => e) (fun h' u tk hk => ⟨.str _, H, I.kept (t' := tk) hk, ⟨u, rfl⟩, q⟩) h4
end
end Br
namespace Br
open PySem PySem.Spec PyProof.Rows L2 Evl SX

/-! ### the head, for a law that knows that no display is under way -/
/-- where at most the script is tracked: its call, by its promise -/
theorem headAt {P : Program} {w : World} {K : PySem.W.Frag} {mg mb : Str → Option Value} {k : Nat} {f a : Addr} {fd : FuncData} {x : Str} {sp : Sp} {s : Shared} {vs : List Value} {H : Hp}
    (inK : K.In s.heap) (nsM : s.heap.Ns mainGlobals mg) (nsB : s.heap.Ns builtinsNs mb) (boot : ∀ x : Str, x ≠ "__name__" → mb x = bootBuiltins x) (nolim : s.heap.NoLimit) (nogen : s.gens = #[]) (there : s.heap.get? a = some { cls := .type "list", data := .seq vs.toArray })
    (room : Room k callerA) (F : ∀ base : Heap, K.In base → base.Ns mainGlobals mg → FnG P w K mg base CX0 k f fd [x] sp) (binds : ∀ (s : Shared) (u : Value), BindsTo s fd ⟨[u], []⟩ [(x, u)])
    (only : Only H) (ok : HOk P w H s.heap) (atA : ∀ b, H b ≠ none → b = a) (notK : H a ≠ none → K.lookup a = none) (asked : sp [.ref a] H (fun v _ => v = .bl true) fun _ _ _ => False) :
    codeAny (model P w) callerA (.call (.ref f) ⟨[.ref a], []⟩) (fun r s' => r = .ok (.ret (.bool true)) ∧ OldK s.heap s'.heap ∧ s'.os = s.os ∧ AllBare s'.gens) s := by
  have untr : ∀ {b : Addr} {o : Obj}, s.heap.get? b = some o → b ≠ a → H b = none := fun {b o} _ hb => Classical.byContradiction fun z => hb (atA b z)
  have dict : ∀ {b : Addr} {o : Obj} {es : Array DictEntry} {ep : Nat}, s.heap.get? b = some o → o.data = .dict es ep → H b = none := fun {b o es ep} e d => untr e fun z => by
    rw [z, there] at e
    obtain rfl := Option.some.inj e
    cases (show Data.seq vs.toArray _ = Data.dict es ep from d)
  have names : ∀ {b : Addr} {m : Str → Option Value}, s.heap.Ns b m → (hidT s.heap H).Ns b m := fun {b m} ⟨o, es, ep, e, d, r⟩ => ⟨o, es, ep, hidT_get e (dict e d), d, r⟩
  have inB : K.In (hidT s.heap H) := fun b o e => hidT_get (inK b o e) <| Classical.byContradiction fun z => by
    obtain rfl := atA b z
    rw [notK z] at e
    cases e
  have modul : Mod K mg (hidT s.heap H) := ⟨inB, names nsM, ⟨mb, names nsB, boot⟩, by
    obtain ⟨mc, h1, h2⟩ := nolim
    exact ⟨mc, names h1, h2⟩⟩
  have env : Env0 P w K mg (hidT s.heap H) callerA [] s H := ⟨rfl, modul, fun b o e => of_hidT e, Nat.le_of_eq (hidT_size _ _), trivial, fun b z => absurd (show b ∈ ([] : List Addr) from z) (by simp), ok, .of_eq nogen⟩
  refine codeAny_mono ((F _ inB (names nsM)).runs callerA [] s H ⟨[.ref a], []⟩ [.ref a] [.ref a] _ _ rfl room env (binds s (.ref a)) (.cons rfl .nil) asked) fun r s' z => ?_
  match r, z with
  | .error e, z => exact z.elim
  | .ok .next, z => exact z.elim
  | .ok .brk, z => exact z.elim
  | .ok .cont, z => exact z.elim
  | .ok (.ret u), ⟨v, H', os, bare, un, ok', ru, ans⟩ =>
    obtain rfl : v = .bl true := ans
    obtain rfl : u = Value.bool true := ru
    refine ⟨rfl, OldK.of_keep fun b o e => ?_, os, bare⟩
    by_cases hn : H b = none
    · exact un.keep b o e hn (fun z => absurd (show b ∈ ([] : List Addr) from z) (by simp)) (by simp)
    · obtain ⟨ob, xs, hb⟩ := (only b).resolve_left hn
      have e1 := (ok b _ hb).1
      have e2 := (ok' b _ (un.frzs b ob _ hb)).1
      rw [e] at e1
      obtain rfl := Option.some.inj e1
      exact e2
theorem headG {P : Program} {w : World} {K : PySem.W.Frag} {mg mb : Str → Option Value} {k : Nat} {f a : Addr} {fd : FuncData} {x : Str} {sp : Sp} {s : Shared} {vs : List Value} {ns : List Int}
    (inK : K.In s.heap) (nsM : s.heap.Ns mainGlobals mg) (nsB : s.heap.Ns builtinsNs mb) (boot : ∀ x : Str, x ≠ "__name__" → mb x = bootBuiltins x) (nolim : s.heap.NoLimit) (nogen : s.gens = #[]) (there : s.heap.get? a = some { cls := .type "list", data := .seq vs.toArray })
    (nums : IntsAre vs ns) (fits : ns.length ≤ sizeLine) (room : Room k callerA) (F : ∀ base : Heap, K.In base → base.Ns mainGlobals mg → FnG P w K mg base CX0 k f fd [x] sp) (binds : ∀ (s : Shared) (u : Value), BindsTo s fd ⟨[u], []⟩ [(x, u)])
    (asked : ∀ H : Hp, Only H → SqL K H a (ns.map V.int) → sp [.ref a] H (fun v _ => v = .bl true) fun _ _ _ => False) :
    codeAny (model P w) callerA (.call (.ref f) ⟨[.ref a], []⟩) (fun r s' => r = .ok (.ret (.bool true)) ∧ OldK s.heap s'.heap ∧ s'.os = s.os ∧ AllBare s'.gens) s := by
  have vals := vals_ints nums
  have size := nums.length
  cases hk : K.lookup a with
  | some o =>
    have e := inK a o hk
    rw [there] at e
    obtain rfl := Option.some.inj e
    have nowhere : Only (fun _ => none) := fun _ => .inl rfl
    refine headAt (H := fun _ => none) inK nsM nsB boot nolim nogen there room F binds nowhere (fun b u z => nomatch z) (fun b z => absurd rfl z) (fun z => absurd rfl z) (asked _ nowhere (.inr ⟨_, vs.toArray, _, hk, rfl, rfl, rfl, ?_, ?_⟩))
    · rw [List.size_toArray, size]
      exact fits
    · simpa using vals
  | none =>
    let H : Hp := fun b => if b = a then some (.frz { cls := .type "list", data := .seq vs.toArray } (.lst (ns.map V.int))) else none
    have ha : H a = some (.frz { cls := .type "list", data := .seq vs.toArray } (.lst (ns.map V.int))) := if_pos rfl
    have no : ∀ b, b ≠ a → H b = none := fun b hb => if_neg hb
    have only : Only H := fun b => by
      by_cases hb : b = a
      · rw [hb]
        exact .inr ⟨_, _, ha⟩
      · exact .inl (no b hb)
    refine headAt inK nsM nsB boot nolim nogen there room F binds only (fun b u z => ?_) (fun b z => Classical.byContradiction fun hb => z (no b hb)) (fun _ => hk) (asked H only (.inl (.inr ⟨_, ha⟩)))
    by_cases hb : b = a
    · subst hb
      rw [ha] at z
      obtain rfl := Option.some.inj z
      exact ⟨there, by rw [List.length_map]; exact fits, vs, _, vals, there⟩
    · rw [no b hb] at z
      cases z
theorem walkG {l : PySem.W.OpenLaw} {n k : Nat} {q : Program} {loose : List Str} {XP : (Str → Option Value) → Heap → Prop} {YP : World → Heap → Prop} {d : DefRec} {K : Params → PySem.W.Frag} {sp : PySem.W.Frag → Sp} {x : Str}
    (hn : l.most = some n) (hn2 : n ≤ sizeLine) (hdf : d.params.defaults = []) (hr : Room k callerA) (hY : ∀ (w : World) (h : Heap), YP w h → (K w.params).In h)
    (F : ∀ (w : World) (mg : Str → Option Value) (fa : Addr) (h : Heap), (K w.params).In h → h.Ns mainGlobals mg → mg d.name = some (.ref fa) →
      ∃ fd : FuncData, (∀ (s : Shared) (u : Value), BindsTo s fd ⟨[u], []⟩ [(x, u)]) ∧ ∀ base : Heap, (K w.params).In base → base.Ns mainGlobals mg → FnG l.prog w (K w.params) mg base CX0 k fa fd [x] (sp (K w.params)))
    (hsp : ∀ (K : PySem.W.Frag) (H : Hp) (a : Addr) (ns : List Int), ns.length ≤ n → Only H → SqL K H a (ns.map V.int) → sp K [.ref a] H (fun v _ => v = .bl true) fun _ _ _ => False) :
    PySem.W.WalkO q loose XP YP l.row.toRowW d [] (fun f vs => PySem.call f vs) := by
  refine Att.attach_call hn hdf fun w s₀ s₁ mg mb fa o pm cd doc a vs ns G Y ho hd hcd hmg hobj hints hlen hg => ?_
  have KX := hY w _ Y
  obtain ⟨fd, hb, hF⟩ := F w mg fa _ KX G.T.g hmg
  exact headG KX G.T.g G.T.b G.T.builtins G.T.nolimit hg hobj hints (Nat.le_trans hlen hn2) hr hF hb fun H hO hS => hsp _ H a ns hlen hO hS
end Br
namespace Br
open PySem PySem.Spec PyProof.Rows L2 Evl SX

/-! ### what is told by repr -/
theorem text_from_len : ∀ (ts : List Str) (k : Nat) (acc : Str), (textFrom k acc ts).length ≤ acc.length + (ts.map fun t => t.length + 2).sum
  | [], k, acc => Nat.le_add_right _ _
  | t :: r, k, acc => by
    have h := text_from_len r (k + 1) (acc ++ (if k > 0 then ", " else "" : String) ++ t)
    have e : (acc ++ (if k > 0 then ", " else "" : String) ++ t).length ≤ acc.length + 2 + t.length := by
      rw [strLen_append, strLen_append]
      split
      · exact Nat.le_refl _
      · exact Nat.add_le_add_right (Nat.add_le_add_left (Nat.zero_le _) _) _
    rw [List.map_cons, List.sum_cons]
    show (textFrom (k + 1) _ r).length ≤ _
    omega
theorem list_text_len (ts : List Str) : (listText ts).length ≤ (ts.map fun t => t.length + 2).sum + 2 := by
  have h := text_from_len ts 0 "["
  unfold listText
  rw [strLen_append]
  have e1 : ((Str.ofString "[") : Str).length = 1 := by decide +kernel
  have e2 : ((Str.ofString "]") : Str).length = 1 := by decide +kernel
  have h' : (textFrom 0 (Str.ofString "[") ts).length ≤ (Str.ofString "[").length + (ts.map fun t => t.length + 2).sum := h
  rw [e1] at h'
  show (textFrom 0 (Str.ofString "[") ts).length + (Str.ofString "]").length ≤ _
  rw [e2]
  omega
theorem shown_word {l : List Nat} (h : okS l = true) : (reprText (S l)).length ≤ 602 := by
  obtain ⟨w1, w2, w3⟩ := word_ok h
  have z := PySem.StrLaws.reprText_len (S l) fun c hc => by
    have := lays_word w3 c hc
    omega
  have h2 : (S l).length = l.length := S_len l
  have z' : (reprText (S l)).length ≤ 10 * (S l).length + 2 := z
  omega
theorem shown_all : ∀ ls : List (List Nat), PyData.shownAll (ls.map dS) = ls.map fun l => reprText (S l)
  | [] => by simp [PyData.shownAll]
  | l :: ls => by
    rw [List.map_cons]
    unfold PyData.shownAll
    rw [shown_all ls]
    simp [dS, PyData.shown]
theorem shown_words : ∀ {ls : List (List Nat)}, (∀ l ∈ ls, okS l = true) → ((ls.map fun l => reprText (S l)).map fun t => t.length + 2).sum ≤ 604 * ls.length
  | [], _ => Nat.le_refl _
  | l :: ls, h => by
    have h1 := shown_word (h l List.mem_cons_self)
    have h2 := shown_words fun m hm => h m (List.mem_cons_of_mem _ hm)
    rw [List.map_cons, List.map_cons, List.sum_cons, List.length_cons]
    omega
theorem showable_all : ∀ ls : List (List Nat), PyData.showableAll (ls.map dS) = true
  | [] => by simp [PyData.showableAll]
  | l :: ls => by
    rw [List.map_cons]
    unfold PyData.showableAll
    rw [showable_all ls]
    simp [dS, PyData.showable]
theorem nodict_all : ∀ ls : List (List Nat), PyData.hasDictAll (ls.map dS) = false
  | [] => by simp [PyData.hasDictAll]
  | l :: ls => by
    rw [List.map_cons]
    unfold PyData.hasDictAll
    rw [nodict_all ls]
    simp [dS, PyData.hasDict]
section
variable {K : PySem.W.Frag} {σ : L2.St} {H H' : Hp} {ta tb tc te tx : TE} {t : TT} {x y z v : V} {P : V → Hp → Prop}
theorem ev_reprD {p : Addr} {ls : List (List Nat)} (h : Ev te σ H (.ref p)) (hp : H p = some (.lst (ls.map sV))) (hw : ∀ l ∈ ls, okS l = true) (hl : ls.length ≤ 60) : Ev (tCB (rReprD K) (tCons te tNil)) σ H (.str (PyData.list (ls.map dS)).shown) :=
  ev_cb (ea_cons h ea_nil) fun H1 e _ q => ⟨.ref p, .list (ls.map dS), rfl, .lst (sq_of (e p _ hp)) (dpa_strs ls), by
    unfold PyData.showable
    exact showable_all ls, by
    unfold PyData.hasDict
    exact nodict_all ls, by
    unfold PyData.depth
    rw [deep_strs]
    decide, by
    unfold PyData.shown
    rw [shown_all]
    refine Nat.le_trans (list_text_len _) ?_
    have := shown_words hw
    refine Nat.le_trans (Nat.add_le_add_right this 2) (Nat.le_trans (Nat.add_le_add_right (Nat.mul_le_mul_left 604 hl) 2) (by decide)), ⟨p, rfl⟩, q H1 (Ex.refl H1)⟩
/-- a comprehension over the signs of a text -/
theorem el_lcS {l : List Nat} {j : Nat} {vs : List Nat} (f : Nat → Bool) (w : Nat → V) (h : Ev tx σ H (.str (S l))) (hl : l.length ≤ 40000) (hw : ∀ x, wipe ((wipe σ vs).set j (some x)) vs = wipe σ vs)
    (ht : ∀ (i c : Nat) H1, Ex H H1 → l[i]? = some c → EvT t ((wipe σ vs).set j (some (.str (S [c])))) H1 (f i)) (he : ∀ (i c : Nat) H1, Ex H H1 → l[i]? = some c → f i = true → Ev te ((wipe σ vs).set j (some (.str (S [c])))) H1 (w i)) :
    EvL (tLc (iStr tx) (gName j) t te vs) σ H (given l.length f w) := fun H0 e Q q => h H0 e _ fun H1 e1 => ⟨S l, rfl, fun Dl hD =>
    lc_it (walk_str (z := S l)) (Cw H1 f w Dl) ⟨hD, Ex.new hD, upd_same⟩ (fun _ _ _ _ => True.intro)
      (fun i v H3 H4 hi c y => by
        obtain ⟨rfl, ch, hc, rfl⟩ := y
        have hc' : l[i]? = some ch := by simpa using hc
        have hlt : i < l.length := (List.getElem?_eq_some_iff.mp hc').1
        refine ⟨hw _, ?_⟩
        exact cw_turn c (by omega) (ht i ch H1 (e.trans e1) hc') (fun hf => he i ch H1 (e.trans e1) hc' hf))
      (fun H3 c => q Dl H3 (fresh_back e1 c.1) (e1.trans c.2.1) (by
        have hs : (S l).cps.size = l.length := by simp
        rw [← hs]
        exact c.2.2))⟩
/-- a choice by a test -/
theorem ev_ifX {b : Bool} (h : EvT t σ H b) (h1 : b = true → Ev ta σ H v) (h2 : b = false → Ev tb σ H v) : Ev (tIf t ta tb) σ H v := fun H1 e Q q => h H1 e _ fun H2 e2 => by
  cases b with
  | true =>
    show (if true = true then _ else _)
    rw [if_pos rfl]
    exact h1 rfl H2 (e.trans e2) _ fun H3 e3 => q H3 (e2.trans e3)
  | false =>
    show (if false = true then _ else _)
    rw [if_neg Bool.false_ne_true]
    exact h2 rfl H2 (e.trans e2) _ fun H3 e3 => q H3 (e2.trans e3)
/-- one of the items of a list that stands and of a new one -/
theorem ep_pickCat {tl : TA} {p : Addr} {xs : List V} {n : Nat} {i : Int} (mono : ∀ v H1 H2, Ex H1 H2 → P v H1 → P v H2) (ha : Ev ta σ H (.ref p)) (hp : H p = some (.lst xs)) (hx : ∀ v ∈ xs, P v H) (h : EvAll tl σ H n P) (hb : ∀ H1, Ex H H1 → Ev tb σ H1 (.int i)) (hn : xs.length + n ≤ 1000)
    (h0 : 0 ≤ i) (h1 : i < xs.length + n) : EvP (tOp (rIxL K) (tOp rCat ta (tLst tl)) tb) σ H P := fun H1 e Q q =>
  ha H1 e _ fun H2 e2 => h H2 (e.trans e2) _ fun vs H3 e3 hl hv => ⟨sz_of (by omega), fun r hr => by
    have e4 := (e.trans e2).trans e3
    refine ⟨p, r, xs, vs, rfl, rfl, (Ex.new hr) p _ (e4 p _ hp), upd_same, sz_of (by omega), fun s hs => ?_⟩
    have e5 := (Ex.new (o := .lst vs) hr).trans (Ex.new (o := .lst (xs ++ vs)) hs)
    refine hb _ (e4.trans e5) _ (Ex.refl _) _ fun H6 e6 => ?_
    have hlt : i.toNat < (xs ++ vs).length := by rw [List.length_append]; omega
    have at_ : atI (xs ++ vs) i = some (xs ++ vs)[i.toNat] := atI_get h0 (by rw [List.length_append]; omega)
    refine ⟨s, xs ++ vs, i, _, rfl, rfl, sq_of (e6 s _ upd_same), at_, q _ H6 ((e2.trans e3).trans (e5.trans e6)) ?_⟩
    rcases List.mem_append.mp (List.getElem_mem hlt) with hm | hm
    · exact mono _ H H6 (e4.trans (e5.trans e6)) (hx _ hm)
    · exact mono _ H3 H6 (e5.trans e6) (hv _ hm)⟩
end
/-! ### whole numbers and things that are none -/
def BadI (K : PySem.W.Frag) (v : V) (H : Hp) : Prop := ThI K H v ∧ isWholeV v = false
theorem BadI.mono {K : PySem.W.Frag} (v : V) (H1 H2 : Hp) (e : Ex H1 H2) (h : BadI K v H1) : BadI K v H2 := ⟨h.1.mono e, h.2⟩
section
variable {K : PySem.W.Frag} {H2 : Hp}
theorem bad_non : BadI K .non H2 := ⟨.inr (.inr ⟨"NoneType", .base .non, by decide +kernel, fun _ h => nomatch h⟩), rfl⟩
theorem bad_bl {b : Bool} : BadI K (.bl b) H2 := ⟨.inr (.inl ⟨b, rfl⟩), rfl⟩
theorem bad_str {z : Str} : BadI K (.str z) H2 := ⟨.inr (.inr ⟨"str", .base (.str z), by decide +kernel, fun _ h => nomatch h⟩), rfl⟩
theorem bad_lst {p : Addr} {xs : List V} (h : H2 p = some (.lst xs)) : BadI K (.ref p) H2 := ⟨.inr (.inr ⟨"list", .base (.lst h), by decide +kernel, fun _ h => nomatch h⟩), rfl⟩
theorem bad_tup {p : Addr} {xs : List V} (h : H2 p = some (.tup xs)) : BadI K (.ref p) H2 := ⟨.inr (.inr ⟨"tuple", .base (.tup h), by decide +kernel, fun _ h => nomatch h⟩), rfl⟩
theorem bad_dct {p : Addr} (h : H2 p = some (.dK [])) : BadI K (.ref p) H2 := ⟨.inr (.inr ⟨"dict", .base (.dK h), by decide +kernel, fun _ h => nomatch h⟩), rfl⟩
end
/-- any thing, its signs in Python -/
def Any (K : PySem.W.Frag) (v : V) (H : Hp) : Prop := ThS K H v ∧ ∀ l, v = .str (S l) → Lays l ∧ l.length ≤ 1000
theorem Any.mono {K : PySem.W.Frag} (v : V) (H1 H2 : Hp) (e : Ex H1 H2) (h : Any K v H1) : Any K v H2 := ⟨h.1.mono e, h.2⟩
theorem any_txt {K : PySem.W.Frag} {H : Hp} {l : List Nat} (h : Lays l) (hl : l.length ≤ 1000) : Any K (.str (S l)) H := ⟨.inl ⟨l, rfl, by omega⟩, fun m e => by
  have e' : l = m := S_inj (V.str.inj e)
  subst e'
  exact ⟨h, hl⟩⟩
theorem any_odd {K : PySem.W.Frag} {v : V} {H : Hp} (h : Odd K v H) (n : ∀ z, v ≠ .str z) : Any K v H := ⟨h.1, fun l e => absurd e (n _)⟩
theorem lays_app {a b : List Nat} (h1 : Lays a) (h2 : Lays b) : Lays (a ++ b) := fun c hc => by
  rcases List.mem_append.mp hc with hc | hc
  · exact h1 c hc
  · exact h2 c hc
theorem one_low {c : Nat} : ([c] : List Nat) < [97] ↔ c < 97 := by
  rw [List.cons_lt_cons_iff]
  simp
theorem one_high {c : Nat} : ([104] : List Nat) < [c] ↔ 104 < c := by
  rw [List.cons_lt_cons_iff]
  simp
/-- the signs that are no letters -/
def noLet (l : List Nat) (i : Nat) : Bool := !(!decide ([l.getD i 0] < [97]) && !decide ([104] < [l.getD i 0]))
theorem no_lets (l : List Nat) : ((List.range l.length).filter (noLet l)).isEmpty = l.all fun c => decide (c ∈ [97, 98, 99, 100, 101, 102, 103, 104]) := by
  rw [Bool.eq_iff_iff, List.isEmpty_iff, List.filter_eq_nil_iff, List.all_eq_true]
  constructor
  · intro h c hc
    obtain ⟨i, hi, rfl⟩ := List.getElem_of_mem hc
    have z := h i (List.mem_range.mpr hi)
    unfold noLet at z
    rw [List.getD_eq_getElem?_getD, List.getElem?_eq_getElem hi] at z
    simp only [Option.getD_some, one_low, one_high] at z
    simp at z
    simp
    omega
  · intro h i hi
    have hi := List.mem_range.mp hi
    have z := h _ (List.getElem_mem hi)
    unfold noLet
    rw [List.getD_eq_getElem?_getD, List.getElem?_eq_getElem hi]
    simp only [Option.getD_some, one_low, one_high]
    simp at z
    simp
    omega
end Br
namespace Br
open PySem PySem.Spec PyProof.Rows L2 Evl SX

/-! ### mirrors -/
theorem rev_turn {l : List Nat} {k : Nat} (hk : k ≤ l.length) : (turnL l k).reverse = turnL l.reverse (l.length - k) := by
  unfold turnL
  rw [List.reverse_append, List.drop_reverse, List.take_reverse]
  congr 2
  · rw [show l.length - (l.length - k) = k by omega]
  · rw [show l.length - (l.length - k) = k by omega]
theorem least_rev_turn {l m : List Nat} {k : Nat} (hk : k < l.length) : IsLeast (turnL l k).reverse m ↔ IsLeast l.reverse m := by
  rw [rev_turn (Nat.le_of_lt hk)]
  by_cases h : k = 0
  · rw [h, show l.length - 0 = l.reverse.length by rw [List.length_reverse]; omega, turn_full]
  · exact least_turn (by rw [List.length_reverse]; omega)
/-- the mirror's mirror -/
theorem mirror_twice {l m : List Nat} (h : IsLeast l.reverse m) {r : List Nat} : IsLeast m.reverse r ↔ IsLeast l r := by
  obtain ⟨k, hk, rfl⟩ := mem_turns.mp h.1
  rw [least_rev_turn hk, List.reverse_reverse]

/-! ### rings -/
def Ring (l : List Nat) : Prop := ∀ k, k < l.length → ¬ turnL l k < l
theorem ring_least {l : List Nat} (hl : 0 < l.length) : Ring l ↔ IsLeast l l := by
  constructor
  · intro h
    refine ⟨mem_turns.mpr ⟨0, hl, (turn_zero l).symm⟩, fun t ht => ?_⟩
    obtain ⟨k, hk, rfl⟩ := mem_turns.mp ht
    exact h k hk
  · intro h k hk
    exact h.2 _ (mem_turns.mpr ⟨k, hk, rfl⟩)
theorem lt_same {a b : List Nat} (hl : a.length = b.length) (h : a < b) (c d : List Nat) : a ++ c < b ++ d := by
  refine lt_apps h (fun hp => ?_) c d
  have e := hp.eq_of_length hl
  rw [e] at h
  exact absurd h (List.lt_irrefl _)
/-- nothing is greater than the top letter alone -/
theorem top_max {T : Nat} : ∀ {w : List Nat}, (∀ c ∈ w, c ≤ T) → ¬ List.replicate w.length T < w
  | [], _ => fun h => by cases h
  | c :: w, h => fun z => by
    rw [List.length_cons, List.replicate_succ, List.cons_lt_cons_iff] at z
    have hc := h c List.mem_cons_self
    rcases z with z | ⟨_, z⟩
    · omega
    · exact top_max (fun d hd => h d (List.mem_cons_of_mem _ hd)) z
theorem top_eq {T : Nat} {w : List Nat} (h : ∀ c ∈ w, c ≤ T) (h2 : ¬ w < List.replicate w.length T) : w = List.replicate w.length T := lt_tri h2 (top_max h)
/-- a ring that begins with the top letter has no other -/
theorem head_top {T : Nat} {u : List Nat} (hr : Ring (T :: u)) (h : ∀ c ∈ T :: u, c ≤ T) : T :: u = List.replicate (u.length + 1) T := by
  have all : ∀ c ∈ T :: u, c = T := by
    intro c hc
    obtain ⟨k, hk, rfl⟩ := List.getElem_of_mem hc
    have hle := h _ hc
    have z := hr k hk
    by_cases e : (T :: u)[k] = T
    · exact e
    · exfalso
      refine z ?_
      unfold turnL
      rw [List.drop_eq_getElem_cons hk]
      show (T :: u)[k] :: _ < T :: u
      rw [List.cons_lt_cons_iff]
      exact .inl (by omega)
  exact List.eq_replicate_iff.mpr ⟨rfl, all⟩
theorem ring_rep (n T : Nat) : Ring (List.replicate n T) := fun k hk z => by
  have e : turnL (List.replicate n T) k = List.replicate n T := by
    rw [List.length_replicate] at hk
    unfold turnL
    rw [List.drop_replicate, List.take_replicate, List.replicate_append_replicate]
    congr 1
    omega
  rw [e] at z
  exact absurd z (List.lt_irrefl _)
/-- where a ring begins so, the top letters behind it make one too -/
theorem ring_top {a z : List Nat} {T : Nat} (ha : 0 < a.length) (h : Ring (a ++ z)) (hT : ∀ c ∈ a ++ z, c ≤ T) : Ring (a ++ List.replicate z.length T) := by
  have haT : ∀ c ∈ a, c ≤ T := fun c hc => hT c (List.mem_append_left _ hc)
  have hzT : ∀ c ∈ z, c ≤ T := fun c hc => hT c (List.mem_append_right _ hc)
  -- where the top letter is the first, all are
  have first : a[0]'ha = T → Ring (a ++ List.replicate z.length T) := by
    intro e
    match a, ha, e, h, hT with
    | c :: a, _, e, h, hT =>
      have e : c = T := e
      subst e
      have z1 : c :: (a ++ z) = List.replicate ((a ++ z).length + 1) c := head_top h hT
      have z2 : z = List.replicate z.length c := List.eq_replicate_iff.mpr ⟨rfl, fun d hd => by
        have : d ∈ c :: (a ++ z) := List.mem_cons_of_mem _ (List.mem_append_right _ hd)
        rw [z1] at this
        exact (List.mem_replicate.mp this).2⟩
      rw [← z2]
      exact h
  by_cases e0 : a[0]'ha = T
  · exact first e0
  have lt0 : a[0]'ha < T := by
    have := haT _ (List.getElem_mem ha)
    omega
  intro k hk hlt
  by_cases k0 : k = 0
  · rw [k0, turn_zero] at hlt
    exact absurd hlt (List.lt_irrefl _)
  rw [List.length_append, List.length_replicate] at hk
  by_cases hka : k < a.length
  · have e1 : turnL (a ++ List.replicate z.length T) k = a.drop k ++ (List.replicate z.length T ++ a.take k) := by
      unfold turnL
      rw [List.drop_append_of_le_length (Nat.le_of_lt hka), List.take_append_of_le_length (Nat.le_of_lt hka), List.append_assoc]
    have e2 : turnL (a ++ z) k = a.drop k ++ (z ++ a.take k) := by
      unfold turnL
      rw [List.drop_append_of_le_length (Nat.le_of_lt hka), List.take_append_of_le_length (Nat.le_of_lt hka), List.append_assoc]
    have ea : a = a.take (a.length - k) ++ a.drop (a.length - k) := (List.take_append_drop _ _).symm
    have hl : (a.drop k).length = (a.take (a.length - k)).length := by
      rw [List.length_drop, List.length_take]
      omega
    have s1 : ∀ y, a ++ y = a.take (a.length - k) ++ (a.drop (a.length - k) ++ y) := fun y => by
      rw [← List.append_assoc, List.take_append_drop]
    have h2 := h k (by rw [List.length_append]; omega)
    rw [e2, s1 z] at h2
    rw [e1, s1] at hlt
    rcases same_len hl hlt with hc | ⟨heq, hc⟩
    · exact h2 (lt_same hl hc _ _)
    · rw [heq, app_lt] at h2
      -- b, the last letters
      have hb : (a.drop (a.length - k)).length = k := by
        rw [List.length_drop]
        omega
      generalize hbe : a.drop (a.length - k) = b at h2 hc hb
      have hbT : ∀ c ∈ b, c ≤ T := fun c hm => haT c (List.mem_of_mem_drop (by rw [hbe]; exact hm))
      -- what stands first is top letters alone
      have ey : b ++ List.replicate z.length T = (b ++ List.replicate z.length T).take z.length ++ (b ++ List.replicate z.length T).drop z.length := (List.take_append_drop _ _).symm
      rw [ey] at hc
      have hyl : ((b ++ List.replicate z.length T).take z.length).length = z.length := by
        rw [List.length_take, List.length_append, List.length_replicate]
        omega
      have hyT : ∀ c ∈ (b ++ List.replicate z.length T).take z.length, c ≤ T := fun c hm => by
        rcases List.mem_append.mp (List.mem_of_mem_take hm) with hm | hm
        · exact hbT c hm
        · rw [(List.mem_replicate.mp hm).2]
          exact Nat.le_refl _
      rcases same_len (by rw [List.length_replicate, hyl]) hc with hc | ⟨heq2, hc⟩
      · have z0 := top_max hyT
        rw [hyl] at z0
        exact z0 hc
      · by_cases hzk : z.length ≤ k
        · -- z itself is top letters alone
          have e3 : b.take z.length = List.replicate z.length T := by
            rw [heq2, List.take_append_of_le_length (by omega)]
          have ez : z = List.replicate z.length T := by
            refine top_eq hzT fun hz => h2 ?_
            have e4 : b ++ z = b.take z.length ++ (b.drop z.length ++ z) := by rw [← List.append_assoc, List.take_append_drop]
            rw [e4, e3]
            exact lt_same (by rw [List.length_replicate]) hz _ _
          rw [← ez] at hlt
          have h3 := h k (by rw [List.length_append]; omega)
          rw [e2, s1 z] at h3
          exact h3 hlt
        · -- the last letters are top letters alone, so all are
          have e3 : b = List.replicate k T := by
            have z0 : b = ((b ++ List.replicate z.length T).take z.length).take k := by
              rw [List.take_take, Nat.min_eq_left (by omega), ← hb, List.take_left]
            rw [z0, ← heq2, List.take_replicate, Nat.min_eq_left (by omega)]
          have all : ∀ (j i : Nat), (hi : i < a.length) → a.length - i ≤ j → a[i] = T := by
            intro j
            induction j with
            | zero => intro i hi hj; omega
            | succ j ih =>
              intro i hi hj
              by_cases hik : a.length - k ≤ i
              · have z1 : (a.drop (a.length - k))[i - (a.length - k)]? = some a[i] := by
                  rw [List.getElem?_drop, show a.length - k + (i - (a.length - k)) = i by omega, List.getElem?_eq_getElem hi]
                rw [hbe, e3, List.getElem?_replicate, if_pos (by omega)] at z1
                exact (Option.some.inj z1).symm
              · have z1 : (a.drop k)[i]? = (a.take (a.length - k))[i]? := by rw [heq]
                rw [List.getElem?_drop, List.getElem?_take, if_pos (by omega), List.getElem?_eq_getElem hi, List.getElem?_eq_getElem (show k + i < a.length by omega)] at z1
                rw [← Option.some.inj z1]
                exact ih (k + i) (by omega) (by omega)
          have := all a.length 0 ha (by omega)
          exact e0 this
  · have e1 : turnL (a ++ List.replicate z.length T) k = List.replicate (a.length + z.length - k) T ++ (a ++ List.replicate (k - a.length) T) := by
      unfold turnL
      rw [List.drop_append, List.drop_of_length_le (by omega), List.nil_append, List.drop_replicate, List.take_append, List.take_of_length_le (by omega), List.take_replicate]
      congr 2
      · omega
      · congr 1
        omega
    rw [e1] at hlt
    have hpos : a.length + z.length - k = (a.length + z.length - k - 1) + 1 := by omega
    rw [hpos, List.replicate_succ] at hlt
    match a, ha, lt0, hlt with
    | c :: a, _, lt0, hlt =>
      have lt0 : c < T := lt0
      simp only [List.cons_append] at hlt
      rw [List.cons_lt_cons_iff] at hlt
      rcases hlt with hlt | ⟨hlt, _⟩
      · omega
      · omega
end Br
namespace Br
open PySem PySem.Spec PyProof.Rows L2 Evl SX
def topS (i : Nat) : Stmt := PySem.Challenge.pw_beadrings_k09_mirrors.main.body.getD i (.Pass ⟨0, 0, 0, 0⟩)
abbrev s_is_whole : Stmt := topS 9
abbrev N_is_whole : List Str := ["thing"]
theorem sc_is_whole : FnScope N_is_whole ["thing"] (defScope s_is_whole) := ⟨rfl, rfl, rfl, by decide +kernel, rfl, by decide +kernel, by decide +kernel⟩
abbrev s_is_word : Stmt := topS 12
abbrev N_is_word : List Str := ["thing", "letter"]
theorem sc_is_word : FnScope N_is_word ["thing"] (defScope s_is_word) := ⟨rfl, rfl, rfl, by decide +kernel, rfl, by decide +kernel, by decide +kernel⟩
abbrev s_need_word : Stmt := topS 13
abbrev N_need_word : List Str := ["thing"]
theorem sc_need_word : FnScope N_need_word ["thing"] (defScope s_need_word) := ⟨rfl, rfl, rfl, by decide +kernel, rfl, by decide +kernel, by decide +kernel⟩
abbrev s_turned : Stmt := topS 14
abbrev N_turned : List Str := ["word", "by", "start"]
theorem sc_turned : FnScope N_turned ["word", "by"] (defScope s_turned) := ⟨rfl, rfl, rfl, by decide +kernel, rfl, by decide +kernel, by decide +kernel⟩
abbrev s_turnings : Stmt := topS 15
abbrev N_turnings : List Str := ["word", "by"]
theorem sc_turnings : FnScope N_turnings ["word"] (defScope s_turnings) := ⟨rfl, rfl, rfl, by decide +kernel, rfl, by decide +kernel, by decide +kernel⟩
abbrev s_mirrored : Stmt := topS 16
abbrev N_mirrored : List Str := ["word"]
theorem sc_mirrored : FnScope N_mirrored ["word"] (defScope s_mirrored) := ⟨rfl, rfl, rfl, by decide +kernel, rfl, by decide +kernel, by decide +kernel⟩
abbrev s_ring_of : Stmt := topS 18
abbrev N_ring_of : List Str := ["word"]
theorem sc_ring_of : FnScope N_ring_of ["word"] (defScope s_ring_of) := ⟨rfl, rfl, rfl, by decide +kernel, rfl, by decide +kernel, by decide +kernel⟩
abbrev s_mirror_of : Stmt := topS 20
abbrev N_mirror_of : List Str := ["word"]
theorem sc_mirror_of : FnScope N_mirror_of ["word"] (defScope s_mirror_of) := ⟨rfl, rfl, rfl, by decide +kernel, rfl, by decide +kernel, by decide +kernel⟩
abbrev s_is_own_mirror : Stmt := topS 21
abbrev N_is_own_mirror : List Str := ["word"]
theorem sc_is_own_mirror : FnScope N_is_own_mirror ["word"] (defScope s_is_own_mirror) := ⟨rfl, rfl, rfl, by decide +kernel, rfl, by decide +kernel, by decide +kernel⟩
abbrev s__law_mixed : Stmt := topS 23
abbrev N__law_mixed : List Str := ["_law_cell", "_law_k", "_law_number_here"]
theorem sc__law_mixed : FnScope N__law_mixed ["_law_cell", "_law_k"] (defScope s__law_mixed) := ⟨rfl, rfl, rfl, by decide +kernel, rfl, by decide +kernel, by decide +kernel⟩
abbrev s__law_number : Stmt := topS 24
abbrev N__law_number : List Str := ["_law_script", "_law_k", "_law_cell"]
theorem sc__law_number : FnScope N__law_number ["_law_script", "_law_k"] (defScope s__law_number) := ⟨rfl, rfl, rfl, by decide +kernel, rfl, by decide +kernel, by decide +kernel⟩
abbrev s__law_kind : Stmt := topS 25
abbrev N__law_kind : List Str := ["_law_e", "_law_found"]
theorem sc__law_kind : FnScope N__law_kind ["_law_e"] (defScope s__law_kind) := ⟨rfl, rfl, rfl, by decide +kernel, rfl, by decide +kernel, by decide +kernel⟩
abbrev s__law_word : Stmt := topS 26
abbrev N__law_word : List Str := ["_law_script", "_law_at", "_law_number_here", "_law_few", "_law_size", "_law_k", "_law_word_here", "_law_again", "_law_place"]
theorem sc__law_word : FnScope N__law_word ["_law_script", "_law_at"] (defScope s__law_word) := ⟨rfl, rfl, rfl, by decide +kernel, rfl, by decide +kernel, by decide +kernel⟩
abbrev s__law_least : Stmt := topS 27
abbrev N__law_least : List Str := ["_law_word_here", "_law_found", "_law_k", "_law_other"]
theorem sc__law_least : FnScope N__law_least ["_law_word_here"] (defScope s__law_least) := ⟨rfl, rfl, rfl, by decide +kernel, rfl, by decide +kernel, by decide +kernel⟩
abbrev s__law_drawn : Stmt := topS 28
abbrev N__law_drawn : List Str := ["_law_script", "_law_at", "_law_word_here", "_law_cell", "_law_half", "_law_place"]
theorem sc__law_drawn : FnScope N__law_drawn ["_law_script", "_law_at"] (defScope s__law_drawn) := ⟨rfl, rfl, rfl, by decide +kernel, rfl, by decide +kernel, by decide +kernel⟩
abbrev s__law_refused : Stmt := topS 29
abbrev N__law_refused : List Str := ["_law_way", "_law_thing", "_law_error", "_law_e"]
theorem sc__law_refused : FnScope N__law_refused ["_law_way", "_law_thing"] (defScope s__law_refused) := ⟨rfl, rfl, rfl, by decide +kernel, rfl, by decide +kernel, by decide +kernel⟩
abbrev s_law : Stmt := topS 30
abbrev N_law : List Str := ["_law_script", "_law_k", "_law_word_here", "_law_due", "_law_one", "_law_odd"]
theorem sc_law : FnScope N_law ["_law_script"] (defScope s_law) := ⟨rfl, rfl, rfl, by decide +kernel, rfl, by decide +kernel, by decide +kernel⟩
structure Txt (K : PySem.W.Frag) (mg : Str → Option Value) (cE cN cR cW cO cM : Addr) : Prop where
  b_ValueError : mg "ValueError" = none
  b_all : mg "all" = none
  b_bool : mg "bool" = none
  b_int : mg "int" = none
  b_isinstance : mg "isinstance" = none
  b_len : mg "len" = none
  b_min : mg "min" = none
  b_range : mg "range" = none
  b_repr : mg "repr" = none
  b_reversed : mg "reversed" = none
  b_str : mg "str" = none
  c_MOST_LETTERS : ∃ u, mg "MOST_LETTERS" = some u ∧ RelV (.int 60) u
  c_LETTERS : ∃ u, mg "LETTERS" = some u ∧ RelV (.str "abcdefgh") u
  k_BeadError : mg "BeadError" = some (.ref cE)
  k_BadNumber : mg "BadNumber" = some (.ref cN)
  k_BadRing : mg "BadRing" = some (.ref cR)
  k_BadWord : mg "BadWord" = some (.ref cW)
  k_NoRing : mg "NoRing" = some (.ref cO)
  k_TooMany : mg "TooMany" = some (.ref cM)
  x_BadWord : PySem.W.excIn K cW [.type "ValueError", .type "Exception", .type "BaseException", .type "object"] "ValueError.__new__" = true
  p_BadWord : PySem.W.keepIn K (.ref cW) = true
  s_BadWord : PySem.W.subIn K (.ref cW) (.type "BaseException") = some true
  y_BadWord : PySem.W.typeIn K (.ref cW) = some (.type "type")
  x_BadNumber : PySem.W.excIn K cN [.type "ValueError", .type "Exception", .type "BaseException", .type "object"] "ValueError.__new__" = true
  p_BadNumber : PySem.W.keepIn K (.ref cN) = true
  s_BadNumber : PySem.W.subIn K (.ref cN) (.type "BaseException") = some true
  y_BadNumber : PySem.W.typeIn K (.ref cN) = some (.type "type")
  ga_BadWord : PySem.W.findIn K (.ref cW) "__getattribute__" = some (some (.builtin "BaseException.__getattribute__"))
  gg_BadWord : PySem.W.findIn K (.ref cW) "__getattr__" = some none
  hd_BadWord : PySem.W.hasDictIn K cW = true
  hc_BadWord : PySem.W.findIn K (.ref cW) "__class__" = some (some (.builtin "object.__class__"))
  mo_BadWord : PySem.W.mroIn K cW (.type "object") = some true
  i_BadWord_BadNumber : PySem.W.kitOne K (.ref cW) (.ref cN) = some false
  i_BadWord_BadRing : PySem.W.kitOne K (.ref cW) (.ref cR) = some false
  i_BadWord_BadWord : PySem.W.kitOne K (.ref cW) (.ref cW) = some true
  i_BadWord_NoRing : PySem.W.kitOne K (.ref cW) (.ref cO) = some false
  i_BadWord_TooMany : PySem.W.kitOne K (.ref cW) (.ref cM) = some false
  i_BadWord_V : PySem.W.kitOne K (.ref cW) (.type "ValueError") = some true
  m_BadWord : PySem.W.subIn K (.ref cW) (.ref cE) = some true
  sp : PySem.W.specialIn K (.builtin "object.__class__") "__get__" = some (some (.builtin "getset_descriptor.__get__"))
  tk : PySem.W.takesIn K (.builtin "object.__class__") = some true
  sE : PySem.W.subIn K (.ref cE) (.type "BaseException") = some true
  hE : PySem.W.hasDictIn K cE = true
  yE : PySem.W.typeIn K (.ref cE) = some (.type "type")
theorem Txt.exc_BadWord {K : PySem.W.Frag} {mg : Str → Option Value} {cE cN cR cW cO cM : Addr} (T : Txt K mg cE cN cR cW cO cM) : ExcC K cW := ⟨T.ga_BadWord, T.gg_BadWord, T.s_BadWord, T.hd_BadWord, T.hc_BadWord, T.sp, T.tk, T.mo_BadWord⟩
theorem Txt.hit_BadWord {K : PySem.W.Frag} {mg : Str → Option Value} {cE cN cR cW cO cM : Addr} (T : Txt K mg cE cN cR cW cO cM) : PySem.W.exmOne K (.ref cW) (.ref cE) = some true := PySem.W.exm_ref T.sE T.hE T.yE T.m_BadWord
section
variable {P : Program} {w : World} {K : PySem.W.Frag} {mg : Str → Option Value} {base : Heap} {cE cN cR cW cO cM : Addr}

local macro_rules | `(tactic| walk_at "br_rv") => `(tactic| first
  | exact rv_I0
  | exact rv_I (show (0 : Int) < _ by omega)
  | exact rv_I (show CDiv _ _ from ⟨by omega, by omega⟩)
  | exact rv_I (show CMul _ _ from Or.inl ⟨by omega, by omega⟩)
  | exact rv_I (show CMul _ _ from Or.inr ⟨by omega, by omega⟩)
  | exact rv_eqI
  | exact rv_neI
  | exact rv_eqS
  | exact rv_neS
  | exact rv_ltS
  | exact rv_leS)
local macro_rules | `(tactic| walk_at "br_ev") => `(tactic| first
  | exact ev_c
  | exact ev_var rfl
  | (apply ev_op; walk_at "br_ev"; walk_at "br_ev"; walk_at "br_rv"))

theorem has__law_mixed (T : Txt K mg cE cN cR cW cO cM) (S0 : Src K mg "_law_mixed" s__law_mixed ["_law_cell", "_law_k"]) : Has P w K mg base CX0 1 "_law_mixed" ["_law_cell", "_law_k"] sp_mixed := by
  obtain ⟨f, fd, gm, F, b⟩ := S0
  refine ⟨f, fd, gm, F.kp, b, F.ok sc__law_mixed (fun vs H Q E h => ?_) (fun cdv A outer s H vs Q E hr h => ⟨_, (pss_cons (ps_set (i := 2) sc__law_mixed.nd rfl (Or.inl rfl) (pe_op op_mod (pe_op op_mul (pe_op op_add (pe_op op_add (pe_op op_add (pe_op op_mod (pv 0) pe_int) (pe_op op_mul (pe_op op_mul pe_int (pv 1)) (pv 1))) (pe_op op_mul pe_int (pv 1))) pe_int) pe_int) pe_int)) (pss_one (ps_ret (pe_op op_fdiv (pe_op op_mod (pe_op op_mul (pv 2) (pe_op op_add (pe_op op_mod (pv 2) pe_int) pe_int)) pe_int) pe_int)))), ?_⟩)⟩
  · obtain ⟨c, k, rfl, _⟩ := h
    rfl
  · obtain ⟨c, k, rfl, k0, k1, q⟩ := h
    have hk : 0 ≤ k * k ∧ k * k ≤ 100000 * 100000 := ⟨Int.mul_nonneg k0 k0, Int.mul_le_mul k1 k1 k0 (by decide)⟩
    have e1 : 7919 * k * k = 7919 * (k * k) := Int.mul_assoc _ _ _
    have hc : 0 ≤ c % 1000000007 ∧ c % 1000000007 < 1000000007 := ⟨Int.emod_nonneg _ (by decide), Int.emod_lt_of_pos _ (by decide)⟩
    have hn : 0 ≤ mixN c k ∧ mixN c k < 2147483647 := ⟨Int.emod_nonneg _ (by decide), Int.emod_lt_of_pos _ (by decide)⟩
    refine q_asg (v := .int (mixN c k)) (ev_is (v := .int ((c % 1000000007 + 7919 * k * k + 31 * k + 17) * 48271 % 2147483647)) (by walk_at "br_ev") rfl) fun H1 e1' => ?_
    refine s_ret (v := .int (mixed c k)) (ev_is (v := .int (mixN c k * (mixN c k % 65521 + 16807) % 2147483629 / 4)) (by walk_at "br_ev") rfl) fun H2 e2' => ?_
    exact q H2 (e1'.trans e2')

theorem has__law_number (T : Txt K mg cE cN cR cW cO cM) (S0 : Src K mg "_law_number" s__law_number ["_law_script", "_law_k"]) (D__law_mixed : Has P w K mg base CX0 1 "_law_mixed" ["_law_cell", "_law_k"] sp_mixed) :
    Has P w K mg base CX0 2 "_law_number" ["_law_script", "_law_k"] (sp_number K) := by
  obtain ⟨f, fd, gm, F, b⟩ := S0
  refine ⟨f, fd, gm, F.kp, b, F.ok sc__law_number (fun vs H Q E h => ?_) (fun cdv A outer s H vs Q E hr h => ⟨_, (pss_cons (ps_set (i := 2) sc__law_number.nd rfl (Or.inl rfl) pe_int) (pss_cons (ps_if (pt_cmpR op_gt (pe_callB (id := "len") call_len_seq (by rfl) T.b_len PySem.boot_len (pa_cons (pv 0) pa_nil)) pe_int (nomark _)) (pss_one (ps_set (i := 2) sc__law_number.nd rfl (Or.inl rfl) (pe_ix ix_list (pv 0) (pe_op op_mod (pv 1) (pe_callB (id := "len") call_len_seq (by rfl) T.b_len PySem.boot_len (pa_cons (pv 0) pa_nil))) (fun _ _ => rfl)))) pss_nil) (pss_one (ps_ret (pe_has D__law_mixed (hr.mono (by decide)) rfl pass0 (pa_cons (pv 2) (pa_cons (pv 1) pa_nil))))))), ?_⟩)⟩
  · obtain ⟨a, ns, k, rfl, _⟩ := h
    rfl
  · obtain ⟨a, ns, k, rfl, hs, k0, k1, q⟩ := h
    refine q_asg (v := .int 0) ev_c fun H1 e1 => ?_
    have hs1 := ex_l e1 hs
    have last : ∀ (c : Int) (H2 : Hp), Ex H H2 → c = (if 0 < ns.length then ns.getD (k % ns.length).toNat 0 else 0) →
        tRet (tCall sp_mixed [] E0 (tCons (tVar 2) (tCons (tVar 1) tNil))) { nx := fun _ H' => Q .non H', rt := Q } [some (.ref a), some (.int k), some (.int c)] H2 := by
      intro c H2 e2 ec
      refine s_ret (v := .int (number ns k)) (ev_call (ea_cons (ev_var rfl) (ea_cons (ev_var rfl) ea_nil)) fun H3 e3 Q3 q3 E3 => ⟨c, k, rfl, k0, k1, ?_⟩) fun H3 e3 => q H3 (e2.trans e3)
      have en : mixed c k = number ns k := by
        rw [ec]
        rfl
      rw [en]
      exact q3
    have hlen : Ev (tCB (rLenS K) (tCons (tVar 0) tNil)) [some (.ref a), some (.int k), some (.int 0)] H1 (.int (ns.length : Int)) := ev_lenI (ev_var rfl) hs1
    refine q_when (b := decide ((0 : Int) < ns.length)) (et_test (ev_op hlen ev_c rv_I0)) (fun hb H2 e2 => ?_) (fun hb H2 e2 => ?_)
    · have hpos : (0 : Int) < ns.length := of_decide_eq_true hb
      have hm0 : 0 ≤ k % (ns.length : Int) := Int.emod_nonneg _ (by omega)
      have hm1 : k % (ns.length : Int) < (ns.length : Int) := Int.emod_lt_of_pos _ hpos
      have hlt : (k % (ns.length : Int)).toNat < ns.length := by omega
      refine s_asg (v := .int ns[(k % (ns.length : Int)).toNat]) (ev_op (ev_var rfl) (ev_op (ev_var rfl) (hlen.mono e2) (rv_I hpos)) (rv_ixI (ex_l e2 hs1) (atI_get hm0 hm1))) fun H3 e3 => ?_
      refine last _ H3 ((e1.trans e2).trans e3) ?_
      rw [if_pos (by omega), List.getD_eq_getElem?_getD, List.getElem?_eq_getElem hlt]
      rfl
    · have hz : ¬ 0 < ns.length := by
        have := of_decide_eq_false hb
        omega
      exact last 0 H2 (e1.trans e2) (by rw [if_neg hz])

theorem all_in {l : List Nat} : (l.map fun c => decide (c ∈ ((PySem.Str.ofString "abcdefgh" : Str)).cps.toList)).all id = l.all fun c => decide (c ∈ [97, 98, 99, 100, 101, 102, 103, 104]) := by
  have e : ((PySem.Str.ofString "abcdefgh" : Str)).cps.toList = [97, 98, 99, 100, 101, 102, 103, 104] := by decide +kernel
  rw [e, List.all_map]
  rfl
theorem has_is_word (T : Txt K mg cE cN cR cW cO cM) (S0 : Src K mg "is_word" s_is_word ["thing"]) : Has P w K mg base CX0 1 "is_word" ["thing"] (sp_is_word K) := by
  obtain ⟨f, fd, gm, F, b⟩ := S0
  refine ⟨f, fd, gm, F.kp, b, F.ok sc_is_word (fun vs H Q E h => ?_) (fun cdv A outer s H vs Q E hr h => ⟨_, (pss_cons (ps_if (pt_not (pt_val (pe_callB (id := "isinstance") call_isi (by rfl) T.b_isinstance (by decide +kernel) (pa_cons (pv 0) (pa_cons (pe_bltn (v := .ty "str") (u := .type "str") (by rfl) T.b_str (by decide +kernel) rfl) pa_nil))))) (pss_one (ps_ret pe_bl)) pss_nil) (pss_cons (ps_if (pt_not (pt_chain op_le op_le pe_int (pe_callB (id := "len") call_len_str (by rfl) T.b_len PySem.boot_len (pa_cons (pv 0) pa_nil)) (pe_globC rfl T.c_MOST_LETTERS))) (pss_one (ps_ret pe_bl)) pss_nil) (pss_one (ps_ret (pe_callB (id := "all") (cr_all rfl) (by rfl) T.b_all (by decide +kernel) (pa_cons (pe_lc (own := [("letter", 1)]) (g := gName 1) rfl sc_is_word.nd (pi_str (pv 0)) (blkOk_by (own := [("letter", 1)]) (N := N_is_word) (sc := defScope s_is_word) (by decide +kernel)) (fun _ _ _ _ _ => (pg_name (i := 1) sc_is_word.nd rfl (Or.inl rfl))) (fun _ _ _ _ _ => pts_nil) (fun _ _ _ _ _ => (pe_cmpR op_in_sign (pv 1) (pe_globC rfl T.c_LETTERS) rfl))) pa_nil)))))), ?_⟩)⟩
  · obtain ⟨v, rfl, _⟩ := h
    rfl
  · obtain ⟨v, rfl, th, q⟩ := h
    rcases th with ⟨l, rfl, hl⟩ | ⟨Ty, ht, hk, hn⟩
    · have q : RetV (.bl (okS l)) H Q := q
      refine q_when (b := false) (et_not (et_B (ev_isi (b := true) (ev_var rfl) (.base (.str _)) (by decide +kernel)))) (fun hb => nomatch hb) (fun _ H1 e1 => ?_)
      refine q_when (b := !(decide ((1 : Int) ≤ l.length) && decide ((l.length : Int) ≤ 60))) (et_not (et_chain ev_c (ev_lenS (ev_var rfl) hl) rv_I0 (fun _ => ev_c) (fun _ => rv_I0))) (fun hb H2 e2 => ?_) (fun hb H2 e2 => ?_)
      · refine s_ret (v := .bl false) ev_c fun H3 e3 => ?_
        have e : okS l = false := by
          cases c : okS l with
          | false => rfl
          | true =>
            obtain ⟨h1, h2, _⟩ := word_ok c
            rw [decide_eq_true (by omega : (1 : Int) ≤ l.length), decide_eq_true (by omega : (l.length : Int) ≤ 60)] at hb
            cases hb
        rw [e] at q
        exact q H3 ((e1.trans e2).trans e3)
      · rw [Bool.not_eq_false', Bool.and_eq_true, decide_eq_true_eq, decide_eq_true_eq] at hb
        refine s_ret (v := .bl (okS l)) (ev_is (v := .bl ((l.map fun c => decide (c ∈ ((PySem.Str.ofString "abcdefgh" : Str)).cps.toList)).all id)) (ev_all ?_) ?_) fun H3 e3 => q H3 ((e1.trans e2).trans e3)
        · -- the signs, one by one
          intro H3 e3 Q3 q3
          refine ⟨_, rfl, S l, rfl, fun Dl hD => ?_⟩
          refine lc_it (walk_str (z := S l)) (fun i H' => Ex H3 H' ∧ H' Dl = some (.lst ((l.take i).map fun c => V.bl (decide (c ∈ ((PySem.Str.ofString "abcdefgh" : Str)).cps.toList))))) ⟨Ex.new hD, upd_same⟩ (fun _ _ _ _ => True.intro) ?_ ?_
          · rintro i v H4 H5 hi ⟨p1, p2⟩ ⟨rfl, c, hc, rfl⟩
            have hc' : l[i]? = some c := by simpa using hc
            have hlt : i < l.length := (List.getElem?_eq_some_iff.mp hc').1
            refine ⟨rfl, tYes_if ?_⟩
            refine ⟨.str ⟨#[c]⟩, rfl, c, "abcdefgh", rfl, rfl, _, p2, sz_lt (by rw [List.length_map, List.length_take]; omega), Ex.mut p1 hD, ?_⟩
            rw [upd_same, List.take_succ, hc']
            simp
          · rintro H4 ⟨p1, p2⟩
            have hs : (S l).cps.size = l.length := by simp
            rw [hs, List.take_length] at p2
            exact q3 Dl H4 hD p1 (by rw [p2, List.map_map]; rfl)
        · unfold okS
          rw [all_in, decide_eq_true (by omega : 1 ≤ l.length), decide_eq_true (by omega : l.length ≤ 60)]
          rfl
    · have e : isWordV v = false := by
        cases v with
        | str z => exact absurd rfl (hn z)
        | _ => rfl
      rw [e] at q
      refine q_when (b := true) (et_not (et_B (ev_isi (b := false) (ev_var rfl) ht hk))) (fun _ H1 e1 => ?_) (fun hb => nomatch hb)
      exact s_ret (v := .bl false) ev_c fun H2 e2 => q H2 (e1.trans e2)

theorem has_need_word (T : Txt K mg cE cN cR cW cO cM) (S0 : Src K mg "need_word" s_need_word ["thing"]) (D_is_word : Has P w K mg base CX0 1 "is_word" ["thing"] (sp_is_word K)) :
    Has P w K mg base (L2.CX P w) 2 "need_word" ["thing"] (sp_need_word K cW) := by
  obtain ⟨f, fd, gm, F, b⟩ := S0
  refine ⟨f, fd, gm, F.kp, b, F.okX sc_need_word (fun vs H Q E h => ?_) (fun cdv A outer s H vs Q E hr h => ⟨_, (pss_one (ps_if (pt_not (pt_val (pe_has D_is_word (hr.mono (by decide)) rfl pass0 (pa_cons (pv 0) pa_nil)))) (pss_one (ps_raise rfl (takes_of rfl rfl rfl rfl) (pmk_own PySem.F.excBase_ValueError T.x_BadWord T.k_BadWord T.p_BadWord (raises_own T.s_BadWord T.y_BadWord) rfl))) pss_nil)), ?_⟩)⟩
  · obtain ⟨v, rfl, _⟩ := h
    rfl
  · obtain ⟨v, rfl, th, q1, q2⟩ := h
    refine s_when (b := !isWordV v) (et_not (et_B (ev_call (ea_cons (ev_var rfl) ea_nil) fun H3 e3 Q3 q3 E3 => ⟨v, rfl, th.mono e3, q3⟩))) (fun hb H1 e1 => ?_) (fun hb H1 e1 => ?_)
    · exact q2 (by rw [Bool.not_eq_true'] at hb; exact hb) H1 e1
    · exact q1 (by rw [Bool.not_eq_false'] at hb; exact hb) H1 e1

theorem has_is_whole (T : Txt K mg cE cN cR cW cO cM) (S0 : Src K mg "is_whole" s_is_whole ["thing"]) : Has P w K mg base CX0 1 "is_whole" ["thing"] (sp_is_whole K) := by
  obtain ⟨f, fd, gm, F, b⟩ := S0
  refine ⟨f, fd, gm, F.kp, b, F.ok sc_is_whole (fun vs H Q E h => ?_) (fun cdv A outer s H vs Q E hr h => ⟨_, (pss_one (ps_ret (pe_and (pe_callB (id := "isinstance") call_isi (by rfl) T.b_isinstance (by decide +kernel) (pa_cons (pv 0) (pa_cons (pe_bltn (v := .ty "int") (u := .type "int") (by rfl) T.b_int (by decide +kernel) rfl) pa_nil))) (pe_one (pe_not (pe_callB (id := "isinstance") call_isi (by rfl) T.b_isinstance (by decide +kernel) (pa_cons (pv 0) (pa_cons (pe_bltn (v := .ty "bool") (u := .type "bool") (by rfl) T.b_bool (by decide +kernel) rfl) pa_nil)))))))), ?_⟩)⟩
  · obtain ⟨v, rfl, _⟩ := h
    rfl
  · obtain ⟨v, rfl, th, q⟩ := h
    rcases th with ⟨i, rfl⟩ | ⟨c, rfl⟩ | ⟨Ty, ht, hk, hn⟩
    · exact s_ret (ev_andV (ev_isi (b := true) (ev_var rfl) (.base (.int _)) (by decide +kernel)) fun _ => ev_notV (ev_isi (b := false) (ev_var rfl) (.base (.int _)) (by decide +kernel))) fun H1 e1 => q H1 e1
    · exact s_ret (ev_andV (ev_isi (b := true) (ev_var rfl) (.base (.bl _)) (by decide +kernel)) fun _ => ev_notV (ev_isi (b := true) (ev_var rfl) (.base (.bl _)) (by decide +kernel))) fun H1 e1 => q H1 e1
    · have e : isWholeV v = false := by
        cases v with
        | int z => exact absurd rfl (hn z)
        | _ => rfl
      rw [e] at q
      exact s_ret (ev_andV (b := true) (ev_isi (b := false) (ev_var rfl) ht hk) fun z => nomatch z) fun H1 e1 => q H1 e1

theorem has_turned (T : Txt K mg cE cN cR cW cO cM) (S0 : Src K mg "turned" s_turned ["word", "by"]) (D_need_word : Has P w K mg base (L2.CX P w) 2 "need_word" ["thing"] (sp_need_word K cW)) (D_is_whole : Has P w K mg base CX0 1 "is_whole" ["thing"] (sp_is_whole K)) :
    Has P w K mg base (L2.CX P w) 3 "turned" ["word", "by"] (sp_turned K cW cN) := by
  obtain ⟨f, fd, gm, F, b⟩ := S0
  refine ⟨f, fd, gm, F.kp, b, F.okX sc_turned (fun vs H Q E h => ?_) (fun cdv A outer s H vs Q E hr h => ⟨_, (pss_cons (ps_expr (pe_has D_need_word (hr.mono (by decide)) rfl (passes_call (takes_of rfl rfl rfl rfl) fun _ _ _ _ z => z) (pa_cons (pv 0) pa_nil))) (pss_cons (ps_if (pt_not (pt_val (pe_has D_is_whole (hr.mono (by decide)) rfl pass0 (pa_cons (pv 1) pa_nil)))) (pss_one (ps_raise rfl (takes_of rfl rfl rfl rfl) (pmk_own PySem.F.excBase_ValueError T.x_BadNumber T.k_BadNumber T.p_BadNumber (raises_own T.s_BadNumber T.y_BadNumber) rfl))) pss_nil) (PSs.nox (pss_cons (ps_set (i := 2) sc_turned.nd rfl (Or.inl rfl) (pe_op op_mod (pv 1) (pe_callB (id := "len") call_len_str (by rfl) T.b_len PySem.boot_len (pa_cons (pv 0) pa_nil)))) (pss_one (ps_ret (pe_op op_add_str (pe_slice sl_str (pv 0) (po_some (pv 2)) po_none) (pe_slice sl_str (pv 0) po_none (po_some (pv 2)))))))))), ?_⟩)⟩
  · obtain ⟨v, u, rfl, _⟩ := h
    rfl
  · obtain ⟨v, u, rfl, th, ti, q1, q2, q3⟩ := h
    cases hv : isWordV v with
    | false => exact ⟨v, rfl, v, rfl, th, fun z => absurd (hv.symm.trans z) Bool.false_ne_true, fun _ => q1 hv⟩
    | true =>
      refine q_drop (ev_call (z := .non) (ea_cons (ev_var rfl) ea_nil) fun H3 e3 Q3 q4 E3 => ⟨v, rfl, th.mono e3, fun _ => q4, fun z => absurd (hv.symm.trans z) (fun y => nomatch y)⟩) fun H1 e1 => ?_
      refine q_when (b := !isWholeV u) (et_not (et_B (ev_call (ea_cons (ev_var rfl) ea_nil) fun H3 e3 Q3 q4 E3 => ⟨u, rfl, (ti.mono e1).mono e3, q4⟩))) (fun hb H2 e2 => ?_) (fun hb H2 e2 => ?_)
      · exact q2 hv (by rw [Bool.not_eq_true'] at hb; exact hb) H2 (e1.trans e2)
      · rw [Bool.not_eq_false'] at hb
        rcases th with ⟨l, rfl, hl⟩ | ⟨_, _, _, hn⟩
        · cases u with
          | int i =>
            have ok : okS l = true := hv
            obtain ⟨w1, w2, _⟩ := word_ok ok
            have hpos : (0 : Int) < (l.length : Int) := by omega
            have m0 : 0 ≤ i % (l.length : Int) := Int.emod_nonneg _ (by omega)
            have m1 : i % (l.length : Int) < (l.length : Int) := Int.emod_lt_of_pos _ hpos
            refine q_asg (v := .int (i % (l.length : Int))) (ev_op (ev_var rfl) (ev_lenS (ev_var rfl) hl) (rv_I hpos)) fun H3 e3 => ?_
            refine s_ret (ev_op (ev_from (ev_var rfl) hl (ev_var rfl) m0) (ev_to (ev_var rfl) hl (ev_var rfl) m0) (rv_catS ?_)) fun H4 e4 => q3 l i rfl ok rfl H4 (((e1.trans e2).trans e3).trans e4)
            rw [List.length_drop, List.length_take]
            omega
          | _ => cases hb
        · cases v with
          | str z => exact absurd rfl (hn z)
          | _ => cases hv

theorem has_turnings (T : Txt K mg cE cN cR cW cO cM) (S0 : Src K mg "turnings" s_turnings ["word"]) (D_need_word : Has P w K mg base (L2.CX P w) 2 "need_word" ["thing"] (sp_need_word K cW)) (D_turned : Has P w K mg base (L2.CX P w) 3 "turned" ["word", "by"] (sp_turned K cW cN)) :
    Has P w K mg base (L2.CX P w) 4 "turnings" ["word"] (sp_turnings K cW) := by
  obtain ⟨f, fd, gm, F, b⟩ := S0
  refine ⟨f, fd, gm, F.kp, b, F.okX sc_turnings (fun vs H Q E h => ?_) (fun cdv A outer s H vs Q E hr h => ⟨_, (pss_cons (ps_expr (pe_has D_need_word (hr.mono (by decide)) rfl (passes_call (takes_of rfl rfl rfl rfl) fun _ _ _ _ z => z) (pa_cons (pv 0) pa_nil))) (pss_one (ps_ret (pe_lc (own := [("by", 1)]) (g := gName 1) rfl sc_turnings.nd (pi_range1 rfl T.b_range (pa_cons (pe_callB (id := "len") call_len_str (by rfl) T.b_len PySem.boot_len (pa_cons (pv 0) pa_nil)) pa_nil)) (blkOk_by (own := [("by", 1)]) (N := N_turnings) (sc := defScope s_turnings) (by decide +kernel)) (fun _ _ _ _ _ => (pg_name (i := 1) sc_turnings.nd rfl (Or.inl rfl))) (fun _ _ _ _ _ => pts_nil) (fun _ _ _ _ _ => (pe_has D_turned (hr.mono (by decide)) rfl passL (pa_cons (pv 0) (pa_cons (pv 1) pa_nil)))))))), ?_⟩)⟩
  · obtain ⟨v, rfl, _⟩ := h
    rfl
  · obtain ⟨v, rfl, th, q1, q2⟩ := h
    cases hv : isWordV v with
    | false => exact ⟨v, rfl, v, rfl, th, fun z => absurd (hv.symm.trans z) Bool.false_ne_true, fun _ => q1 hv⟩
    | true =>
      refine q_drop (ev_call (z := .non) (ea_cons (ev_var rfl) ea_nil) fun H3 e3 Q3 q4 E3 => ⟨v, rfl, th.mono e3, fun _ => q4, fun z => absurd (hv.symm.trans z) (fun y => nomatch y)⟩) fun H1 e1 => ?_
      rcases th with ⟨l, rfl, hl⟩ | ⟨_, _, _, hn⟩
      · have ok : okS l = true := hv
        obtain ⟨w1, w2, _⟩ := word_ok ok
        refine s_retL (xs := (turnsL l).map fun l => V.str (S l)) ?_ fun p H2 hp e2 h2 => q2 l rfl ok p H2 (fresh_back e1 hp) (e1.trans e2) h2
        have e := el_lcR1 (ta := tCons (tCB rLenT (tCons (tVar 0) tNil)) tNil) (te := tCall (sp_turned K cW cN) [] E0 (tCons (tVar 0) (tCons (tVar 1) tNil))) (t := tYes) (j := 1) (vs := [1]) (σ := [some (.str (S l)), none]) (H := H1) (n := (l.length : Int)) (fun _ => true) (fun k => V.str (S (turnL l k)))
          (ea_cons (ev_lenS (ev_var rfl) hl) ea_nil) (by omega) (fun _ => rfl) (fun _ _ _ _ => et_yes) (fun k H2 e2 hk _ => ev_call (ea_cons (ev_var rfl) (ea_cons (ev_var rfl) ea_nil)) fun H3 e3 Q3 q4 E3 =>
            ⟨.str (S l), .int (k : Int), rfl, .inl ⟨l, rfl, hl⟩, .inl ⟨_, rfl⟩, fun z => absurd (hv.symm.trans z) (fun y => nomatch y), (fun _ z => nomatch z), fun l' i e5 _ e6 => by
              have e7 : l = l' := S_inj (V.str.inj e5)
              have e8 : (k : Int) = i := V.int.inj e6
              subst e7 e8
              rw [show (k : Int) % (l.length : Int) = (k : Int) from Int.emod_eq_of_lt (by omega) hk, Int.toNat_natCast]
              exact q4⟩)
        rw [given_all, Int.toNat_natCast] at e
        unfold turnsL
        rw [List.map_map]
        exact e
      · cases v with
        | str z => exact absurd rfl (hn z)
        | _ => cases hv

theorem has__law_kind (T : Txt K mg cE cN cR cW cO cM) (S0 : Src K mg "_law_kind" s__law_kind ["_law_e"]) : Has P w K mg base CX0 1 "_law_kind" ["_law_e"] (sp_kind cW wWord) := by
  have XC := T.exc_BadWord
  obtain ⟨f, fd, gm, F, b⟩ := S0
  refine ⟨f, fd, gm, F.kp, b, F.ok sc__law_kind (fun vs H Q E h => ?_) (fun cdv A outer s H vs Q E hr h => ⟨_, (pss_cons (ps_set (i := 1) sc__law_kind.nd rfl (Or.inl rfl) (pe_op op_cat (pe_op op_rep (pe_lst (pa_cons pe_str pa_nil)) (pe_callTy (T := "int") call_int1 (by rfl) T.b_int (by decide +kernel) (pa_cons (pe_callB (id := "isinstance") (call_isX XC) (by rfl) T.b_isinstance (by decide +kernel) (pa_cons (pv 0) (pa_cons (pe_glob (v := .ref cN) rfl T.k_BadNumber rfl) pa_nil))) pa_nil))) (pe_op op_rep (pe_lst (pa_cons pe_str pa_nil)) (pe_callTy (T := "int") call_int1 (by rfl) T.b_int (by decide +kernel) (pa_cons (pe_callB (id := "isinstance") (call_isX XC) (by rfl) T.b_isinstance (by decide +kernel) (pa_cons (pv 0) (pa_cons (pe_glob (v := .ref cR) rfl T.k_BadRing rfl) pa_nil))) pa_nil))))) (pss_cons (ps_set (i := 1) sc__law_kind.nd rfl (Or.inl rfl) (pe_op op_cat (pe_op op_cat (pv 1) (pe_op op_rep (pe_lst (pa_cons pe_str pa_nil)) (pe_callTy (T := "int") call_int1 (by rfl) T.b_int (by decide +kernel) (pa_cons (pe_callB (id := "isinstance") (call_isX XC) (by rfl) T.b_isinstance (by decide +kernel) (pa_cons (pv 0) (pa_cons (pe_glob (v := .ref cW) rfl T.k_BadWord rfl) pa_nil))) pa_nil)))) (pe_op op_rep (pe_lst (pa_cons pe_str pa_nil)) (pe_callTy (T := "int") call_int1 (by rfl) T.b_int (by decide +kernel) (pa_cons (pe_callB (id := "isinstance") (call_isX XC) (by rfl) T.b_isinstance (by decide +kernel) (pa_cons (pv 0) (pa_cons (pe_glob (v := .ref cO) rfl T.k_NoRing rfl) pa_nil))) pa_nil))))) (pss_cons (ps_set (i := 1) sc__law_kind.nd rfl (Or.inl rfl) (pe_op op_cat (pv 1) (pe_op op_rep (pe_lst (pa_cons pe_str pa_nil)) (pe_callTy (T := "int") call_int1 (by rfl) T.b_int (by decide +kernel) (pa_cons (pe_callB (id := "isinstance") (call_isX XC) (by rfl) T.b_isinstance (by decide +kernel) (pa_cons (pv 0) (pa_cons (pe_glob (v := .ref cM) rfl T.k_TooMany rfl) pa_nil))) pa_nil))))) (pss_one (ps_ret (pe_join pe_str (pe_op op_cat (pv 1) (pe_op op_rep (pe_lst (pa_cons pe_str pa_nil)) (pe_callTy (T := "int") call_int1 (by rfl) T.b_int (by decide +kernel) (pa_cons (pe_not (pe_callB (id := "isinstance") (call_isX XC) (by rfl) T.b_isinstance (by decide +kernel) (pa_cons (pv 0) (pa_cons (pe_bltn (v := .ty "ValueError") (u := .type "ValueError") (by rfl) T.b_ValueError (by decide +kernel) rfl) pa_nil)))) pa_nil)))))))))), ?_⟩)⟩
  · obtain ⟨a, rfl, _⟩ := h
    rfl
  · obtain ⟨a, rfl, ha, q⟩ := h
    have one : ∀ (σ : L2.St) (H1 : Hp) (tx : TE) (C : Addr) (bb : Bool) (z : Str), σ[0]? = some (some (.ref a)) → Ex H H1 → PySem.W.kitOne K (.ref cW) (.ref C) = some bb →
        EvL (tOp rRep (tLst (tCons (tC (.str z)) tNil)) (tCB rInt1 (tCons (tCB (rIsX K cW) (tCons (tVar 0) (tCons (tC (.ref C)) tNil))) tNil))) σ H1 (List.replicate (if bb then 1 else 0 : Int).toNat [V.str z]).flatten := by
      intro σ H1 tx C bb z h0 e1 hk
      refine el_rep (el_lst (ea_cons ev_c ea_nil) (by show 1 ≤ 100000; decide)) (fun H2 e2 => ev_intB (ev_isX (ev_var h0) ev_c ((e1.trans e2) a _ ha) (.own C) hk)) ?_ ?_ (by show 1 ≤ 100; decide)
      · cases bb <;> decide
      · cases bb <;> decide
    have last : ∀ (σ : L2.St) (H1 : Hp), σ[0]? = some (some (.ref a)) → Ex H H1 →
        EvL (tOp rRep (tLst (tCons (tC (.str "base")) tNil)) (tCB rInt1 (tCons (tNotV (tCB (rIsX K cW) (tCons (tVar 0) (tCons (tC (.ty "ValueError")) tNil)))) tNil))) σ H1 [] := by
      intro σ H1 h0 e1
      exact el_rep (k := 0) (xs := [V.str "base"]) (el_lst (ea_cons ev_c ea_nil) (by decide)) (fun H2 e2 => ev_intB (b := false) (ev_notV (a := true) (ev_isX (ev_var h0) ev_c ((e1.trans e2) a _ ha) (.ty "ValueError") T.i_BadWord_V))) (by decide) (by decide) (by decide)
    refine q_asgL (xs := []) (el_cat (xs := []) (ys := []) (one _ H (tVar 0) cN false _ rfl (Ex.refl H) T.i_BadWord_BadNumber) (one _ H (tVar 0) cR false _ rfl (Ex.refl H) T.i_BadWord_BadRing) (by decide)) fun p H1 hp e1 h1 => ?_
    refine q_asgL (xs := [V.str "word"]) (el_cat (xs := [V.str "word"]) (ys := []) (el_catV (xs := []) (ys := [V.str "word"]) (ev_var rfl) h1 (one _ H1 (tVar 0) cW true _ rfl e1 T.i_BadWord_BadWord) (by decide)) (one _ H1 (tVar 0) cO false _ rfl e1 T.i_BadWord_NoRing) (by decide)) fun p2 H2 hp2 e2 h2 => ?_
    refine q_asgL (xs := [V.str "word"]) (el_catV (xs := [V.str "word"]) (ys := []) (ev_var rfl) h2 (one _ H2 (tVar 0) cM false _ rfl (e1.trans e2) T.i_BadWord_TooMany) (by decide)) fun p3 H3 hp3 e3 h3 => ?_
    refine s_ret (ev_join1 (a := [47]) (w := wWord) (ev_cS (by decide +kernel)) (el_catV (xs := [V.str (S wWord)]) (ys := []) (ev_var rfl) (by rw [h3, wWord_S]) (last _ H3 rfl ((e1.trans e2).trans e3)) (by decide)) (by decide)) fun H4 e4 => q H4 (((e1.trans e2).trans e3).trans e4)

theorem has__law_word (T : Txt K mg cE cN cR cW cO cM) (S0 : Src K mg "_law_word" s__law_word ["_law_script", "_law_at"]) (D__law_number : Has P w K mg base CX0 2 "_law_number" ["_law_script", "_law_k"] (sp_number K)) :
    Has P w K mg base CX0 3 "_law_word" ["_law_script", "_law_at"] (sp_word K) := by
  obtain ⟨f, fd, gm, F, b⟩ := S0
  refine ⟨f, fd, gm, F.kp, b, F.ok sc__law_word (fun vs H Q E h => ?_) (fun cdv A outer s H vs Q E hr h => ⟨_, (pss_cons (ps_set (i := 2) sc__law_word.nd rfl (Or.inl rfl) (pe_has D__law_number (hr.mono (by decide)) rfl pass0 (pa_cons (pv 0) (pa_cons (pv 1) pa_nil)))) (pss_cons (ps_set (i := 3) sc__law_word.nd rfl (Or.inr rfl) (pe_op op_add pe_int (pe_op op_mod (pe_op op_fdiv (pv 2) pe_int) pe_int))) (pss_cons (ps_set (i := 4) sc__law_word.nd rfl (Or.inl rfl) (pe_ix ix_list (pe_lst (pa_cons (pe_op op_add pe_int (pe_op op_mod (pe_op op_fdiv (pv 2) pe_int) pe_int)) (pa_cons (pe_op op_add pe_int (pe_op op_mod (pe_op op_fdiv (pv 2) pe_int) pe_int)) (pa_cons pe_int (pa_cons (pe_op op_add pe_int (pe_op op_mod (pe_op op_fdiv (pv 2) pe_int) pe_int)) pa_nil))))) (pe_op op_mod (pe_op op_fdiv (pv 2) pe_int) pe_int) (fun _ _ => rfl))) (pss_cons (ps_set (i := 6) sc__law_word.nd rfl (Or.inl rfl) (pe_join pe_str (pe_lc (own := [("_law_k", 5)]) (g := gName 5) rfl sc__law_word.nd (pi_range1 rfl T.b_range (pa_cons (pv 4) pa_nil)) (blkOk_by (own := [("_law_k", 5)]) (N := N__law_word) (sc := defScope s__law_word) (by decide +kernel)) (fun _ _ _ _ _ => (pg_name (i := 5) sc__law_word.nd rfl (Or.inl rfl))) (fun _ _ _ _ _ => pts_nil) (fun _ _ _ _ _ => (pe_ix ix_str pe_str (pe_op op_mod (pe_op op_fdiv (pe_has D__law_number (hr.mono (by decide)) rfl pass0 (pa_cons (pv 0) (pa_cons (pe_op op_add (pe_op op_add (pv 1) pe_int) (pv 5)) pa_nil))) pe_int) (pv 3)) (fun _ _ => rfl)))))) (pss_cons (ps_if (pt_cmpR op_eq (pe_op op_mod (pv 2) pe_int) pe_int (nomark _)) (pss_one (ps_set (i := 6) sc__law_word.nd rfl (Or.inl rfl) (pe_slice sl_str (pe_op op_mulS (pe_slice sl_str (pv 6) po_none (po_some (pe_op op_add pe_int (pe_op op_mod (pe_op op_fdiv (pv 2) pe_int) pe_int)))) pe_int) po_none (po_some (pv 4))))) pss_nil) (pss_cons (ps_if (pt_cmpR op_eq (pe_op op_mod (pv 2) pe_int) pe_int (nomark _)) (pss_cons (ps_set (i := 7) sc__law_word.nd rfl (Or.inl rfl) (pe_slice sl_str (pe_op op_mulS (pe_slice sl_str (pv 6) po_none (po_some (pe_op op_add pe_int (pe_op op_mod (pe_op op_fdiv (pv 2) pe_int) pe_int)))) pe_int) po_none (po_some (pv 4)))) (pss_cons (ps_set (i := 8) sc__law_word.nd rfl (Or.inl rfl) (pe_op op_mod (pe_op op_fdiv (pv 2) pe_int) (pv 4))) (pss_one (ps_set (i := 6) sc__law_word.nd rfl (Or.inl rfl) (pe_op op_add_str (pe_op op_add_str (pe_slice sl_str (pv 7) po_none (po_some (pv 8))) (pe_ix ix_str pe_str (pe_op op_mod (pe_op op_fdiv (pv 2) pe_int) pe_int) (fun _ _ => rfl))) (pe_slice sl_str (pv 7) (po_some (pe_op op_add (pv 8) pe_int)) po_none)))))) pss_nil) (pss_one (ps_ret (pv 6))))))))), ?_⟩)⟩
  · obtain ⟨a, ns, k, rfl, _⟩ := h
    rfl
  · obtain ⟨a, ns, k, rfl, hs, k0, k1, q⟩ := h
    obtain ⟨n0, n1⟩ := number_bd ns k
    obtain ⟨z0, z1, z2⟩ := wsize_at (number ns k)
    have num : ∀ (σ : L2.St) (H1 : Hp) (tx : TE) (j : Int), σ[0]? = some (some (.ref a)) → Ex H H1 → 0 ≤ j → j ≤ 100000 → Ev tx σ H1 (.int j) → Ev (tCall (sp_number K) [] E0 (tCons (tVar 0) (tCons tx tNil))) σ H1 (.int (number ns j)) := by
      intro σ H1 tx j h0 e1 j0 j1 hx
      exact ev_call (ea_cons (ev_var h0) (ea_cons hx ea_nil)) fun H3 e3 Q3 q3 E3 => ⟨a, ns, j, rfl, ex_l (e1.trans e3) hs, j0, j1, q3⟩
    refine q_asg (num _ H (tVar 1) k rfl (Ex.refl H) k0 (by omega) (ev_var rfl)) fun H1 e1 => ?_
    refine q_asg (v := .int (1 + number ns k / 4 % 8)) (by walk_at "br_ev") fun H2 e2 => ?_
    refine q_asg (v := .int (wsize (number ns k))) (ev_pick (el_lst (ea_cons (by walk_at "br_ev") (ea_cons (by walk_at "br_ev") (ea_cons (by walk_at "br_ev") (ea_cons (by walk_at "br_ev") ea_nil)))) (by show 4 ≤ 100000; decide)) (by walk_at "br_ev") z0) fun H3 e3 => ?_
    have e13 := (e1.trans e2).trans e3
    have len0 := lword0_ok ns k
    have len1 := lword1_ok ns k
    have lenA := lwordA_ok ns k
    obtain ⟨pp0, pp1⟩ := lwordP_bd ns k
    refine q_asg (v := .str (S (lword0 ns k))) ?_ fun H4 e4 => ?_
    · -- the signs, drawn
      have e := el_lcR1 (ta := tCons (tVar 4) tNil) (t := tYes) (j := 5) (vs := [5]) (σ := [some (.ref a), some (.int k), some (.int (number ns k)), some (.int (1 + number ns k / 4 % 8)), some (.int (wsize (number ns k))), none, none, none, none]) (H := H3) (n := wsize (number ns k))
        (te := tOp rIxS (tC (.str "abcdefgh")) (tOp (rI (fun _ j => 0 < j) fun i j => .int (i % j)) (tOp (rI CDiv fun i j => .int (i / j)) (tCall (sp_number K) [] E0 (tCons (tVar 0) (tCons (tOp (rI0 fun i j => .int (i + j)) (tOp (rI0 fun i j => .int (i + j)) (tVar 1) (tC (.int 1))) (tVar 5)) tNil))) (tC (.int 3))) (tVar 3)))
        (fun _ => true) (fun j => V.str (S [letter (number ns (k + 1 + (j : Int)) / 3 % (1 + number ns k / 4 % 8))]))
        (ea_cons (ev_var rfl) ea_nil) (by omega) (fun _ => rfl) (fun _ _ _ _ => et_yes) (fun j H5 e5 hj _ => by
          have hf : (0 : Int) < 1 + number ns k / 4 % 8 := by omega
          have m0 : 0 ≤ number ns (k + 1 + (j : Int)) / 3 % (1 + number ns k / 4 % 8) := Int.emod_nonneg _ (by omega)
          have m1 : number ns (k + 1 + (j : Int)) / 3 % (1 + number ns k / 4 % 8) < 1 + number ns k / 4 % 8 := Int.emod_lt_of_pos _ hf
          refine ev_op (ev_cS abc_S) (ev_op (ev_op (num _ H5 _ (k + 1 + (j : Int)) rfl (e13.trans e5) (by omega) (by omega) (ev_op (ev_op (ev_var rfl) ev_c rv_I0) (ev_var rfl) rv_I0)) ev_c (rv_I (show CDiv _ _ from ⟨by omega, by omega⟩))) (ev_var rfl) (rv_I hf)) ?_
          exact rv_ixW (by decide) (letter_at m0 (by omega)))
      rw [given_all] at e
      have e' := ev_joinE (K := K) (ta := tC (.str "")) (ys := (List.range (wsize (number ns k)).toNat).map fun (j : Nat) => [letter (number ns (k + 1 + (j : Int)) / 3 % (1 + number ns k / 4 % 8))]) (ev_cS (by decide +kernel)) (by rw [List.map_map]; exact e) (by
        rw [List.map_map]
        have : ((List.range (wsize (number ns k)).toNat).map ((fun x => x.length) ∘ fun (j : Nat) => [letter (number ns (k + 1 + (j : Int)) / 3 % (1 + number ns k / 4 % 8))])).sum = (wsize (number ns k)).toNat := by
          rw [show ((fun x => x.length) ∘ fun (j : Nat) => [letter (number ns (k + 1 + (j : Int)) / 3 % (1 + number ns k / 4 % 8))]) = fun _ => 1 from rfl, sum_ones, List.length_range]
        omega)
      have e2' : ((List.range (wsize (number ns k)).toNat).map fun (j : Nat) => [letter (number ns (k + 1 + (j : Int)) / 3 % (1 + number ns k / 4 % 8))]).flatten = lword0 ns k := by
        unfold lword0 drawn
        rw [← List.flatMap_def, ← List.map_eq_flatMap]
      rw [e2'] at e'
      exact e'
    have e14 := e13.trans e4
    -- a stretch that comes again
    have cut : ∀ (σ : L2.St) (H5 : Hp) (i : Nat) (l : List Nat) (m : Int) (tx : TE), σ[i]? = some (some (.str (S l))) → σ[4]? = some (some (.int (wsize (number ns k)))) → l.length = (wsize (number ns k)).toNat → 1 ≤ m → Ev tx σ H5 (.int m) →
        Ev (tSl rSlS (tOp rMulS (tSl rSlS (tVar i) tNoPart (tPart tx)) (tC (.int 60))) tNoPart (tPart (tVar 4))) σ H5 (.str (S (again l m (wsize (number ns k)).toNat))) := by
      intro σ H5 i l m tx h0 h4 hl hm hx
      refine ev_to (ev_op (ev_to (ev_var h0) (by omega) hx (by omega)) ev_c (rv_mulS (n := 60) rfl (by decide) ?_)) ?_ (ev_var h4) (by omega)
      · rw [List.length_take]
        omega
      · rw [flat_len, List.length_take]
        omega
    refine q_ifAsg (b := decide (number ns k % 4 = 1)) (v := .str (S (lword1 ns k))) (et_test (ev_op (ev_op (ev_var rfl) ev_c (rv_I (by decide))) ev_c rv_eqI)) (fun hb => ?_) (fun hb => ?_) fun H5 e5 => ?_
    · have e : lword1 ns k = again (lword0 ns k) (1 + number ns k / 9000 % 9) (wsize (number ns k)).toNat := by
        unfold lword1
        rw [if_pos (of_decide_eq_true hb)]
      rw [e]
      exact cut _ H4 6 (lword0 ns k) (1 + number ns k / 9000 % 9) _ rfl rfl len0.1 (by omega) (by walk_at "br_ev")
    · have e : lword1 ns k = lword0 ns k := by
        unfold lword1
        rw [if_neg (of_decide_eq_false hb)]
      rw [e]
      rfl
    have e15 := e14.trans e5
    refine q_when (b := decide (number ns k % 4 = 2)) (et_test (ev_op (ev_op (ev_var rfl) ev_c (rv_I (by decide))) ev_c rv_eqI)) (fun hb H6 e6 => ?_) (fun hb H6 e6 => ?_)
    · refine q_asg (v := .str (S (lwordA ns k))) (cut _ H6 6 (lword1 ns k) (1 + number ns k / 9000 % 4) _ rfl rfl len1.1 (by omega) (by walk_at "br_ev")) fun H7 e7 => ?_
      refine q_asg (v := .int (lwordP ns k)) (ev_op (ev_op (ev_var rfl) ev_c (rv_I (show CDiv _ _ from ⟨by omega, by omega⟩))) (ev_var rfl) (rv_I (show (0 : Int) < _ by omega))) fun H8 e8 => ?_
      refine s_asg (v := .str (S (lword ns k))) ?_ fun H9 e9 => ?_
      · have e : lword ns k = (lwordA ns k).take (lwordP ns k).toNat ++ [letter (number ns k / 7 % 8)] ++ (lwordA ns k).drop (lwordP ns k + 1).toNat := by
          unfold lword
          rw [if_pos (of_decide_eq_true hb)]
        rw [e]
        refine ev_op (ev_op (ev_to (ev_var rfl) (by omega) (ev_var rfl) pp0) (ev_op (ev_cS abc_S) (by walk_at "br_ev") (rv_ixW (by decide) (letter_at (by omega) (by omega)))) (rv_catS ?_)) (ev_from (ev_var rfl) (by omega) (ev_op (ev_var rfl) ev_c rv_I0) (by omega)) (rv_catS ?_)
        · rw [List.length_take, List.length_singleton]
          omega
        · rw [List.length_append, List.length_take, List.length_singleton, List.length_drop]
          omega
      · exact s_ret (ev_var rfl) fun H10 e10 => q H10 (((((e15.trans e6).trans e7).trans e8).trans e9).trans e10)
    · refine s_ret (v := .str (S (lword ns k))) ?_ fun H10 e10 => q H10 ((e15.trans e6).trans e10)
      have e : lword ns k = lword1 ns k := by
        unfold lword
        rw [if_neg (of_decide_eq_false hb)]
      rw [e]
      exact ev_var rfl

def sp_mirrored (K : PySem.W.Frag) (CW : Addr) : Sp := fun vs H Q E => ∃ v, vs = [v] ∧ ThS K H v ∧ (isWordV v = false → Ref E CW H) ∧ ∀ l : List Nat, v = .str (S l) → okS l = true → RetV (.str (S l.reverse)) H Q
theorem has_mirrored (T : Txt K mg cE cN cR cW cO cM) (S0 : Src K mg "mirrored" s_mirrored ["word"]) (D_need_word : Has P w K mg base (L2.CX P w) 2 "need_word" ["thing"] (sp_need_word K cW)) : Has P w K mg base (L2.CX P w) 3 "mirrored" ["word"] (sp_mirrored K cW) := by
  obtain ⟨f, fd, gm, F, b⟩ := S0
  refine ⟨f, fd, gm, F.kp, b, F.okX sc_mirrored (fun vs H Q E h => ?_) (fun cdv A outer s H vs Q E hr h => ⟨_, (pss_cons (ps_expr (pe_has D_need_word (hr.mono (by decide)) rfl (passes_call (takes_of rfl rfl rfl rfl) fun _ _ _ _ z => z) (pa_cons (pv 0) pa_nil))) (PSs.nox (pss_one (ps_ret (pe_revS (pv 0)))))), ?_⟩)⟩
  · obtain ⟨v, rfl, _⟩ := h
    rfl
  · obtain ⟨v, rfl, th, q1, q2⟩ := h
    cases hv : isWordV v with
    | false => exact ⟨v, rfl, v, rfl, th, fun z => absurd (hv.symm.trans z) Bool.false_ne_true, fun _ => q1 hv⟩
    | true =>
      refine q_drop (ev_call (z := .non) (ea_cons (ev_var rfl) ea_nil) fun H3 e3 Q3 q4 E3 => ⟨v, rfl, th.mono e3, fun _ => q4, fun z => absurd (hv.symm.trans z) (fun y => nomatch y)⟩) fun H1 e1 => ?_
      rcases th with ⟨l, rfl, hl⟩ | ⟨_, _, _, hn⟩
      · exact s_ret (ev_revS (ev_var rfl) hl) fun H2 e2 => q2 l rfl hv H2 (e1.trans e2)
      · cases v with
        | str z => exact absurd rfl (hn z)
        | _ => cases hv

def sp_ring_of (K : PySem.W.Frag) (CW : Addr) : Sp := fun vs H Q E => ∃ v, vs = [v] ∧ ThS K H v ∧ (isWordV v = false → Ref E CW H) ∧ ∀ l m : List Nat, v = .str (S l) → okS l = true → IsLeast l m → RetV (.str (S m)) H Q
theorem has_ring_of (T : Txt K mg cE cN cR cW cO cM) (S0 : Src K mg "ring_of" s_ring_of ["word"]) (D_turnings : Has P w K mg base (L2.CX P w) 4 "turnings" ["word"] (sp_turnings K cW)) : Has P w K mg base (L2.CX P w) 5 "ring_of" ["word"] (sp_ring_of K cW) := by
  obtain ⟨f, fd, gm, F, b⟩ := S0
  refine ⟨f, fd, gm, F.kp, b, F.okX sc_ring_of (fun vs H Q E h => ?_) (fun cdv A outer s H vs Q E hr h => ⟨_, (pss_one (ps_ret (pe_callB (id := "min") (cr_minS rfl) (by rfl) T.b_min (by decide +kernel) (pa_cons (pe_has D_turnings (hr.mono (by decide)) rfl (passes_call (takes_of rfl rfl rfl rfl) fun _ _ _ _ z => z) (pa_cons (pv 0) pa_nil)) pa_nil)))), ?_⟩)⟩
  · obtain ⟨v, rfl, _⟩ := h
    rfl
  · obtain ⟨v, rfl, th, q1, q2⟩ := h
    cases hv : isWordV v with
    | false => exact ⟨v, rfl, v, rfl, th, fun _ => q1 hv, fun l e ok => by
        subst e
        exact absurd (hv.symm.trans (show isWordV (.str (S l)) = true from ok)) Bool.false_ne_true⟩
    | true =>
      rcases th with ⟨l, rfl, hl⟩ | ⟨_, _, _, hn⟩
      · have ok : okS l = true := hv
        have hm := leastL_is (l := l) (by have := (word_ok ok).1; omega)
        refine s_ret (ev_minS (ys := turnsL l) (m := leastL l) (el_call (ea_cons (ev_var rfl) ea_nil) fun H1 e1 Q1 q3 E1 => ⟨.str (S l), rfl, .inl ⟨l, rfl, hl⟩, fun z => absurd (hv.symm.trans z) (fun y => nomatch y), fun l' e _ => ?_⟩) hm.1 hm.2) fun H1 e1 => q2 l _ rfl ok hm H1 e1
        have e' : l = l' := S_inj (V.str.inj e)
        subst e'
        exact q3
      · cases v with
        | str z => exact absurd rfl (hn z)
        | _ => cases hv

def sp_least : Sp := fun vs H Q _ => ∃ l : List Nat, vs = [.str (S l)] ∧ okS l = true ∧ RetV (.str (S (leastL l))) H Q
theorem has__law_least (T : Txt K mg cE cN cR cW cO cM) (S0 : Src K mg "_law_least" s__law_least ["_law_word_here"]) : Has P w K mg base CX0 1 "_law_least" ["_law_word_here"] sp_least := by
  obtain ⟨f, fd, gm, F, b⟩ := S0
  refine ⟨f, fd, gm, F.kp, b, F.ok sc__law_least (fun vs H Q E h => ?_) (fun cdv A outer s H vs Q E hr h => ⟨_, (pss_cons (ps_set (i := 1) sc__law_least.nd rfl (Or.inl rfl) (pv 0)) (pss_cons (ps_for PassesOwn.never rfl (pi_range1 rfl T.b_range (pa_cons (pe_callB (id := "len") call_len_str (by rfl) T.b_len PySem.boot_len (pa_cons (pv 0) pa_nil)) pa_nil)) (pg_name (i := 2) sc__law_least.nd rfl (Or.inl rfl)) (pss_cons (ps_set (i := 3) sc__law_least.nd rfl (Or.inl rfl) (pe_op op_add_str (pe_slice sl_str (pv 0) (po_some (pv 2)) po_none) (pe_slice sl_str (pv 0) po_none (po_some (pv 2))))) (pss_one (ps_if (pt_cmpR op_lt_str (pv 3) (pv 1) (nomark _)) (pss_one (ps_set (i := 1) sc__law_least.nd rfl (Or.inl rfl) (pv 3))) pss_nil)))) (pss_one (ps_ret (pv 1))))), ?_⟩)⟩
  · obtain ⟨l, rfl, _⟩ := h
    rfl
  · obtain ⟨l, rfl, ok, q⟩ := h
    obtain ⟨w1, w2, _⟩ := word_ok ok
    refine q_asg (v := .str (S l)) (ev_var rfl) fun H1 e1 => ?_
    refine q_forR1 (n := (l.length : Int)) (ea_cons (ev_lenS (ev_var rfl) (by omega)) ea_nil) (by omega) (fun i σ' H' => ∃ a b, σ' = [some (.str (S l)), some (.str (S (leastTo l i))), a, b] ∧ Ex H H') (fun H2 e2 => ⟨_, _, rfl, e1.trans e2⟩) ?_ ?_
    · rintro i σ' H' hi ⟨a, b, rfl, e2⟩
      refine q_asg (v := .str (S (turnL l i))) ?_ fun H3 e3 => ?_
      · have e := ev_op (r := rCatS) (ev_from (te := tVar 0) (ta := tVar 2) (σ := [some (.str (S l)), some (.str (S (leastTo l i))), some (.int (i : Int)), b]) (H := H') (l := l) (i := (i : Int)) (ev_var rfl) (by omega) (ev_var rfl) (by omega)) (ev_to (te := tVar 0) (ta := tVar 2) (l := l) (i := (i : Int)) (ev_var rfl) (by omega) (ev_var rfl) (by omega)) (rv_catS (by rw [List.length_drop, List.length_take]; omega))
        exact e
      · have e : leastTo l (i + 1) = if turnL l i < leastTo l i then turnL l i else leastTo l i := rfl
        refine s_when (b := decide (turnL l i < leastTo l i)) (et_test (ev_op (ev_var rfl) (ev_var rfl) rv_ltS)) (fun hb H4 e4 => ?_) (fun hb H4 e4 => ?_)
        · refine s_asg (v := .str (S (turnL l i))) (ev_var rfl) fun H5 e5 => ⟨some (.int (i : Int)), some (.str (S (turnL l i))), ?_, ((e2.trans e3).trans e4).trans e5⟩
          rw [e, if_pos (of_decide_eq_true hb)]
          rfl
        · refine ⟨some (.int (i : Int)), some (.str (S (turnL l i))), ?_, (e2.trans e3).trans e4⟩
          rw [e, if_neg (of_decide_eq_false hb)]
          rfl
    · rintro σ' H' ⟨a, b, rfl, e2⟩
      rw [Int.toNat_natCast]
      exact s_ret (ev_var rfl) fun H3 e3 => q H3 (e2.trans e3)

theorem rev_ok {l : List Nat} (h : okS l = true) : okS l.reverse = true := by
  obtain ⟨h1, h2, h3⟩ := word_ok h
  exact ok_word (by rw [List.length_reverse]; exact h1) (by rw [List.length_reverse]; exact h2) fun c hc => h3 c (List.mem_reverse.mp hc)
def sp_mirror_of (K : PySem.W.Frag) (CW : Addr) : Sp := fun vs H Q E => ∃ v, vs = [v] ∧ ThS K H v ∧ (isWordV v = false → Ref E CW H) ∧ ∀ l m : List Nat, v = .str (S l) → okS l = true → IsLeast l.reverse m → RetV (.str (S m)) H Q
theorem has_mirror_of (T : Txt K mg cE cN cR cW cO cM) (S0 : Src K mg "mirror_of" s_mirror_of ["word"]) (D_mirrored : Has P w K mg base (L2.CX P w) 3 "mirrored" ["word"] (sp_mirrored K cW)) (D_ring_of : Has P w K mg base (L2.CX P w) 5 "ring_of" ["word"] (sp_ring_of K cW)) : Has P w K mg base (L2.CX P w) 6 "mirror_of" ["word"] (sp_mirror_of K cW) := by
  obtain ⟨f, fd, gm, F, b⟩ := S0
  refine ⟨f, fd, gm, F.kp, b, F.okX sc_mirror_of (fun vs H Q E h => ?_) (fun cdv A outer s H vs Q E hr h => ⟨_, (pss_one (ps_ret (pe_has D_ring_of (hr.mono (by decide)) rfl (passes_call (takes_of rfl rfl rfl rfl) fun _ _ _ _ z => z) (pa_cons (pe_has D_mirrored (hr.mono (by decide)) rfl (passes_call (takes_of rfl rfl rfl rfl) fun _ _ _ _ z => z) (pa_cons (pv 0) pa_nil)) pa_nil)))), ?_⟩)⟩
  · obtain ⟨v, rfl, _⟩ := h
    rfl
  · obtain ⟨v, rfl, th, q1, q2⟩ := h
    cases hv : isWordV v with
    | false => exact ⟨v, rfl, v, rfl, th, fun _ => q1 hv, fun l e ok => by
        subst e
        exact absurd (hv.symm.trans (show isWordV (.str (S l)) = true from ok)) Bool.false_ne_true⟩
    | true =>
      rcases th with ⟨l, rfl, hl⟩ | ⟨_, _, _, hn⟩
      · have ok : okS l = true := hv
        have okr := rev_ok ok
        have hm := leastL_is (l := l.reverse) (by have := (word_ok okr).1; omega)
        refine s_ret (v := .str (S (leastL l.reverse))) (ev_call (ea_cons (ev_call (z := .str (S l.reverse)) (ea_cons (ev_var rfl) ea_nil) fun H1 e1 Q1 q3 E1 => ⟨.str (S l), rfl, .inl ⟨l, rfl, hl⟩, fun z => absurd (hv.symm.trans z) (fun y => nomatch y), fun l' e _ => ?_⟩) ea_nil)
          fun H1 e1 Q1 q3 E1 => ⟨.str (S l.reverse), rfl, ths_word okr, fun z => absurd (z.symm.trans (show isWordV (.str (S l.reverse)) = true from okr)) Bool.false_ne_true, fun l' m e _ hm' => ?_⟩) fun H1 e1 => q2 l _ rfl ok hm H1 e1
        · have e' : l = l' := S_inj (V.str.inj e)
          subst e'
          exact q3
        · have e' : l.reverse = l' := S_inj (V.str.inj e)
          subst e'
          rw [least_uniq hm' hm]
          exact q3
      · cases v with
        | str z => exact absurd rfl (hn z)
        | _ => cases hv

def sp_own (K : PySem.W.Frag) (CW : Addr) : Sp := fun vs H Q E => ∃ v, vs = [v] ∧ ThS K H v ∧ (isWordV v = false → Ref E CW H) ∧ ∀ l m r : List Nat, v = .str (S l) → okS l = true → IsLeast l.reverse m → IsLeast l r → RetV (.bl (decide (m = r))) H Q
theorem has_is_own_mirror (T : Txt K mg cE cN cR cW cO cM) (S0 : Src K mg "is_own_mirror" s_is_own_mirror ["word"]) (D_mirror_of : Has P w K mg base (L2.CX P w) 6 "mirror_of" ["word"] (sp_mirror_of K cW)) (D_ring_of : Has P w K mg base (L2.CX P w) 5 "ring_of" ["word"] (sp_ring_of K cW)) : Has P w K mg base (L2.CX P w) 7 "is_own_mirror" ["word"] (sp_own K cW) := by
  obtain ⟨f, fd, gm, F, b⟩ := S0
  refine ⟨f, fd, gm, F.kp, b, F.okX sc_is_own_mirror (fun vs H Q E h => ?_) (fun cdv A outer s H vs Q E hr h => ⟨_, (pss_one (ps_ret (pe_cmpR op_eq (pe_has D_mirror_of (hr.mono (by decide)) rfl (passes_call (takes_of rfl rfl rfl rfl) fun _ _ _ _ z => z) (pa_cons (pv 0) pa_nil)) (pe_has D_ring_of (hr.mono (by decide)) rfl (passes_call (takes_of rfl rfl rfl rfl) fun _ _ _ _ z => z) (pa_cons (pv 0) pa_nil)) (nomark _)))), ?_⟩)⟩
  · obtain ⟨v, rfl, _⟩ := h
    rfl
  · obtain ⟨v, rfl, th, q1, q2⟩ := h
    cases hv : isWordV v with
    | false => exact ⟨v, rfl, v, rfl, th, fun _ => q1 hv, fun l m e ok => by
        subst e
        exact absurd (hv.symm.trans (show isWordV (.str (S l)) = true from ok)) Bool.false_ne_true⟩
    | true =>
      rcases th with ⟨l, rfl, hl⟩ | ⟨_, _, _, hn⟩
      · have ok : okS l = true := hv
        have okr := rev_ok ok
        have hm := leastL_is (l := l.reverse) (by have := (word_ok okr).1; omega)
        have hr := leastL_is (l := l) (by have := (word_ok ok).1; omega)
        refine s_ret (v := .bl (decide (leastL l.reverse = leastL l))) (ev_op (ev_call (z := .str (S (leastL l.reverse))) (ea_cons (ev_var rfl) ea_nil) fun H1 e1 Q1 q3 E1 => ⟨.str (S l), rfl, .inl ⟨l, rfl, hl⟩, fun z => absurd (hv.symm.trans z) (fun y => nomatch y), fun l' m e _ hm' => ?_⟩)
          (ev_call (z := .str (S (leastL l))) (ea_cons (ev_var rfl) ea_nil) fun H1 e1 Q1 q3 E1 => ⟨.str (S l), rfl, .inl ⟨l, rfl, hl⟩, fun z => absurd (hv.symm.trans z) (fun y => nomatch y), fun l' m e _ hm' => ?_⟩) rv_eqS) fun H1 e1 => q2 l _ _ rfl ok hm hr H1 e1
        · have e' : l = l' := S_inj (V.str.inj e)
          subst e'
          rw [least_uniq hm' hm]
          exact q3
        · have e' : l = l' := S_inj (V.str.inj e)
          subst e'
          rw [least_uniq hm' hr]
          exact q3
      · cases v with
        | str z => exact absurd rfl (hn z)
        | _ => cases hv

def IsWd : V → Hp → Prop := fun v _ => ∃ l, v = .str (S l) ∧ okS l = true
def sp_drawn (K : PySem.W.Frag) : Sp := fun vs H Q _ => ∃ (a : Addr) (ns : List Int) (k : Int), vs = [.ref a, .int k] ∧ SqL K H a (ns.map V.int) ∧ 0 ≤ k ∧ k ≤ 40000 ∧ ∀ l, okS l = true → RetV (.str (S l)) H Q
theorem has__law_drawn (T : Txt K mg cE cN cR cW cO cM) (S0 : Src K mg "_law_drawn" s__law_drawn ["_law_script", "_law_at"]) (D__law_number : Has P w K mg base CX0 2 "_law_number" ["_law_script", "_law_k"] (sp_number K)) (D__law_word : Has P w K mg base CX0 3 "_law_word" ["_law_script", "_law_at"] (sp_word K)) :
    Has P w K mg base CX0 4 "_law_drawn" ["_law_script", "_law_at"] (sp_drawn K) := by
  obtain ⟨f, fd, gm, F, b⟩ := S0
  refine ⟨f, fd, gm, F.kp, b, F.ok sc__law_drawn (fun vs H Q E h => ?_) (fun cdv A outer s H vs Q E hr h => ⟨_, (pss_cons (ps_set (i := 2) sc__law_drawn.nd rfl (Or.inl rfl) (pe_has D__law_word (hr.mono (by decide)) rfl pass0 (pa_cons (pv 0) (pa_cons (pv 1) pa_nil)))) (pss_cons (ps_set (i := 3) sc__law_drawn.nd rfl (Or.inl rfl) (pe_has D__law_number (hr.mono (by decide)) rfl pass0 (pa_cons (pv 0) (pa_cons (pe_op op_add (pv 1) pe_int) pa_nil)))) (pss_cons (ps_if (pt_cmpR op_eq (pe_op op_mod (pv 3) pe_int) pe_int (nomark _)) (pss_cons (ps_set (i := 4) sc__law_drawn.nd rfl (Or.inl rfl) (pe_slice sl_str (pv 2) po_none (po_some pe_int))) (pss_one (ps_set (i := 2) sc__law_drawn.nd rfl (Or.inl rfl) (pe_op op_add_str (pv 4) (pe_slice sl_str (pe_revS (pv 4)) (po_some (pe_op op_mod (pe_op op_fdiv (pv 3) pe_int) pe_int)) po_none))))) pss_nil) (pss_cons (ps_set (i := 5) sc__law_drawn.nd rfl (Or.inl rfl) (pe_op op_mod (pe_op op_fdiv (pv 3) pe_int) (pe_callB (id := "len") call_len_str (by rfl) T.b_len PySem.boot_len (pa_cons (pv 2) pa_nil)))) (pss_one (ps_ret (pe_op op_add_str (pe_slice sl_str (pv 2) (po_some (pv 5)) po_none) (pe_slice sl_str (pv 2) po_none (po_some (pv 5)))))))))), ?_⟩)⟩
  · obtain ⟨a, ns, k, rfl, _⟩ := h
    rfl
  · obtain ⟨a, ns, k, rfl, hs, k0, k1, q⟩ := h
    refine q_asg (v := .str (S (lword ns k))) (ev_call (ea_cons (ev_var rfl) (ea_cons (ev_var rfl) ea_nil)) fun H3 e3 Q3 q3 E3 => ⟨a, ns, _, rfl, ex_l e3 hs, by omega, by omega, q3⟩) fun H1 e1 => ?_
    have ok := lword_ok ns k
    generalize lword ns k = wd at ok ⊢
    refine q_asg (v := .int (number ns (k + 70))) (ev_call (ea_cons (ev_var rfl) (ea_cons (by walk_at "br_ev") ea_nil)) fun H3 e3 Q3 q3 E3 => ⟨a, ns, _, rfl, ex_l (e1.trans e3) hs, by omega, by omega, q3⟩) fun H2 e2 => ?_
    obtain ⟨n0, n1⟩ := number_bd ns (k + 70)
    generalize number ns (k + 70) = n at n0 n1 ⊢
    -- what is turned at last
    have last : ∀ (l : List Nat) (c : Option V) (H3 : Hp), okS l = true → Ex H H3 → tSeq (tAsg (tOp (rI (fun _ j => 0 < j) fun i j => .int (i % j)) (tOp (rI CDiv fun i j => .int (i / j)) (tVar 3) (tC (.int 6))) (tCB rLenT (tCons (tVar 2) tNil))) (gName 5)) (tRet (tOp rCatS (tSl rSlS (tVar 2) (tPart (tVar 5)) tNoPart) (tSl rSlS (tVar 2) tNoPart (tPart (tVar 5))))) { nx := fun _ H' => Q .non H', rt := Q } [some (.ref a), some (.int k), some (.str (S l)), some (.int n), c, none] H3 := by
      intro l c H3 okl e3
      obtain ⟨w1, w2, _⟩ := word_ok okl
      have hpos : (0 : Int) < (l.length : Int) := by omega
      have m0 : 0 ≤ n / 6 % (l.length : Int) := Int.emod_nonneg _ (by omega)
      have m1 : n / 6 % (l.length : Int) < (l.length : Int) := Int.emod_lt_of_pos _ hpos
      refine q_asg (v := .int (n / 6 % (l.length : Int))) (ev_op (ev_op (ev_var rfl) ev_c (rv_I (show CDiv _ _ from ⟨by omega, by omega⟩))) (ev_lenS (ev_var rfl) (by omega)) (rv_I hpos)) fun H4 e4 => ?_
      refine s_ret (v := .str (S (turnL l (n / 6 % (l.length : Int)).toNat))) (ev_op (ev_from (ev_var rfl) (by omega) (ev_var rfl) m0) (ev_to (ev_var rfl) (by omega) (ev_var rfl) m0) (rv_catS (by rw [List.length_drop, List.length_take]; omega))) fun H5 e5 => q _ (turn_ok okl) H5 ((e3.trans e4).trans e5)
    obtain ⟨w1, w2, w3⟩ := word_ok ok
    refine q_when (b := decide (n % 3 = 1)) (et_test (ev_op (ev_op (ev_var rfl) ev_c (rv_I (by decide))) ev_c rv_eqI)) (fun hb H3 e3 => ?_) (fun hb H3 e3 => ?_)
    · refine q_asg (v := .str (S (wd.take 30))) (ev_to (i := 30) (ev_var rfl) (by omega) ev_c (by decide)) fun H4 e4 => ?_
      refine s_asg (v := .str (S (wd.take 30 ++ (wd.take 30).reverse.drop (n / 3 % 2).toNat))) (ev_op (ev_var rfl) (ev_from (ev_revS (ev_var rfl) (by rw [List.length_take]; omega)) (by rw [List.length_reverse, List.length_take]; omega) (by walk_at "br_ev") (by omega)) (rv_catS (by rw [List.length_drop, List.length_reverse, List.length_take]; omega))) fun H5 e5 => ?_
      refine last _ _ H5 (ok_word ?_ ?_ fun c hc => ?_) ((((e1.trans e2).trans e3).trans e4).trans e5)
      · rw [List.length_append, List.length_take]
        omega
      · rw [List.length_append, List.length_drop, List.length_reverse, List.length_take]
        omega
      · rcases List.mem_append.mp hc with hc | hc
        · exact w3 c (List.mem_of_mem_take hc)
        · exact w3 c (List.mem_of_mem_take (List.mem_reverse.mp (List.mem_of_mem_drop hc)))
    · exact last wd none H3 ok ((e1.trans e2).trans e3)

def sp_refused (K : PySem.W.Frag) : Sp := fun vs H Q _ => ∃ (i : Int) (v : V), vs = [.int i, v] ∧ Odd K v H ∧ RetV (.bl true) H Q
theorem has__law_refused (T : Txt K mg cE cN cR cW cO cM) (S0 : Src K mg "_law_refused" s__law_refused ["_law_way", "_law_thing"]) (D_mirror_of : Has P w K mg base (L2.CX P w) 6 "mirror_of" ["word"] (sp_mirror_of K cW)) (D_is_own_mirror : Has P w K mg base (L2.CX P w) 7 "is_own_mirror" ["word"] (sp_own K cW))
    (D__law_kind : Has P w K mg base CX0 1 "_law_kind" ["_law_e"] (sp_kind cW wWord)) : Has P w K mg base CX0 8 "_law_refused" ["_law_way", "_law_thing"] (sp_refused K) := by
  obtain ⟨f, fd, gm, F, b⟩ := S0
  refine ⟨f, fd, gm, F.kp, b, F.ok sc__law_refused (fun vs H Q E h => ?_) (fun cdv A outer s H vs Q E hr h => ⟨_, (pss_cons (ps_set (i := 2) sc__law_refused.nd rfl (Or.inl rfl) pe_non) (pss_cons (ps_try_held (i := 3) (j := 2) (tb := fun W => _) rfl rfl rfl sc__law_refused.nd rfl rfl rfl rfl (show 3 < N__law_refused.length by decide) ⟨rfl, by decide, .inl T.k_BeadError⟩ (fun W pn xe tk _ => (pss_one (ps_if (pt_cmpR op_eq (pv 0) pe_int (nomark _)) (pss_one (ps_expr (by exact (pe_hasS D_mirror_of (hr.mono (by decide)) rfl (fun σ => passAt tk σ) (by exact (pa_cons (pv 1) pa_nil)))))) (pss_one (ps_expr (by exact (pe_hasS D_is_own_mirror (hr.mono (by decide)) rfl (fun σ => passAt tk σ) (by exact (pa_cons (pv 1) pa_nil)))))))))) (pss_one (ps_ret (pe_and (pe_cmpR op_notN (pv 2) pe_non (nomark _)) (pe_one (pe_cmpR op_eq (pe_has D__law_kind (hr.mono (by decide)) rfl pass0 (pa_cons (pv 2) pa_nil)) pe_str (nomark _)))))))), ?_⟩)⟩
  · obtain ⟨i, v, rfl, _⟩ := h
    rfl
  · obtain ⟨i, v, rfl, odd, q⟩ := h
    refine q_asg (v := .non) ev_c fun H1 e1 => ?_
    have odd1 := Odd.mono v H H1 e1 odd
    have no : ∀ (l : List Nat), v = .str (S l) → okS l = true → False := fun l e ok => by
      have z := odd.2
      rw [e] at z
      exact absurd (z.symm.trans (show isWordV (.str (S l)) = true from ok)) Bool.false_ne_true
    refine s_if (b := decide (i = 0)) (et_test (ev_op (ev_var rfl) ev_c rv_eqI)) (fun hb H2 e2 => ?_) (fun hb H2 e2 => ?_)
    · refine ⟨v, rfl, v, rfl, odd1.1.mono e2, fun _ H3 e3 => ⟨T.hit_BadWord, fun a ha => ?_⟩, fun l m e ok _ => (no l e ok).elim⟩
      dsimp only
      refine s_ret (v := .bl true) (ev_andV (a := true) (b := true) (ev_op (ev_var rfl) ev_c rv_notNo) fun _ => ev_op (ev_call (ea_cons (ev_var rfl) ea_nil) fun H4 e4 Q4 q4 E4 => ⟨a, rfl, e4 a _ upd_same, q4⟩) (ev_cS wWord_S) (by
        have z := rv_eqS (a := wWord) (b := wWord) (H := upd H3 a (exH (.ref cW) none a))
        rw [decide_eq_true rfl] at z
        exact z)) fun H4 e4 => q H4 ((((e1.trans e2).trans e3).trans (Ex.new ha)).trans e4)
    · refine ⟨v, rfl, v, rfl, odd1.1.mono e2, fun _ H3 e3 => ⟨T.hit_BadWord, fun a ha => ?_⟩, fun l m r e ok _ _ => (no l e ok).elim⟩
      dsimp only
      refine s_ret (v := .bl true) (ev_andV (a := true) (b := true) (ev_op (ev_var rfl) ev_c rv_notNo) fun _ => ev_op (ev_call (ea_cons (ev_var rfl) ea_nil) fun H4 e4 Q4 q4 E4 => ⟨a, rfl, e4 a _ upd_same, q4⟩) (ev_cS wWord_S) (by
        have z := rv_eqS (a := wWord) (b := wWord) (H := upd H3 a (exH (.ref cW) none a))
        rw [decide_eq_true rfl] at z
        exact z)) fun H4 e4 => q H4 ((((e1.trans e2).trans e3).trans (Ex.new ha)).trans e4)

theorem ok_law (T : Txt K mg cE cN cR cW cO cM) {f : Addr} {fd : FuncData} (F : Fun K "law" "law" s_law f fd) (D__law_number : Has P w K mg base CX0 2 "_law_number" ["_law_script", "_law_k"] (sp_number K)) (D__law_drawn : Has P w K mg base CX0 4 "_law_drawn" ["_law_script", "_law_at"] (sp_drawn K))
    (D__law_least : Has P w K mg base CX0 1 "_law_least" ["_law_word_here"] sp_least) (D_mirror_of : Has P w K mg base (L2.CX P w) 6 "mirror_of" ["word"] (sp_mirror_of K cW)) (D_is_own_mirror : Has P w K mg base (L2.CX P w) 7 "is_own_mirror" ["word"] (sp_own K cW))
    (D__law_refused : Has P w K mg base CX0 8 "_law_refused" ["_law_way", "_law_thing"] (sp_refused K)) : FnOk P w K mg base CX0 12 f fd ["_law_script"] (sp_law K) := by
  refine F.ok sc_law (fun vs H Q E h => ?_) (fun cdv A outer s H vs Q E hr h => ⟨_, (pss_cons (ps_for PassesOwn.never rfl (pi_range1 rfl T.b_range (pa_cons (pe_op op_add pe_int (pe_callB (id := "min") (call_min2 rfl) (by rfl) T.b_min (by decide +kernel) (pa_cons pe_int (pa_cons (pe_callB (id := "len") call_len_seq (by rfl) T.b_len PySem.boot_len (pa_cons (pv 0) pa_nil)) pa_nil)))) pa_nil)) (pg_name (i := 1) sc_law.nd rfl (Or.inl rfl)) (pss_cons (ps_set (i := 2) sc_law.nd rfl (Or.inl rfl) (pe_has D__law_drawn (hr.mono (by decide)) rfl pass0 (pa_cons (pv 0) (pa_cons (pe_op op_mul pe_int (pv 1)) pa_nil)))) (pss_cons (ps_set (i := 3) sc_law.nd rfl (Or.inl rfl) (pe_has D__law_least (hr.mono (by decide)) rfl pass0 (pa_cons (pe_joinBack rfl pe_str rfl T.b_reversed (pv 2)) pa_nil))) (pss_cons (ps_if (PW.pt (pw_or (pt_cmpR op_ne (pe_callB (id := "repr") call_repr (by rfl) T.b_repr (by decide +kernel) (pa_cons (pe_has D_mirror_of (hr.mono (by decide)) rfl passL (pa_cons (pv 2) pa_nil)) pa_nil)) (pe_callB (id := "repr") call_repr (by rfl) T.b_repr (by decide +kernel) (pa_cons (pv 3) pa_nil)) (nomark _)) (pw_or1 (pt_cmpR op_ne (pe_callB (id := "repr") call_repr (by rfl) T.b_repr (by decide +kernel) (pa_cons (pe_has D_mirror_of (hr.mono (by decide)) rfl passL (pa_cons (pv 3) pa_nil)) pa_nil)) (pe_callB (id := "repr") call_repr (by rfl) T.b_repr (by decide +kernel) (pa_cons (pe_has D__law_least (hr.mono (by decide)) rfl pass0 (pa_cons (pv 2) pa_nil)) pa_nil)) (nomark _))))) (pss_one (ps_ret pe_bl)) pss_nil) (pss_cons (ps_for PassesOwn.never rfl (pi_tup (pe_tup (pa_cons (pv 2) (pa_cons (pv 3) pa_nil)))) (pg_name (i := 4) sc_law.nd rfl (Or.inl rfl)) (pss_one (ps_if (pt_cmpR op_ne (pe_callB (id := "repr") call_repr (by rfl) T.b_repr (by decide +kernel) (pa_cons (pe_has D_is_own_mirror (hr.mono (by decide)) rfl passL (pa_cons (pv 4) pa_nil)) pa_nil)) (pe_callB (id := "repr") call_repr (by rfl) T.b_repr (by decide +kernel) (pa_cons (pe_cmpR op_eq (pv 3) (pe_has D__law_least (hr.mono (by decide)) rfl pass0 (pa_cons (pv 2) pa_nil)) (nomark _)) pa_nil)) (nomark _)) (pss_one (ps_ret pe_bl)) pss_nil))) (pss_cons (ps_set (i := 5) sc_law.nd rfl (Or.inl rfl) (pe_ix ix_list (pe_lst (pa_cons pe_non (pa_cons pe_int (pa_cons pe_bl (pa_cons pe_str (pa_cons pe_str (pa_cons (pe_lst (pa_cons (pv 2) pa_nil)) (pa_cons (pe_tup (pa_cons (pv 2) pa_nil)) (pa_cons pe_dnewK (pa_cons (pe_op op_mulS pe_str pe_int) (pa_cons pe_int pa_nil))))))))))) (pe_op op_mod (pe_has D__law_number (hr.mono (by decide)) rfl pass0 (pa_cons (pv 0) (pa_cons (pe_op op_add (pe_op op_mul pe_int (pv 1)) pe_int) pa_nil))) pe_int) (fun _ _ => rfl))) (pss_one (ps_if (PW.pt (pw_or (pt_not (pt_val (pe_has D__law_refused (hr.mono (by decide)) rfl pass0 (pa_cons pe_int (pa_cons (pv 5) pa_nil))))) (pw_or1 (pt_not (pt_val (pe_has D__law_refused (hr.mono (by decide)) rfl pass0 (pa_cons pe_int (pa_cons (pv 5) pa_nil)))))))) (pss_one (ps_ret pe_bl)) pss_nil)))))))) (pss_one (ps_ret pe_bl))), ?_⟩)
  · obtain ⟨a, ns, rfl, _⟩ := h
    rfl
  · obtain ⟨a, ns, rfl, hs, hl, q⟩ := h
    obtain ⟨n0, n1⟩ := min30 ns.length
    refine q_forR1 (n := 1 + (if (ns.length : Int) < 30 then (ns.length : Int) else 30)) (ea_cons (ev_op ev_c (ev_minI ev_c (ev_lenI (ev_var rfl) hs)) rv_I0) ea_nil) ⟨by omega, by omega⟩
      (fun i σ' H' => (∃ a1 a2 a3 a4 a5, σ' = [some (.ref a), a1, a2, a3, a4, a5]) ∧ Ex H H') (fun H2 e2 => ⟨⟨_, _, _, _, _, rfl⟩, e2⟩) ?_ ?_
    · rintro i σ' H1 hi ⟨⟨a1, a2, a3, a4, a5, rfl⟩, e1⟩
      have hi31 : (i : Int) ≤ 31 := by omega
      refine p_asg (P := IsWd) (ep_call (vs := [.ref a, .int (80 * (i : Int))]) (ea_cons (ev_var rfl) (ea_cons (by walk_at "br_ev") ea_nil)) fun H3 e3 Q3 q3 => ⟨a, ns, _, rfl, ex_l (e1.trans e3) hs, by omega, by omega, fun l ok H4 e4 => q3 _ H4 e4 ⟨l, rfl, ok⟩⟩) ?_
      rintro _ H3 e3 ⟨wd, rfl, ok⟩
      have e13 := e1.trans e3
      obtain ⟨w1, w2, w3⟩ := word_ok ok
      have okr := rev_ok ok
      have lstr := leastL_is (l := wd.reverse) (by rw [List.length_reverse]; omega)
      have lst := leastL_is (l := wd) (by omega)
      have okm : okS (leastL wd.reverse) = true := by
        obtain ⟨k', hk', ek'⟩ := mem_turns.mp lstr.1
        rw [ek']
        exact turn_ok okr
      have okl : okS (leastL wd) = true := by
        obtain ⟨k', hk', ek'⟩ := mem_turns.mp lst.1
        rw [ek']
        exact turn_ok ok
      -- the mirror is its own ring, and its mirror is the ring
      have lstm : IsLeast (leastL wd.reverse) (leastL wd.reverse) := by
        obtain ⟨k', hk', ek'⟩ := mem_turns.mp lstr.1
        have z := (least_turn hk').mpr lstr
        rw [← ek'] at z
        exact z
      have lstb : IsLeast (leastL wd.reverse).reverse (leastL wd) := (mirror_twice lstr).mpr lst
      have notno : ∀ l : List Nat, okS l = true → isWordV (.str (S l)) = false → False := fun l okl z => absurd (z.symm.trans (show isWordV (.str (S l)) = true from okl)) Bool.false_ne_true
      refine q_asg (v := .str (S (leastL wd.reverse))) (ev_call (ea_cons (ev_joinBack (ev_cS (l := []) (by decide +kernel)) (ev_var rfl) w1 (by omega)) ea_nil) fun H4 e4 Q4 q4 E4 => ⟨wd.reverse, rfl, okr, q4⟩) fun H4 e4 => ?_
      have e14 := e13.trans e4
      refine q_when (b := false) (et_or (a := false) (b := false) (et_same (v := .str (reprV (.str (S (leastL wd.reverse))))) (ev_repr (ev_call (z := .str (S (leastL wd.reverse))) (ea_cons (ev_var rfl) ea_nil) fun H8 e8 Q8 q8 E8 => ⟨.str (S wd), rfl, ths_word ok, fun z => (notno _ ok z).elim, fun l' m e _ hm => ?_⟩) (repr_word okm)) (ev_repr (ev_var rfl) (repr_word okm)) rfl)
        (fun _ => et_same (v := .str (reprV (.str (S (leastL wd))))) (ev_repr (ev_call (z := .str (S (leastL wd))) (ea_cons (ev_var rfl) ea_nil) fun H8 e8 Q8 q8 E8 => ⟨.str (S (leastL wd.reverse)), rfl, ths_word okm, fun z => (notno _ okm z).elim, fun l' m e _ hm => ?_⟩) (repr_word okl))
          (ev_repr (ev_call (z := .str (S (leastL wd))) (ea_cons (ev_var rfl) ea_nil) fun H8 e8 Q8 q8 E8 => ⟨wd, rfl, ok, q8⟩) (repr_word okl)) rfl)) (fun z => nomatch z) (fun _ H5 e5 => ?_)
      · have e' : wd = l' := S_inj (V.str.inj e)
        subst e'
        rw [least_uniq hm lstr]
        exact q8
      · have e' : leastL wd.reverse = l' := S_inj (V.str.inj e)
        subst e'
        rw [least_uniq hm lstb]
        exact q8
      have e15 := e14.trans e5
      -- its own mirror, of the word and of the mirror
      refine q_forNT (K := K) (xs := [.str (S wd), .str (S (leastL wd.reverse))]) (eu_tup (ea_cons (ev_var rfl) (ea_cons (ev_var rfl) ea_nil)) (by show 2 ≤ 100000; decide))
        (fun p j σ' H' => (∃ b4 b5, σ' = [some (.ref a), some (.int (i : Int)), some (.str (S wd)), some (.str (S (leastL wd.reverse))), b4, b5]) ∧ Ex H5 H' ∧ H' p = some (.tup [.str (S wd), .str (S (leastL wd.reverse))]))
        (fun p H7 _ e7 h7 => ⟨⟨_, _, rfl⟩, e7, h7⟩) (fun p j σ' H' _ ⟨_, _, h7⟩ => st_of h7) ?_ ?_
      · rintro p j x σ' H7 hx ⟨⟨b4, b5, rfl⟩, e7, h7⟩
        have hx' : ∃ one m r, okS one = true ∧ IsLeast one.reverse m ∧ IsLeast one r ∧ (decide (m = r) = decide (leastL wd.reverse = leastL wd)) ∧ x = .str (S one) := by
          match j, hx with
          | 0, hx => exact ⟨wd, _, _, ok, lstr, lst, rfl, (Option.some.inj hx).symm⟩
          | 1, hx =>
            refine ⟨_, _, _, okm, lstb, lstm, ?_, (Option.some.inj hx).symm⟩
            by_cases c : leastL wd = leastL wd.reverse
            · rw [decide_eq_true c, decide_eq_true c.symm]
            · rw [decide_eq_false c, decide_eq_false fun z => c z.symm]
          | j + 2, hx => cases hx
        obtain ⟨one, m, r, okk, hm, hr, hd, rfl⟩ := hx'
        refine s_when (b := false) (et_same (v := .str (reprV (.bl (decide (leastL wd.reverse = leastL wd))))) (ev_repr (ev_call (z := .bl (decide (leastL wd.reverse = leastL wd))) (ea_cons (ev_var rfl) ea_nil) fun H9 e9 Q9 q9 E9 => ⟨.str (S one), rfl, ths_word okk, fun z => (notno _ okk z).elim, fun l' m' r' e _ hm' hr' => ?_⟩) True.intro)
          (ev_repr (ev_op (ev_var rfl) (ev_call (z := .str (S (leastL wd))) (ea_cons (ev_var rfl) ea_nil) fun H8 e8 Q8 q8 E8 => ⟨wd, rfl, ok, q8⟩) rv_eqS) True.intro) rfl) (fun z => nomatch z) (fun _ H9 e9 => ?_)
        · have e' : one = l' := S_inj (V.str.inj e)
          subst e'
          rw [least_uniq hm' hm, least_uniq hr' hr, hd]
          exact q9
        · exact ⟨⟨_, _, rfl⟩, e7.trans e9, e9 p _ h7⟩
      · rintro p σ' H7 ⟨⟨b4, b5, rfl⟩, e7, _⟩
        have e17 := e15.trans e7
        obtain ⟨c0, c1⟩ := number_bd ns (80 * (i : Int) + 71)
        refine p_asg (P := Odd K) (ep_pick (n := 10) (i := number ns (80 * (i : Int) + 71) % 10) Odd.mono
          (eall_cons Odd.mono (ep_of ev_c fun _ _ => odd_non) (eall_cons Odd.mono (ep_of ev_c fun _ _ => odd_int) (eall_cons Odd.mono (ep_of ev_c fun _ _ => odd_bl)
          (eall_cons Odd.mono (ep_of (ev_cS (l := []) (by decide +kernel)) fun _ _ => odd_txt (by decide) (by decide)) (eall_cons Odd.mono (ep_of (ev_cS (l := [122]) (by decide +kernel)) fun _ _ => odd_txt (by decide) (by decide))
          (eall_cons Odd.mono (ep_lst (el_lst (ea_cons (ev_var rfl) ea_nil) (by show 1 ≤ 100000; decide)) fun _ _ _ h => odd_lst h) (eall_cons Odd.mono (ep_tup (eu_tup (ea_cons (ev_var rfl) ea_nil) (by show 1 ≤ 100000; decide)) fun _ _ _ h => odd_tup h) (eall_cons Odd.mono (ep_dct fun _ _ _ h => odd_dct h)
          (eall_cons Odd.mono (ep_of (ev_op (ev_cS (l := [104]) (by decide +kernel)) ev_c (rv_mulS (n := 61) rfl (by decide) (by decide))) fun _ _ => odd_txt (by decide) (by decide)) (eall_cons Odd.mono (ep_of ev_c fun _ _ => odd_int) eall_nil))))))))))
          (fun H8 e8 => ev_op (ev_call (ea_cons (ev_var rfl) (ea_cons (by walk_at "br_ev") ea_nil)) fun H9 e9 Q9 q9 E9 => ⟨a, ns, _, rfl, ex_l ((e17.trans e8).trans e9) hs, by omega, by omega, q9⟩) ev_c (rv_I (by decide))) (by decide) (by omega) (by omega)) fun v H8 e8 hv => ?_
        refine s_when (b := false) (et_or (a := false) (b := false) (et_not (a := true) (et_B (ev_call (ea_cons ev_c (ea_cons (ev_var rfl) ea_nil)) fun H9 e9 Q9 q9 E9 => ⟨0, v, rfl, Odd.mono v H8 H9 e9 hv, q9⟩))) fun _ => et_not (a := true) (et_B (ev_call (ea_cons ev_c (ea_cons (ev_var rfl) ea_nil)) fun H9 e9 Q9 q9 E9 => ⟨1, v, rfl, Odd.mono v H8 H9 e9 hv, q9⟩))) (fun z => nomatch z) (fun _ H9 e9 => ?_)
        exact ⟨⟨_, _, _, _, _, rfl⟩, (e17.trans e8).trans e9⟩
    · rintro σ' H1 ⟨⟨a1, a2, a3, a4, a5, rfl⟩, e1⟩
      exact s_ret (v := .bl true) ev_c fun H2 e2 => q H2 (e1.trans e2)
end
theorem all_mk {l : PySem.W.OpenLaw} {w : World} {K : PySem.W.Frag} {h : Heap} {mg : Str → Option Value} {fa cE cN cR cW cO cM : Addr} (X : K.In h) (G : h.Ns mainGlobals mg) (hfa : mg "law" = some (.ref fa))
    {u_MOST_LETTERS : Value}
    {u_LETTERS : Value}
    {f_is_whole : Addr} {od_is_whole an_is_whole : Option Addr} {sl_is_whole : Array (Option Value)} {oc_is_whole kV_is_whole dc_is_whole pm_is_whole cd_is_whole ct_is_whole : Value}
    {f_is_word : Addr} {od_is_word an_is_word : Option Addr} {sl_is_word : Array (Option Value)} {oc_is_word kV_is_word dc_is_word pm_is_word cd_is_word ct_is_word : Value}
    {f_need_word : Addr} {od_need_word an_need_word : Option Addr} {sl_need_word : Array (Option Value)} {oc_need_word kV_need_word dc_need_word pm_need_word cd_need_word ct_need_word : Value}
    {f_turned : Addr} {od_turned an_turned : Option Addr} {sl_turned : Array (Option Value)} {oc_turned kV_turned dc_turned pm_turned cd_turned ct_turned : Value}
    {f_turnings : Addr} {od_turnings an_turnings : Option Addr} {sl_turnings : Array (Option Value)} {oc_turnings kV_turnings dc_turnings pm_turnings cd_turnings ct_turnings : Value}
    {f_mirrored : Addr} {od_mirrored an_mirrored : Option Addr} {sl_mirrored : Array (Option Value)} {oc_mirrored kV_mirrored dc_mirrored pm_mirrored cd_mirrored ct_mirrored : Value}
    {f_ring_of : Addr} {od_ring_of an_ring_of : Option Addr} {sl_ring_of : Array (Option Value)} {oc_ring_of kV_ring_of dc_ring_of pm_ring_of cd_ring_of ct_ring_of : Value}
    {f_mirror_of : Addr} {od_mirror_of an_mirror_of : Option Addr} {sl_mirror_of : Array (Option Value)} {oc_mirror_of kV_mirror_of dc_mirror_of pm_mirror_of cd_mirror_of ct_mirror_of : Value}
    {f_is_own_mirror : Addr} {od_is_own_mirror an_is_own_mirror : Option Addr} {sl_is_own_mirror : Array (Option Value)} {oc_is_own_mirror kV_is_own_mirror dc_is_own_mirror pm_is_own_mirror cd_is_own_mirror ct_is_own_mirror : Value}
    {f__law_mixed : Addr} {od__law_mixed an__law_mixed : Option Addr} {sl__law_mixed : Array (Option Value)} {oc__law_mixed kV__law_mixed dc__law_mixed pm__law_mixed cd__law_mixed ct__law_mixed : Value}
    {f__law_number : Addr} {od__law_number an__law_number : Option Addr} {sl__law_number : Array (Option Value)} {oc__law_number kV__law_number dc__law_number pm__law_number cd__law_number ct__law_number : Value}
    {f__law_kind : Addr} {od__law_kind an__law_kind : Option Addr} {sl__law_kind : Array (Option Value)} {oc__law_kind kV__law_kind dc__law_kind pm__law_kind cd__law_kind ct__law_kind : Value}
    {f__law_word : Addr} {od__law_word an__law_word : Option Addr} {sl__law_word : Array (Option Value)} {oc__law_word kV__law_word dc__law_word pm__law_word cd__law_word ct__law_word : Value}
    {f__law_least : Addr} {od__law_least an__law_least : Option Addr} {sl__law_least : Array (Option Value)} {oc__law_least kV__law_least dc__law_least pm__law_least cd__law_least ct__law_least : Value}
    {f__law_drawn : Addr} {od__law_drawn an__law_drawn : Option Addr} {sl__law_drawn : Array (Option Value)} {oc__law_drawn kV__law_drawn dc__law_drawn pm__law_drawn cd__law_drawn ct__law_drawn : Value}
    {f__law_refused : Addr} {od__law_refused an__law_refused : Option Addr} {sl__law_refused : Array (Option Value)} {oc__law_refused kV__law_refused dc__law_refused pm__law_refused cd__law_refused ct__law_refused : Value}
    {f_law : Addr} {od_law an_law : Option Addr} {sl_law : Array (Option Value)} {oc_law kV_law dc_law pm_law cd_law ct_law : Value}
    (h_b_ValueError : PySem.W.nsIn K mainGlobals "ValueError" = some none)
    (h_b_all : PySem.W.nsIn K mainGlobals "all" = some none)
    (h_b_bool : PySem.W.nsIn K mainGlobals "bool" = some none)
    (h_b_int : PySem.W.nsIn K mainGlobals "int" = some none)
    (h_b_isinstance : PySem.W.nsIn K mainGlobals "isinstance" = some none)
    (h_b_len : PySem.W.nsIn K mainGlobals "len" = some none)
    (h_b_min : PySem.W.nsIn K mainGlobals "min" = some none)
    (h_b_range : PySem.W.nsIn K mainGlobals "range" = some none)
    (h_b_repr : PySem.W.nsIn K mainGlobals "repr" = some none)
    (h_b_reversed : PySem.W.nsIn K mainGlobals "reversed" = some none)
    (h_b_str : PySem.W.nsIn K mainGlobals "str" = some none)
    (h_c_MOST_LETTERS : PySem.W.nsIn K mainGlobals "MOST_LETTERS" = some (some u_MOST_LETTERS)) (r_c_MOST_LETTERS : RelV (.int 60) u_MOST_LETTERS)
    (h_c_LETTERS : PySem.W.nsIn K mainGlobals "LETTERS" = some (some u_LETTERS)) (r_c_LETTERS : RelV (.str "abcdefgh") u_LETTERS)
    (h_k_BeadError : PySem.W.nsIn K mainGlobals "BeadError" = some (some (.ref cE)))
    (h_k_BadNumber : PySem.W.nsIn K mainGlobals "BadNumber" = some (some (.ref cN)))
    (h_k_BadRing : PySem.W.nsIn K mainGlobals "BadRing" = some (some (.ref cR)))
    (h_k_BadWord : PySem.W.nsIn K mainGlobals "BadWord" = some (some (.ref cW)))
    (h_k_NoRing : PySem.W.nsIn K mainGlobals "NoRing" = some (some (.ref cO)))
    (h_k_TooMany : PySem.W.nsIn K mainGlobals "TooMany" = some (some (.ref cM)))
    (h_x_BadWord : PySem.W.excIn K cW [.type "ValueError", .type "Exception", .type "BaseException", .type "object"] "ValueError.__new__" = true)
    (h_p_BadWord : PySem.W.keepIn K (.ref cW) = true)
    (h_s_BadWord : PySem.W.subIn K (.ref cW) (.type "BaseException") = some true)
    (h_y_BadWord : PySem.W.typeIn K (.ref cW) = some (.type "type"))
    (h_x_BadNumber : PySem.W.excIn K cN [.type "ValueError", .type "Exception", .type "BaseException", .type "object"] "ValueError.__new__" = true)
    (h_p_BadNumber : PySem.W.keepIn K (.ref cN) = true)
    (h_s_BadNumber : PySem.W.subIn K (.ref cN) (.type "BaseException") = some true)
    (h_y_BadNumber : PySem.W.typeIn K (.ref cN) = some (.type "type"))
    (h_ga_BadWord : PySem.W.findIn K (.ref cW) "__getattribute__" = some (some (.builtin "BaseException.__getattribute__")))
    (h_gg_BadWord : PySem.W.findIn K (.ref cW) "__getattr__" = some none)
    (h_hd_BadWord : PySem.W.hasDictIn K cW = true)
    (h_hc_BadWord : PySem.W.findIn K (.ref cW) "__class__" = some (some (.builtin "object.__class__")))
    (h_mo_BadWord : PySem.W.mroIn K cW (.type "object") = some true)
    (h_i_BadWord_BadNumber : PySem.W.kitOne K (.ref cW) (.ref cN) = some false)
    (h_i_BadWord_BadRing : PySem.W.kitOne K (.ref cW) (.ref cR) = some false)
    (h_i_BadWord_BadWord : PySem.W.kitOne K (.ref cW) (.ref cW) = some true)
    (h_i_BadWord_NoRing : PySem.W.kitOne K (.ref cW) (.ref cO) = some false)
    (h_i_BadWord_TooMany : PySem.W.kitOne K (.ref cW) (.ref cM) = some false)
    (h_i_BadWord_V : PySem.W.kitOne K (.ref cW) (.type "ValueError") = some true)
    (h_m_BadWord : PySem.W.subIn K (.ref cW) (.ref cE) = some true)
    (h_sp : PySem.W.specialIn K (.builtin "object.__class__") "__get__" = some (some (.builtin "getset_descriptor.__get__")))
    (h_tk : PySem.W.takesIn K (.builtin "object.__class__") = some true)
    (h_sE : PySem.W.subIn K (.ref cE) (.type "BaseException") = some true)
    (h_hE : PySem.W.hasDictIn K cE = true)
    (h_yE : PySem.W.typeIn K (.ref cE) = some (.type "type"))
    (g_is_whole : PySem.W.nsIn K mainGlobals "is_whole" = some (some (.ref f_is_whole))) (l_is_whole : K.lookup f_is_whole = some ⟨oc_is_whole, od_is_whole, .func (PySem.W.fnOf "is_whole" "is_whole" (defArgs s_is_whole) (defBody s_is_whole) (defScope s_is_whole) .none kV_is_whole dc_is_whole pm_is_whole an_is_whole cd_is_whole ct_is_whole), sl_is_whole⟩) (d_is_whole : PySem.W.codeIn K cd_is_whole "is_whole" = true) (p_is_whole : PySem.W.keepIn K (.ref f_is_whole) = true)
    (g_is_word : PySem.W.nsIn K mainGlobals "is_word" = some (some (.ref f_is_word))) (l_is_word : K.lookup f_is_word = some ⟨oc_is_word, od_is_word, .func (PySem.W.fnOf "is_word" "is_word" (defArgs s_is_word) (defBody s_is_word) (defScope s_is_word) .none kV_is_word dc_is_word pm_is_word an_is_word cd_is_word ct_is_word), sl_is_word⟩) (d_is_word : PySem.W.codeIn K cd_is_word "is_word" = true) (p_is_word : PySem.W.keepIn K (.ref f_is_word) = true)
    (g_need_word : PySem.W.nsIn K mainGlobals "need_word" = some (some (.ref f_need_word))) (l_need_word : K.lookup f_need_word = some ⟨oc_need_word, od_need_word, .func (PySem.W.fnOf "need_word" "need_word" (defArgs s_need_word) (defBody s_need_word) (defScope s_need_word) .none kV_need_word dc_need_word pm_need_word an_need_word cd_need_word ct_need_word), sl_need_word⟩) (d_need_word : PySem.W.codeIn K cd_need_word "need_word" = true) (p_need_word : PySem.W.keepIn K (.ref f_need_word) = true)
    (g_turned : PySem.W.nsIn K mainGlobals "turned" = some (some (.ref f_turned))) (l_turned : K.lookup f_turned = some ⟨oc_turned, od_turned, .func (PySem.W.fnOf "turned" "turned" (defArgs s_turned) (defBody s_turned) (defScope s_turned) .none kV_turned dc_turned pm_turned an_turned cd_turned ct_turned), sl_turned⟩) (d_turned : PySem.W.codeIn K cd_turned "turned" = true) (p_turned : PySem.W.keepIn K (.ref f_turned) = true)
    (g_turnings : PySem.W.nsIn K mainGlobals "turnings" = some (some (.ref f_turnings))) (l_turnings : K.lookup f_turnings = some ⟨oc_turnings, od_turnings, .func (PySem.W.fnOf "turnings" "turnings" (defArgs s_turnings) (defBody s_turnings) (defScope s_turnings) .none kV_turnings dc_turnings pm_turnings an_turnings cd_turnings ct_turnings), sl_turnings⟩) (d_turnings : PySem.W.codeIn K cd_turnings "turnings" = true) (p_turnings : PySem.W.keepIn K (.ref f_turnings) = true)
    (g_mirrored : PySem.W.nsIn K mainGlobals "mirrored" = some (some (.ref f_mirrored))) (l_mirrored : K.lookup f_mirrored = some ⟨oc_mirrored, od_mirrored, .func (PySem.W.fnOf "mirrored" "mirrored" (defArgs s_mirrored) (defBody s_mirrored) (defScope s_mirrored) .none kV_mirrored dc_mirrored pm_mirrored an_mirrored cd_mirrored ct_mirrored), sl_mirrored⟩) (d_mirrored : PySem.W.codeIn K cd_mirrored "mirrored" = true) (p_mirrored : PySem.W.keepIn K (.ref f_mirrored) = true)
    (g_ring_of : PySem.W.nsIn K mainGlobals "ring_of" = some (some (.ref f_ring_of))) (l_ring_of : K.lookup f_ring_of = some ⟨oc_ring_of, od_ring_of, .func (PySem.W.fnOf "ring_of" "ring_of" (defArgs s_ring_of) (defBody s_ring_of) (defScope s_ring_of) .none kV_ring_of dc_ring_of pm_ring_of an_ring_of cd_ring_of ct_ring_of), sl_ring_of⟩) (d_ring_of : PySem.W.codeIn K cd_ring_of "ring_of" = true) (p_ring_of : PySem.W.keepIn K (.ref f_ring_of) = true)
    (g_mirror_of : PySem.W.nsIn K mainGlobals "mirror_of" = some (some (.ref f_mirror_of))) (l_mirror_of : K.lookup f_mirror_of = some ⟨oc_mirror_of, od_mirror_of, .func (PySem.W.fnOf "mirror_of" "mirror_of" (defArgs s_mirror_of) (defBody s_mirror_of) (defScope s_mirror_of) .none kV_mirror_of dc_mirror_of pm_mirror_of an_mirror_of cd_mirror_of ct_mirror_of), sl_mirror_of⟩) (d_mirror_of : PySem.W.codeIn K cd_mirror_of "mirror_of" = true) (p_mirror_of : PySem.W.keepIn K (.ref f_mirror_of) = true)
    (g_is_own_mirror : PySem.W.nsIn K mainGlobals "is_own_mirror" = some (some (.ref f_is_own_mirror))) (l_is_own_mirror : K.lookup f_is_own_mirror = some ⟨oc_is_own_mirror, od_is_own_mirror, .func (PySem.W.fnOf "is_own_mirror" "is_own_mirror" (defArgs s_is_own_mirror) (defBody s_is_own_mirror) (defScope s_is_own_mirror) .none kV_is_own_mirror dc_is_own_mirror pm_is_own_mirror an_is_own_mirror cd_is_own_mirror ct_is_own_mirror), sl_is_own_mirror⟩) (d_is_own_mirror : PySem.W.codeIn K cd_is_own_mirror "is_own_mirror" = true) (p_is_own_mirror : PySem.W.keepIn K (.ref f_is_own_mirror) = true)
    (g__law_mixed : PySem.W.nsIn K mainGlobals "_law_mixed" = some (some (.ref f__law_mixed))) (l__law_mixed : K.lookup f__law_mixed = some ⟨oc__law_mixed, od__law_mixed, .func (PySem.W.fnOf "_law_mixed" "_law_mixed" (defArgs s__law_mixed) (defBody s__law_mixed) (defScope s__law_mixed) .none kV__law_mixed dc__law_mixed pm__law_mixed an__law_mixed cd__law_mixed ct__law_mixed), sl__law_mixed⟩) (d__law_mixed : PySem.W.codeIn K cd__law_mixed "_law_mixed" = true) (p__law_mixed : PySem.W.keepIn K (.ref f__law_mixed) = true)
    (g__law_number : PySem.W.nsIn K mainGlobals "_law_number" = some (some (.ref f__law_number))) (l__law_number : K.lookup f__law_number = some ⟨oc__law_number, od__law_number, .func (PySem.W.fnOf "_law_number" "_law_number" (defArgs s__law_number) (defBody s__law_number) (defScope s__law_number) .none kV__law_number dc__law_number pm__law_number an__law_number cd__law_number ct__law_number), sl__law_number⟩) (d__law_number : PySem.W.codeIn K cd__law_number "_law_number" = true) (p__law_number : PySem.W.keepIn K (.ref f__law_number) = true)
    (g__law_kind : PySem.W.nsIn K mainGlobals "_law_kind" = some (some (.ref f__law_kind))) (l__law_kind : K.lookup f__law_kind = some ⟨oc__law_kind, od__law_kind, .func (PySem.W.fnOf "_law_kind" "_law_kind" (defArgs s__law_kind) (defBody s__law_kind) (defScope s__law_kind) .none kV__law_kind dc__law_kind pm__law_kind an__law_kind cd__law_kind ct__law_kind), sl__law_kind⟩) (d__law_kind : PySem.W.codeIn K cd__law_kind "_law_kind" = true) (p__law_kind : PySem.W.keepIn K (.ref f__law_kind) = true)
    (g__law_word : PySem.W.nsIn K mainGlobals "_law_word" = some (some (.ref f__law_word))) (l__law_word : K.lookup f__law_word = some ⟨oc__law_word, od__law_word, .func (PySem.W.fnOf "_law_word" "_law_word" (defArgs s__law_word) (defBody s__law_word) (defScope s__law_word) .none kV__law_word dc__law_word pm__law_word an__law_word cd__law_word ct__law_word), sl__law_word⟩) (d__law_word : PySem.W.codeIn K cd__law_word "_law_word" = true) (p__law_word : PySem.W.keepIn K (.ref f__law_word) = true)
    (g__law_least : PySem.W.nsIn K mainGlobals "_law_least" = some (some (.ref f__law_least))) (l__law_least : K.lookup f__law_least = some ⟨oc__law_least, od__law_least, .func (PySem.W.fnOf "_law_least" "_law_least" (defArgs s__law_least) (defBody s__law_least) (defScope s__law_least) .none kV__law_least dc__law_least pm__law_least an__law_least cd__law_least ct__law_least), sl__law_least⟩) (d__law_least : PySem.W.codeIn K cd__law_least "_law_least" = true) (p__law_least : PySem.W.keepIn K (.ref f__law_least) = true)
    (g__law_drawn : PySem.W.nsIn K mainGlobals "_law_drawn" = some (some (.ref f__law_drawn))) (l__law_drawn : K.lookup f__law_drawn = some ⟨oc__law_drawn, od__law_drawn, .func (PySem.W.fnOf "_law_drawn" "_law_drawn" (defArgs s__law_drawn) (defBody s__law_drawn) (defScope s__law_drawn) .none kV__law_drawn dc__law_drawn pm__law_drawn an__law_drawn cd__law_drawn ct__law_drawn), sl__law_drawn⟩) (d__law_drawn : PySem.W.codeIn K cd__law_drawn "_law_drawn" = true) (p__law_drawn : PySem.W.keepIn K (.ref f__law_drawn) = true)
    (g__law_refused : PySem.W.nsIn K mainGlobals "_law_refused" = some (some (.ref f__law_refused))) (l__law_refused : K.lookup f__law_refused = some ⟨oc__law_refused, od__law_refused, .func (PySem.W.fnOf "_law_refused" "_law_refused" (defArgs s__law_refused) (defBody s__law_refused) (defScope s__law_refused) .none kV__law_refused dc__law_refused pm__law_refused an__law_refused cd__law_refused ct__law_refused), sl__law_refused⟩) (d__law_refused : PySem.W.codeIn K cd__law_refused "_law_refused" = true) (p__law_refused : PySem.W.keepIn K (.ref f__law_refused) = true)
    (g_law : PySem.W.nsIn K mainGlobals "law" = some (some (.ref f_law))) (l_law : K.lookup f_law = some ⟨oc_law, od_law, .func (PySem.W.fnOf "law" "law" (defArgs s_law) (defBody s_law) (defScope s_law) .none kV_law dc_law pm_law an_law cd_law ct_law), sl_law⟩) (d_law : PySem.W.codeIn K cd_law "law" = true) (p_law : PySem.W.keepIn K (.ref f_law) = true)
    : ∃ fd : FuncData, (∀ (s : Shared) (v : Value), BindsTo s fd ⟨[v], []⟩ [("_law_script", v)]) ∧ ∀ base : Heap, K.In base → base.Ns mainGlobals mg → FnOk l.prog w K mg base CX0 12 fa fd ["_law_script"] (sp_law K) := by
  have e := hfa.symm.trans (PySem.W.mg_of X G g_law)
  cases e
  have T : Txt K mg cE cN cR cW cO cM := { b_ValueError := PySem.W.mg_none_of X G h_b_ValueError, b_all := PySem.W.mg_none_of X G h_b_all, b_bool := PySem.W.mg_none_of X G h_b_bool, b_int := PySem.W.mg_none_of X G h_b_int, b_isinstance := PySem.W.mg_none_of X G h_b_isinstance, b_len := PySem.W.mg_none_of X G h_b_len, b_min := PySem.W.mg_none_of X G h_b_min, b_range := PySem.W.mg_none_of X G h_b_range, b_repr := PySem.W.mg_none_of X G h_b_repr, b_reversed := PySem.W.mg_none_of X G h_b_reversed, b_str := PySem.W.mg_none_of X G h_b_str, c_MOST_LETTERS := ⟨_, PySem.W.mg_of X G h_c_MOST_LETTERS, r_c_MOST_LETTERS⟩, c_LETTERS := ⟨_, PySem.W.mg_of X G h_c_LETTERS, r_c_LETTERS⟩, k_BeadError := PySem.W.mg_of X G h_k_BeadError, k_BadNumber := PySem.W.mg_of X G h_k_BadNumber, k_BadRing := PySem.W.mg_of X G h_k_BadRing, k_BadWord := PySem.W.mg_of X G h_k_BadWord, k_NoRing := PySem.W.mg_of X G h_k_NoRing, k_TooMany := PySem.W.mg_of X G h_k_TooMany, x_BadWord := h_x_BadWord, p_BadWord := h_p_BadWord, s_BadWord := h_s_BadWord, y_BadWord := h_y_BadWord, x_BadNumber := h_x_BadNumber, p_BadNumber := h_p_BadNumber, s_BadNumber := h_s_BadNumber, y_BadNumber := h_y_BadNumber, ga_BadWord := h_ga_BadWord, gg_BadWord := h_gg_BadWord, hd_BadWord := h_hd_BadWord, hc_BadWord := h_hc_BadWord, mo_BadWord := h_mo_BadWord, i_BadWord_BadNumber := h_i_BadWord_BadNumber, i_BadWord_BadRing := h_i_BadWord_BadRing, i_BadWord_BadWord := h_i_BadWord_BadWord, i_BadWord_NoRing := h_i_BadWord_NoRing, i_BadWord_TooMany := h_i_BadWord_TooMany, i_BadWord_V := h_i_BadWord_V, m_BadWord := h_m_BadWord, sp := h_sp, tk := h_tk, sE := h_sE, hE := h_hE, yE := h_yE }
  have S_is_whole : Src K mg "is_whole" s_is_whole ["thing"] := ⟨f_is_whole, _, PySem.W.mg_of X G g_is_whole, fun_mk (st := s_is_whole) l_is_whole d_is_whole p_is_whole, (fun_mk (st := s_is_whole) l_is_whole d_is_whole p_is_whole).binds (ps := ["thing"]) fun _ _ _ _ _ _ us hl => match us, hl with | [_], _ => rfl⟩
  have S_is_word : Src K mg "is_word" s_is_word ["thing"] := ⟨f_is_word, _, PySem.W.mg_of X G g_is_word, fun_mk (st := s_is_word) l_is_word d_is_word p_is_word, (fun_mk (st := s_is_word) l_is_word d_is_word p_is_word).binds (ps := ["thing"]) fun _ _ _ _ _ _ us hl => match us, hl with | [_], _ => rfl⟩
  have S_need_word : Src K mg "need_word" s_need_word ["thing"] := ⟨f_need_word, _, PySem.W.mg_of X G g_need_word, fun_mk (st := s_need_word) l_need_word d_need_word p_need_word, (fun_mk (st := s_need_word) l_need_word d_need_word p_need_word).binds (ps := ["thing"]) fun _ _ _ _ _ _ us hl => match us, hl with | [_], _ => rfl⟩
  have S_turned : Src K mg "turned" s_turned ["word", "by"] := ⟨f_turned, _, PySem.W.mg_of X G g_turned, fun_mk (st := s_turned) l_turned d_turned p_turned, (fun_mk (st := s_turned) l_turned d_turned p_turned).binds (ps := ["word", "by"]) fun _ _ _ _ _ _ us hl => match us, hl with | [_, _], _ => rfl⟩
  have S_turnings : Src K mg "turnings" s_turnings ["word"] := ⟨f_turnings, _, PySem.W.mg_of X G g_turnings, fun_mk (st := s_turnings) l_turnings d_turnings p_turnings, (fun_mk (st := s_turnings) l_turnings d_turnings p_turnings).binds (ps := ["word"]) fun _ _ _ _ _ _ us hl => match us, hl with | [_], _ => rfl⟩
  have S_mirrored : Src K mg "mirrored" s_mirrored ["word"] := ⟨f_mirrored, _, PySem.W.mg_of X G g_mirrored, fun_mk (st := s_mirrored) l_mirrored d_mirrored p_mirrored, (fun_mk (st := s_mirrored) l_mirrored d_mirrored p_mirrored).binds (ps := ["word"]) fun _ _ _ _ _ _ us hl => match us, hl with | [_], _ => rfl⟩
  have S_ring_of : Src K mg "ring_of" s_ring_of ["word"] := ⟨f_ring_of, _, PySem.W.mg_of X G g_ring_of, fun_mk (st := s_ring_of) l_ring_of d_ring_of p_ring_of, (fun_mk (st := s_ring_of) l_ring_of d_ring_of p_ring_of).binds (ps := ["word"]) fun _ _ _ _ _ _ us hl => match us, hl with | [_], _ => rfl⟩
  have S_mirror_of : Src K mg "mirror_of" s_mirror_of ["word"] := ⟨f_mirror_of, _, PySem.W.mg_of X G g_mirror_of, fun_mk (st := s_mirror_of) l_mirror_of d_mirror_of p_mirror_of, (fun_mk (st := s_mirror_of) l_mirror_of d_mirror_of p_mirror_of).binds (ps := ["word"]) fun _ _ _ _ _ _ us hl => match us, hl with | [_], _ => rfl⟩
  have S_is_own_mirror : Src K mg "is_own_mirror" s_is_own_mirror ["word"] := ⟨f_is_own_mirror, _, PySem.W.mg_of X G g_is_own_mirror, fun_mk (st := s_is_own_mirror) l_is_own_mirror d_is_own_mirror p_is_own_mirror, (fun_mk (st := s_is_own_mirror) l_is_own_mirror d_is_own_mirror p_is_own_mirror).binds (ps := ["word"]) fun _ _ _ _ _ _ us hl => match us, hl with | [_], _ => rfl⟩
  have S__law_mixed : Src K mg "_law_mixed" s__law_mixed ["_law_cell", "_law_k"] := ⟨f__law_mixed, _, PySem.W.mg_of X G g__law_mixed, fun_mk (st := s__law_mixed) l__law_mixed d__law_mixed p__law_mixed, (fun_mk (st := s__law_mixed) l__law_mixed d__law_mixed p__law_mixed).binds (ps := ["_law_cell", "_law_k"]) fun _ _ _ _ _ _ us hl => match us, hl with | [_, _], _ => rfl⟩
  have S__law_number : Src K mg "_law_number" s__law_number ["_law_script", "_law_k"] := ⟨f__law_number, _, PySem.W.mg_of X G g__law_number, fun_mk (st := s__law_number) l__law_number d__law_number p__law_number, (fun_mk (st := s__law_number) l__law_number d__law_number p__law_number).binds (ps := ["_law_script", "_law_k"]) fun _ _ _ _ _ _ us hl => match us, hl with | [_, _], _ => rfl⟩
  have S__law_kind : Src K mg "_law_kind" s__law_kind ["_law_e"] := ⟨f__law_kind, _, PySem.W.mg_of X G g__law_kind, fun_mk (st := s__law_kind) l__law_kind d__law_kind p__law_kind, (fun_mk (st := s__law_kind) l__law_kind d__law_kind p__law_kind).binds (ps := ["_law_e"]) fun _ _ _ _ _ _ us hl => match us, hl with | [_], _ => rfl⟩
  have S__law_word : Src K mg "_law_word" s__law_word ["_law_script", "_law_at"] := ⟨f__law_word, _, PySem.W.mg_of X G g__law_word, fun_mk (st := s__law_word) l__law_word d__law_word p__law_word, (fun_mk (st := s__law_word) l__law_word d__law_word p__law_word).binds (ps := ["_law_script", "_law_at"]) fun _ _ _ _ _ _ us hl => match us, hl with | [_, _], _ => rfl⟩
  have S__law_least : Src K mg "_law_least" s__law_least ["_law_word_here"] := ⟨f__law_least, _, PySem.W.mg_of X G g__law_least, fun_mk (st := s__law_least) l__law_least d__law_least p__law_least, (fun_mk (st := s__law_least) l__law_least d__law_least p__law_least).binds (ps := ["_law_word_here"]) fun _ _ _ _ _ _ us hl => match us, hl with | [_], _ => rfl⟩
  have S__law_drawn : Src K mg "_law_drawn" s__law_drawn ["_law_script", "_law_at"] := ⟨f__law_drawn, _, PySem.W.mg_of X G g__law_drawn, fun_mk (st := s__law_drawn) l__law_drawn d__law_drawn p__law_drawn, (fun_mk (st := s__law_drawn) l__law_drawn d__law_drawn p__law_drawn).binds (ps := ["_law_script", "_law_at"]) fun _ _ _ _ _ _ us hl => match us, hl with | [_, _], _ => rfl⟩
  have S__law_refused : Src K mg "_law_refused" s__law_refused ["_law_way", "_law_thing"] := ⟨f__law_refused, _, PySem.W.mg_of X G g__law_refused, fun_mk (st := s__law_refused) l__law_refused d__law_refused p__law_refused, (fun_mk (st := s__law_refused) l__law_refused d__law_refused p__law_refused).binds (ps := ["_law_way", "_law_thing"]) fun _ _ _ _ _ _ us hl => match us, hl with | [_, _], _ => rfl⟩
  refine ⟨PySem.W.fnOf "law" "law" (defArgs s_law) (defBody s_law) (defScope s_law) .none kV_law dc_law pm_law an_law cd_law ct_law, fun s v => .of_eq rfl, fun base _ _ => ?_⟩
  have D__law_mixed := has__law_mixed (P := l.prog) (w := w) (base := base) T S__law_mixed
  have D__law_number := has__law_number (P := l.prog) (w := w) (base := base) T S__law_number D__law_mixed
  have D_is_word := has_is_word (P := l.prog) (w := w) (base := base) T S_is_word
  have D_need_word := has_need_word (P := l.prog) (w := w) (base := base) T S_need_word D_is_word
  have D_is_whole := has_is_whole (P := l.prog) (w := w) (base := base) T S_is_whole
  have D_turned := has_turned (P := l.prog) (w := w) (base := base) T S_turned D_need_word D_is_whole
  have D_turnings := has_turnings (P := l.prog) (w := w) (base := base) T S_turnings D_need_word D_turned
  have D__law_kind := has__law_kind (P := l.prog) (w := w) (base := base) T S__law_kind
  have D__law_word := has__law_word (P := l.prog) (w := w) (base := base) T S__law_word D__law_number
  have D_mirrored := has_mirrored (P := l.prog) (w := w) (base := base) T S_mirrored D_need_word
  have D_ring_of := has_ring_of (P := l.prog) (w := w) (base := base) T S_ring_of D_turnings
  have D_mirror_of := has_mirror_of (P := l.prog) (w := w) (base := base) T S_mirror_of D_mirrored D_ring_of
  have D_is_own_mirror := has_is_own_mirror (P := l.prog) (w := w) (base := base) T S_is_own_mirror D_mirror_of D_ring_of
  have D__law_least := has__law_least (P := l.prog) (w := w) (base := base) T S__law_least
  have D__law_drawn := has__law_drawn (P := l.prog) (w := w) (base := base) T S__law_drawn D__law_number D__law_word
  have D__law_refused := has__law_refused (P := l.prog) (w := w) (base := base) T S__law_refused D_mirror_of D_is_own_mirror D__law_kind
  exact ok_law T (fun_mk (st := s_law) l_law d_law p_law) D__law_number D__law_drawn D__law_least D_mirror_of D_is_own_mirror D__law_refused
end Br
open PySem PySem.W PyProof.Rows
set_option maxRecDepth 100000 in
set_option maxHeartbeats 0 in
theorem PySem.Challenge.cw_beadrings_k09_mirrors_holds : PySem.Challenge.rw_beadrings_k09_mirrors.Holds := by
  w_on; o_law; k_head; (case hw => w_witness2)
  k_fill
  refine L2.walk_ofK (l := PySem.Challenge.rw_beadrings_k09_mirrors) (n := 63) (k := 12) (x := "_law_script") (CX := L2.CX0) (sp := Br.sp_law) rfl (by decide) rfl ⟨rfl, by decide, by decide⟩ (fun w h Y => PySem.W.kIn_of Y) ?F Br.law_asked (fun _ _ _ _ z => z)
  case F =>
    intro w mg fa h KX G hmg
    refine' Br.all_mk KX G hmg ?h_b_ValueError ?h_b_all ?h_b_bool ?h_b_int ?h_b_isinstance ?h_b_len ?h_b_min ?h_b_range ?h_b_repr ?h_b_reversed ?h_b_str ?h_c_MOST_LETTERS ?r_c_MOST_LETTERS ?h_c_LETTERS ?r_c_LETTERS ?h_k_BeadError ?h_k_BadNumber ?h_k_BadRing ?h_k_BadWord ?h_k_NoRing ?h_k_TooMany ?h_x_BadWord ?h_p_BadWord ?h_s_BadWord ?h_y_BadWord ?h_x_BadNumber ?h_p_BadNumber ?h_s_BadNumber ?h_y_BadNumber ?h_ga_BadWord ?h_gg_BadWord ?h_hd_BadWord ?h_hc_BadWord ?h_mo_BadWord ?h_i_BadWord_BadNumber ?h_i_BadWord_BadRing ?h_i_BadWord_BadWord ?h_i_BadWord_NoRing ?h_i_BadWord_TooMany ?h_i_BadWord_V ?h_m_BadWord ?h_sp ?h_tk ?h_sE ?h_hE ?h_yE ?g_is_whole ?l_is_whole ?d_is_whole ?p_is_whole ?g_is_word ?l_is_word ?d_is_word ?p_is_word ?g_need_word ?l_need_word ?d_need_word ?p_need_word ?g_turned ?l_turned ?d_turned ?p_turned ?g_turnings ?l_turnings ?d_turnings ?p_turnings ?g_mirrored ?l_mirrored ?d_mirrored ?p_mirrored ?g_ring_of ?l_ring_of ?d_ring_of ?p_ring_of ?g_mirror_of ?l_mirror_of ?d_mirror_of ?p_mirror_of ?g_is_own_mirror ?l_is_own_mirror ?d_is_own_mirror ?p_is_own_mirror ?g__law_mixed ?l__law_mixed ?d__law_mixed ?p__law_mixed ?g__law_number ?l__law_number ?d__law_number ?p__law_number ?g__law_kind ?l__law_kind ?d__law_kind ?p__law_kind ?g__law_word ?l__law_word ?d__law_word ?p__law_word ?g__law_least ?l__law_least ?d__law_least ?p__law_least ?g__law_drawn ?l__law_drawn ?d__law_drawn ?p__law_drawn ?g__law_refused ?l__law_refused ?d__law_refused ?p__law_refused ?g_law ?l_law ?d_law ?p_law
    (case h_b_ValueError => k_is)
    (case h_b_all => k_is)
    (case h_b_bool => k_is)
    (case h_b_int => k_is)
    (case h_b_isinstance => k_is)
    (case h_b_len => k_is)
    (case h_b_min => k_is)
    (case h_b_range => k_is)
    (case h_b_repr => k_is)
    (case h_b_reversed => k_is)
    (case h_b_str => k_is)
    (case h_c_MOST_LETTERS => k_is)
    (case r_c_MOST_LETTERS => exact ⟨_, rfl⟩)
    (case h_c_LETTERS => k_is)
    (case r_c_LETTERS => exact ⟨_, rfl⟩)
    (case h_k_BeadError => k_is)
    (case h_k_BadNumber => k_is)
    (case h_k_BadRing => k_is)
    (case h_k_BadWord => k_is)
    (case h_k_NoRing => k_is)
    (case h_k_TooMany => k_is)
    (case h_x_BadWord => k_exc)
    (case h_p_BadWord => k_is)
    (case h_s_BadWord => k_is)
    (case h_y_BadWord => k_is)
    (case h_x_BadNumber => k_exc)
    (case h_p_BadNumber => k_is)
    (case h_s_BadNumber => k_is)
    (case h_y_BadNumber => k_is)
    (case h_ga_BadWord => k_is)
    (case h_gg_BadWord => k_is)
    (case h_hd_BadWord => k_is)
    (case h_hc_BadWord => k_is)
    (case h_mo_BadWord => k_is)
    (case h_i_BadWord_BadNumber => kit_is)
    (case h_i_BadWord_BadRing => kit_is)
    (case h_i_BadWord_BadWord => kit_is)
    (case h_i_BadWord_NoRing => kit_is)
    (case h_i_BadWord_TooMany => kit_is)
    (case h_i_BadWord_V => kit_is)
    (case h_m_BadWord => k_is)
    (case h_sp => k_is)
    (case h_tk => k_is)
    (case h_sE => k_is)
    (case h_hE => k_is)
    (case h_yE => k_is)
    (case g_is_whole => k_is)
    (case l_is_whole => k_is)
    (case d_is_whole => k_is)
    (case p_is_whole => k_is)
    (case g_is_word => k_is)
    (case l_is_word => k_is)
    (case d_is_word => k_is)
    (case p_is_word => k_is)
    (case g_need_word => k_is)
    (case l_need_word => k_is)
    (case d_need_word => k_is)
    (case p_need_word => k_is)
    (case g_turned => k_is)
    (case l_turned => k_is)
    (case d_turned => k_is)
    (case p_turned => k_is)
    (case g_turnings => k_is)
    (case l_turnings => k_is)
    (case d_turnings => k_is)
    (case p_turnings => k_is)
    (case g_mirrored => k_is)
    (case l_mirrored => k_is)
    (case d_mirrored => k_is)
    (case p_mirrored => k_is)
    (case g_ring_of => k_is)
    (case l_ring_of => k_is)
    (case d_ring_of => k_is)
    (case p_ring_of => k_is)
    (case g_mirror_of => k_is)
    (case l_mirror_of => k_is)
    (case d_mirror_of => k_is)
    (case p_mirror_of => k_is)
    (case g_is_own_mirror => k_is)
    (case l_is_own_mirror => k_is)
    (case d_is_own_mirror => k_is)
    (case p_is_own_mirror => k_is)
    (case g__law_mixed => k_is)
    (case l__law_mixed => k_is)
    (case d__law_mixed => k_is)
    (case p__law_mixed => k_is)
    (case g__law_number => k_is)
    (case l__law_number => k_is)
    (case d__law_number => k_is)
    (case p__law_number => k_is)
    (case g__law_kind => k_is)
    (case l__law_kind => k_is)
    (case d__law_kind => k_is)
    (case p__law_kind => k_is)
    (case g__law_word => k_is)
    (case l__law_word => k_is)
    (case d__law_word => k_is)
    (case p__law_word => k_is)
    (case g__law_least => k_is)
    (case l__law_least => k_is)
    (case d__law_least => k_is)
    (case p__law_least => k_is)
    (case g__law_drawn => k_is)
    (case l__law_drawn => k_is)
    (case d__law_drawn => k_is)
    (case p__law_drawn => k_is)
    (case g__law_refused => k_is)
    (case l__law_refused => k_is)
    (case d__law_refused => k_is)
    (case p__law_refused => k_is)
    (case g_law => k_is)
    (case l_law => k_is)
    (case d_law => k_is)
    (case p_law => k_is)

import PyProof.Rows.All
import Wide.All
import OpenK.AllK
import Wide.FinOn
import HandS.ForMost
import HandS.ForExc
import HandS.Evl
import HandS.Codes
import HandS.IsInst
import HandS.ExcIs
import HandS.ExcValue
import HandS.Style
import HandS.StrMore
import HandS.Walk
import HandS.RevTup
import HandS.MapJoin
import PyProof.Rows.StrRev
import KE.RegKIsAll
import PySem.Challenge.RW_beadrings_k05_whole_one_way
set_option Elab.async false
set_option linter.all false
set_option maxRecDepth 100000
set_option maxHeartbeats 2000000
set_option Elab.async false
set_option linter.all false
set_option maxRecDepth 100000
set_option maxHeartbeats 2000000
namespace Br
open PySem PySem.Spec PyProof.Rows L2 Evl SX

/-! ### a def of the text, and what it keeps -/
def Src (K : PySem.W.Frag) (mg : Str → Option Value) (x : Str) (st : Stmt) (ps : List Str) : Prop :=
  ∃ (f : Addr) (fd : FuncData), mg x = some (.ref f) ∧ Fun K x x st f fd ∧ Binds K fd ps []
def Has (P : Program) (w : World) (K : PySem.W.Frag) (mg : Str → Option Value) (base : Heap) (C : CXT) (k : Nat) (x : Str) (ps : List Str) (sp : Sp) : Prop :=
  ∃ (f : Addr) (fd : FuncData), mg x = some (.ref f) ∧ PySem.W.keepIn K (.ref f) = true ∧ Binds K fd ps [] ∧ FnOk P w K mg base C k f fd ps sp
section
variable {X : Cx} {C : CXT} {k : Nat} {ps : List Str} {sp : Sp} {E : XK} {x : Str} {p pos : Pos} {e : Expr} {es : List Expr} {t : TA}
theorem pe_has (D : Has X.prog X.w X.K X.mg X.base C k x ps sp) (hr : Room k X.A) (hg : Gl X x) (hx : Passes C X E) (ha : PA X (e :: es) t)
    (hdb : (x == ("__debug__" : Str)) = false := by decide) (he : starEach (e :: es) X.env = (false, eval e X.env) :: starEach es X.env := by rfl) (hpl : (backTo pos (starEach es X.env)).any (·.1) = false := by rfl) :
    PE X (.Call (.Name x p) (e :: es) [] pos) (tCall sp [] E t) := by
  obtain ⟨f, fd, gm, kp, b, F⟩ := D
  exact pe_call F hr hg gm kp b .nil hx ha hdb he hpl
theorem pe_hasS {E : L2.St → XK} (D : Has X.prog X.w X.K X.mg X.base C k x ps sp) (hr : Room k X.A) (hg : Gl X x) (hx : ∀ σ, PassesAt C X σ (E σ)) (ha : PA X (e :: es) t)
    (hdb : (x == ("__debug__" : Str)) = false := by decide) (he : starEach (e :: es) X.env = (false, eval e X.env) :: starEach es X.env := by rfl) (hpl : (backTo pos (starEach es X.env)).any (·.1) = false := by rfl) :
    PE X (.Call (.Name x p) (e :: es) [] pos) (tCallS sp E t) := by
  obtain ⟨f, fd, gm, kp, b, F⟩ := D
  exact pe_callS F hr hg gm kp b hx ha hdb he hpl
end

/-! ### texts as lists of signs -/
theorem flat_fold : ∀ (n : Nat) (l : List Nat) (acc : Array Nat), ((List.replicate n l.toArray).foldl (fun a b => a ++ b) acc).toList = acc.toList ++ (List.replicate n l).flatten
  | 0, l, acc => by simp
  | n + 1, l, acc => by
    rw [List.replicate_succ, List.replicate_succ, List.foldl_cons, flat_fold n l (acc ++ l.toArray)]
    simp
theorem mul_S {l : List Nat} {n : Nat} : Txt.mul (S l) (n : Int) = S (List.replicate n l).flatten := by
  unfold Txt.mul
  cases n with
  | zero =>
    rw [if_pos (by decide)]
    rfl
  | succ m =>
    rw [if_neg (by omega)]
    by_cases c : (((m + 1 : Nat) : Int) == 1 || (S l).length == 0) = true
    · rw [if_pos c]
      rcases Bool.or_eq_true _ _ ▸ c with c | c
      · have e : m = 0 := by
          have := eq_of_beq c
          omega
        subst e
        simp
      · have e : l = [] := by
          have := eq_of_beq c
          rw [S_len] at this
          exact List.length_eq_zero_iff.mp this
        subst e
        simp
    · rw [if_neg c]
      refine TL.ext_tl ?_
      show ((List.replicate ((m + 1 : Nat) : Int).toNat l.toArray).foldl (fun a b => a ++ b) #[]).toList = _
      rw [Int.toNat_natCast, flat_fold]
      rfl
/-- a text times a number -/
def rMulS : R2 := fun x y H Q => ∃ (l : List Nat) (n : Nat), x = .str (S l) ∧ y = .int (n : Int) ∧ n ≤ 1000 ∧ l.length ≤ 1000 ∧ Q (.str (S (List.replicate n l).flatten)) H
theorem op_mulS {X : Cx} : OpR X (binaryOp .Mult) rMulS := by
  intro pins s σ H x y v u Q I rx ry h
  obtain ⟨l, n, rfl, rfl, h1, h2, q⟩ := h
  obtain ⟨t, rfl⟩ := rx
  obtain ⟨t', rfl⟩ := ry
  have hl : (S l).length = l.length := S_len l
  have hp : l.length * n ≤ 1000 * 1000 := Nat.mul_le_mul h2 h1
  refine SB.mul ⟨?_, fun a _ => ?_, fun a _ => ?_⟩ fun t2 k => ⟨.str (S (List.replicate n l).flatten), H, I.tok _, ⟨t2, by rw [mul_S]⟩, q⟩
  · rw [decide_eq_false (by omega : ¬ (n : Int) < -(2 ^ 63 : Int)), decide_eq_false (by omega : ¬ (n : Int) ≥ 2 ^ 63)]
    rfl
  · rw [hl]
    have : (1000 : Int) ≤ (2 ^ 63 - 1) / (n : Int) := (Int.le_ediv_iff_mul_le (by omega)).mpr (by omega)
    omega
  · rw [hl, Int.toNat_natCast]
    unfold Builtin.Str.tooLong
    rw [sizeLine_eq]
    exact decide_eq_false (by omega)

/-- z[::-1] -/
def tRevS (te : TE) : TE := fun σ H Q => te σ H fun x H1 => ∃ l : List Nat, x = .str (S l) ∧ l.length ≤ 100000 ∧ Q (.str (S l.reverse)) H1
theorem rev_get (l : List Nat) : (List.range l.length).map (fun k => l.toArray.getD (l.length - 1 - k) 0) = l.reverse := by
  refine List.ext_getElem (by simp) fun i h1 h2 => ?_
  simp at h1 h2
  have h3 : l.length - 1 - i < l.length := by omega
  simp [h3]
theorem picked_S (l : List Nat) : (⟨((Builtin.Str.strSliceIndices none none (-1) (S l).length).filterMap ((S l).cps[·]?)).toArray⟩ : Str) = S l.reverse := by
  refine TL.ext_tl ?_
  show ((Builtin.Str.strSliceIndices none none (-1) (S l).length).filterMap (l.toArray[·]?)) = l.reverse
  rw [S_len, PyProof.Rows.picked_rev, PyProof.Rows.filterMap_get, List.map_map]
  · exact rev_get l
  · intro i hi
    obtain ⟨k, hk, rfl⟩ := List.mem_map.mp hi
    have := List.mem_range.mp hk
    show l.length - 1 - k < l.toArray.size
    rw [List.size_toArray]
    omega
theorem pe_revS {X : Cx} {e : Expr} {te : TE} {k : Nat} {p1 p2 p3 pos : Pos} (he : PE X e te) : PE X (.Subscript e (.Slice none none (some (.UnaryOp .USub (.Constant (.int 1) k p1) p2)) p3) pos) (tRevS te) := by
  constructor
  intro pins s σ H Q I h
  refine Subscript_ (thn (he.run pins s σ H _ I h) ?_)
  rintro v s1 ⟨x, H1, I1, r1, l, rfl, hl, q⟩
  obtain ⟨t, rfl⟩ := r1
  have hst : PO X (some (.UnaryOp .USub (.Constant (.int 1) k p1) p2)) (tPart (tUn (rU fun i => .int (-i)) (tC (.int 1)))) := po_some (pe_un un_neg pe_int)
  refine wpAny_Slice (thn (po_none.run pins s1 σ H1 (fun o G => o = none ∧ G = H1) I1 ⟨rfl, rfl⟩) ?_)
  rintro vl s2 ⟨_, _, I2, pl, rfl, rfl⟩
  refine thn (po_none.run pins s2 σ _ (fun o G => o = none ∧ G = _) I2 ⟨rfl, rfl⟩) ?_
  rintro vu s3 ⟨_, _, I3, pu, rfl, rfl⟩
  refine thn (hst.run pins s3 σ _ (fun o G => o = some (-1) ∧ G = _) I3 ⟨1, rfl, -1, rfl, rfl, rfl⟩) ?_
  rintro vs s4 ⟨_, _, I4, pz, rfl, rfl⟩
  obtain ⟨a1, rfl, e1⟩ := IsPart.raw pl
  obtain ⟨a2, rfl, e2⟩ := IsPart.raw pu
  obtain ⟨a3, rfl, e3⟩ := IsPart.raw pz
  have I5 : Inv X pins σ _ { s4 with heap := s4.heap.push { cls := .type "slice", data := .fields #[partValue a1, partValue a2, partValue a3] } } := I4.kept (t' := s4.toks) fun b ob z => Heap.get?_push_of_some _ z
  refine tail_any (ops := [.str (S l) t, .ref s4.heap.objs.size]) (typeIs_str _ _ _) (F.slot_str_getitem.lookup) ?_ (by with_unfolding_all rfl)
  refine wpAny_getItem_str_slice (l := a1) (u := a2) (st := a3) ⟨_, Heap.get?_push_size _ rfl, rfl, rfl⟩ (by rw [e3]; rfl) ?_
  unfold sliceMade slicePicked
  rw [e1, e2, e3]
  rw [if_neg (by simp)]
  show Made.post (Made.str ⟨((Builtin.Str.strSliceIndices none none (-1) (S l).length).filterMap ((S l).cps[·]?)).toArray⟩) _ _
  rw [picked_S]
  exact ⟨by rw [S_len, List.length_reverse, sizeLine_eq]; omega, .str _, _, I5.tok _, ⟨_, rfl⟩, q⟩

/-! ### repr of plain values -/
def reprV : V → Str
  | .non => "None"
  | .bl b => if b then "True" else "False"
  | .int i => toString i
  | .str z => reprText z
  | _ => ""
def plainR : V → Prop
  | .non => True
  | .bl _ => True
  | .int i => i.natAbs.log2 < 1920
  | .str z => (reprText z).length ≤ sizeLine
  | _ => False
def rRepr : List V → Hp → VK → Prop := fun xs H Q => ∃ v, xs = [v] ∧ plainR v ∧ Q (.str (reprV v)) H
theorem call_repr {X : Cx} : CallR X (.builtin "repr") rRepr := by
  intro pins s σ H xs us Q I r h
  obtain ⟨v, rfl, hv, q⟩ := h
  obtain ⟨u, rfl, ru⟩ := vals1 r
  cases v with
  | non =>
    cases ru
    exact PySem.P.repr_of_none ⟨.str _, H, I.tok _, ⟨_, rfl⟩, q⟩
  | bl b =>
    cases ru
    exact PySem.P.repr_of_bool ⟨.str _, H, I.tok _, ⟨_, rfl⟩, q⟩
  | int i =>
    obtain ⟨t, rfl⟩ := ru
    exact PySem.P.repr_of_int hv ⟨.str _, H, I.tok _, ⟨_, rfl⟩, q⟩
  | str z =>
    obtain ⟨t, rfl⟩ := ru
    exact PySem.P.repr_of_str ⟨.str _, H, I.tok _, ⟨_, rfl⟩, q⟩ hv
  | byt _ => exact hv.elim
  | flt _ => exact hv.elim
  | ref _ => exact hv.elim
  | ty _ => exact hv.elim

/-! ### the least of a list of texts -/
theorem best_lt (val : Nat → List Nat) : ∀ n, argBest (fun i j => decide (val i < val j)) n ≤ n ∧ ∀ j, j ≤ n → ¬ val j < val (argBest (fun i j => decide (val i < val j)) n)
  | 0 => ⟨Nat.le_refl _, fun j hj => by
    have e : j = 0 := by omega
    subst e
    exact List.lt_irrefl _⟩
  | n + 1 => by
    obtain ⟨h1, h2⟩ := best_lt val n
    unfold argBest
    by_cases c : val (n + 1) < val (argBest (fun i j => decide (val i < val j)) n)
    · rw [if_pos (decide_eq_true c)]
      refine ⟨Nat.le_refl _, fun j hj => ?_⟩
      by_cases hn : j ≤ n
      · exact fun z => h2 j hn (List.lt_trans z c)
      · have e : j = n + 1 := by omega
        subst e
        exact List.lt_irrefl _
    · rw [if_neg (by rw [decide_eq_false c]; decide)]
      refine ⟨by omega, fun j hj => ?_⟩
      by_cases hn : j ≤ n
      · exact h2 j hn
      · have e : j = n + 1 := by omega
        subst e
        exact c
def rMinS (K : PySem.W.Frag) : List V → Hp → VK → Prop := fun vs H Q => ∃ (a : Addr) (ys : List (List Nat)), vs = [.ref a] ∧ SqL K H a (ys.map fun l => V.str (S l)) ∧ ys ≠ [] ∧
  ∀ m, m ∈ ys → (∀ y ∈ ys, ¬ y < m) → Q (.str (S m)) H
theorem cr_minS {X : Cx} (hc : X.calm = true) : CallR X (.builtin "min") (rMinS X.K) := by
  intro pins s σ H vs us Q I r h
  obtain ⟨a, ys, rfl, hs, hne, q⟩ := h
  obtain ⟨its, rv, hl, _⟩ := I.list hs
  rw [Vals.ref1 r]
  have hlen : its.length = ys.length := by rw [← rv.length, List.length_map]
  have hpos : 0 < ys.length := List.length_pos_iff.mpr hne
  have hlI := hl.isList
  have hlt : a < s.heap.objs.size := by
    obtain ⟨_, e, _⟩ := hlI
    exact Heap.lt_size e
  have at_ : ∀ (i : Nat) (v : Value), its.toArray[i]? = some v → ∃ t, v = .str (S (ys.getD i [])) t := by
    intro i v hv
    have hv' : its[i]? = some v := by simpa using hv
    have hi : i < ys.length := by
      rw [← hlen]
      exact (List.getElem?_eq_some_iff.mp hv').1
    obtain ⟨u, e1, e2⟩ := rv.get (i := i) (x := .str (S ys[i])) (by simp [hi])
    rw [hv'] at e1
    cases e1
    obtain ⟨t, rfl⟩ := e2
    exact ⟨t, by simp [hi]⟩
  refine call_min_walk (wpAny_pyIter_list hlI ?_)
  refine ⟨_, _, _, _, _, _, (fun i j => decide (ys.getD i [] < ys.getD j [])), rfl, Walks.list (A := X.A.in1) (I.ok.hd hc) s.heap.objs.size a (Nat.ne_of_lt hlt) its.toArray, ⟨⟨_, Heap.get?_push_size _ rfl, rfl, rfl⟩, hlI.push _⟩, ?_, by simpa [hlen] using hpos, ?_, ?_⟩
  · intro b hb
    show b < (s.heap.push _).objs.size
    rw [Heap.size_push]
    rcases List.mem_cons.mp hb with rfl | hb
    · exact Nat.lt_succ_self _
    · rcases List.mem_cons.mp hb with rfl | hb
      · exact Nat.lt_succ_of_lt hlt
      · cases hb
  · intro i j vi vj s2 Q2 E2 hi hj hq
    obtain ⟨t, rfl⟩ := at_ i vi hi
    obtain ⟨u, rfl⟩ := at_ j vj hj
    exact richCompare_gives (op := .Lt) (typeIs_str s2 _ t) (typeIs_str s2 _ u) F.slot_str_lt F.entry_str_lt (F.args_str_lt_2 _ _) (gives_str_lt _ _ t u) (fun x => nomatch x) hq
  · intro v h' tk hv hk
    obtain ⟨b1, b2⟩ := best_lt (fun i => ys.getD i []) (its.toArray.size - 1)
    have hsz : its.toArray.size = ys.length := by rw [List.size_toArray, hlen]
    obtain ⟨t, rfl⟩ := at_ _ v hv
    refine ⟨.str _, H, I.kept (t' := tk) fun b o e => hk b o (fun z => ?_) (Heap.get?_push_of_some _ e), ⟨t, rfl⟩, q _ ?_ fun y hy => ?_⟩
    · have z' : b = s.heap.objs.size := by simpa using z
      subst z'
      exact absurd (Heap.lt_size e) (Nat.lt_irrefl _)
    · have : argBest (fun i j => decide (ys.getD i [] < ys.getD j [])) (its.toArray.size - 1) < ys.length := by omega
      rw [List.getD_eq_getElem?_getD, List.getElem?_eq_getElem this]
      exact List.getElem_mem _
    · obtain ⟨j, hj, rfl⟩ := List.mem_iff_getElem.mp hy
      have e := b2 j (by omega)
      rw [List.getD_eq_getElem?_getD, List.getElem?_eq_getElem hj] at e
      exact e
end Br
namespace Br
open PySem PySem.Spec PyProof.Rows L2 Evl SX

/-! ### an exception that was caught and is held by a name behind the suite -/
def exH (cls : Value) (d : Option Addr) (a : Addr) : HO := .ext fun h => ∃ (oe : Obj) (vs : Array Value), h.get? a = some oe ∧ Zc cls d oe ∧ oe.data = .fields vs
section
variable {X : Cx} {pins : List (Addr × Obj)} {σ : L2.St} {H : Hp} {s : Shared}
/-- an object that nobody tracked, younger than the entry, is tracked from now on -/
theorem track_one {a : Addr} {o : HO} (I : Inv X pins σ H s) (na : H a = none) (young : X.s_0.heap.get? a = none) (nL : a ≠ X.env.locals) (np : ∀ p ∈ X.pn ++ pins, p.1 ≠ a) (nc : ∀ v, ¬ s.heap.IsCell a v)
    (new : ObjOk X.prog X.w (upd H a o) s.heap a o) : Inv X pins σ (upd H a o) s := by
  have far : ∀ b ob, X.s_0.heap.get? b = some ob → b ≠ a := fun b ob e z => by
    rw [z, young] at e
    cases e
  refine ⟨I.ok, I.os, I.bare, ⟨I.base.keep, I.base.slot, fun b ob e n hx => ?_, I.base.there, fun b xs e => ?_, fun b ob u e => ?_, fun b q e => ?_⟩, I.loc, I.cell, ?_, fun x c e => ?_, fun p hp => ?_, I.hok.laidN (fun _ _ z => z) na new, I.len⟩
  · rw [upd_ne (far b ob e)]
    exact I.base.free b ob e n hx
  · rw [upd_ne (ne_of_none (I.base.tups b xs e) na)]
    exact I.base.tups b xs e
  · rw [upd_ne (ne_of_none (I.base.frzs b ob u e) na)]
    exact I.base.frzs b ob u e
  · obtain ⟨m, z⟩ := I.base.tbls b q e
    exact ⟨m, by rw [upd_ne (ne_of_none z na)]; exact z⟩
  · rw [upd_ne (Ne.symm nL)]
    exact I.free
  · have hca : c ≠ a := fun z => by
      obtain ⟨v, hv⟩ := I.cell x c e
      rw [z] at hv
      exact nc v hv
    rw [upd_ne hca]
    exact I.freeC x c e
  · obtain ⟨e, n, r⟩ := I.pin p hp
    exact ⟨e, by rw [upd_ne (np p hp)]; exact n, r⟩
end

/-- what «except x as n: m = n» wishes of an exception of the body that it names: slot i is n's, slot j is m's -/
def wHeld (K : PySem.W.Frag) (c : Value) (i j : Nat) (D : Ends) : WX := fun cls d σ H =>
  PySem.W.exmOne K cls c = some true ∧ ∀ a, H a = none → D.nx (((σ.set i (some (.ref a))).set j (some (.ref a))).set i none) (upd H a (exH cls d a))
section
variable {X : Cx} {x n m : Str} {c : Value} {i j : Nat} {body : List Stmt} {np mp p2 p3 pos pos' : Pos} {tb : WX → TS}
theorem ps_try_held (stk : X.stack = X.env :: X.outer) (frm : X.env.frame = some X.env.locals) (hex : X.ex = []) (hN : X.N.Nodup) (hi : X.N[i]? = some n) (hj : X.N[j]? = some m) (hln : X.env.kindOf n = some .local) (hlm : X.env.kindOf m = some .local) (hij : i < X.N.length)
    (nam : Names X x c)
    (hb : ∀ (W : WX) (q : List (Addr × Obj)) (xe : Value → Shared → Prop), Takes (X.tr q xe) W → PassesOwn (model X.prog X.w) X.A X.env xe → PSs (X.tr q xe) body (tb W)) (hd : (n == ("__debug__" : Str)) = false := by decide) (hcd : (n == ("__classdict__" : Str)) = false := by decide) :
    PS X (.Try body [.ExceptHandler (some (.Name x np)) (some n) [.Assign [.Name m mp] (.Name n p2) p3] pos'] [] [] pos) (fun D σ H => tb (wHeld X.K c i j D) D σ H) := by
  constructor
  intro pins s σ H D I h
  have good := I.ok
  have around : X.A.frames = some (X.env :: X.outer) := good.frames.trans (congrArg some stk)
  have here : Loc X.env.scope n := Or.inl hln
  refine wpAny_Try_except ?_
  let clause : List ExceptHandler := [.ExceptHandler (some (.Name x np)) (some n) [.Assign [.Name m mp] (.Name n p2) p3] pos']
  let air : Value → Shared → Prop := fun e s₁ => wpAny (model X.prog X.w) X.A (noteFrame e X.env) (fun _ s₂ => wpAny (model X.prog X.w) X.A (setFlight e none) (fun _ s₃ => wpAny (model X.prog X.w) X.A (handleBy e X.env clause) (SP X pins D) X.xe s₃) X.xe s₂) X.xe s₁
  have caught : Takes (X.tr (X.pn ++ pins) air) (wHeld X.K c i j D) := by
    rintro u s' ⟨a, B, sI, pins', σ', H', cls, d, rfl, J0, nb, up, sky, na, os, ag, hit, go⟩
    have J : Inv X pins σ' H' sI := J0.ofTry good
    have sky1 : Sky B (X.env :: X.outer) a (Zc cls d) X.env.locals s'.heap := by
      rw [← stk]
      exact sky
    show wpAny (model X.prog X.w) X.A (noteFrame (.ref a) X.env) _ _ _
    refine Sky.land Zc.steady around frm sky1 fun h3 fl3 up3 => ?_
    have J3 : Inv X pins σ' H' { s' with heap := h3 } := J.landed nb fl3.1 (up.trans up3) os ag
    obtain ⟨o3, v3, g3, z3, d3⟩ := fl3.there
    have off : a ∉ frs (X.env :: X.outer) := fun hm => by
      obtain ⟨_, o', e', hnf⟩ := fl3.2.2.1.mem hm
      rw [g3] at e'
      cases e'
      exact hnf _ d3
    have nL : a ≠ X.env.locals := fun z => off (List.mem_filterMap.mpr ⟨X.env, List.mem_cons_self, by rw [frm, z]⟩)
    have nF : a ∉ X.fs := fun hm => by
      obtain ⟨en, hen, q⟩ := List.mem_filterMap.mp hm
      exact off (List.mem_filterMap.mpr ⟨en, List.mem_cons_of_mem _ hen, q⟩)
    -- nothing stood there before
    have noI : sI.heap.get? a = none := by
      cases e : sI.heap.get? a with
      | none => rfl
      | some o =>
        have z := nb a o e (by rw [stk]; exact off)
        rw [fl3.2.1] at z
        cases z
    have young : X.s_0.heap.get? a = none := by
      cases e : X.s_0.heap.get? a with
      | none => rfl
      | some o =>
        obtain ⟨o', z⟩ := J.base.there a o e (by rw [hex]; exact fun q => nomatch q)
        rw [noI] at z
        cases z
    have pinsOff : ∀ p ∈ X.pn ++ pins, p.1 ≠ a := fun p hp z => by
      have q := (J.pin p hp).1
      rw [z, noI] at q
      cases q
    have S3 := J3.suite g3 d3 na nL nF
    refine wpAny_handleBy_cons (codeAny_handlers_test ?_) (by intro q; cases q)
    have tells : PySem.W.Looks (model X.prog X.w) h3 (typeOf (.ref a)) cls := fun A Q E s k q => wpAny_typeOf_ref (k _ _ g3) (by rw [z3.1]; exact q)
    have named := PySem.W.exm_one (M := model X.prog X.w) J3.kIn tells hit
    have look : ∀ {Q : Value → Shared → Prop} {E : Value → Shared → Prop}, Q c { s' with heap := h3 } → wpAny (model X.prog X.w) (X.A.mark (some (.ref a))) (eval (.Name x np) X.env) Q E { s' with heap := h3 } := fun {Q E} q => by
      obtain ⟨hg, hdbg, hm | ⟨hm, hv, hnn⟩⟩ := nam
      · exact ld_glob (X := X.suite a ((a, o3) :: (X.pn ++ pins))) S3 hg hm q hdbg
      · exact ld_blt (X := X.suite a ((a, o3) :: (X.pn ++ pins))) S3 hg hm hv q hnn hdbg
    refine look (named.here ?_)
    refine codeAny_handlers_suite_as ?_
    refine HandSPX.lands_againZ fl3 fun h4 fl4 up4 => ?_
    have J4 : Inv X pins σ' H' { s' with heap := h4 } := J.landed nb fl4.1 ((up.trans up3).trans up4) os ag
    obtain ⟨o4, v4, g4, z4, d4⟩ := fl4.there
    have S4 := J4.suite g4 d4 na nL nF
    refine store_ok (X := X.suite a ((a, o4) :: (X.pn ++ pins))) (v := .ref a) S4 hN hi here rfl (fun s5 S5 => ?_) (.inr hln)
    have one : PSs (X.suite a ((a, o4) :: (X.pn ++ pins))) [.Assign [.Name m mp] (.Name n p2) p3] (tAsg (tVar i) (gName j)) :=
      pss_one (ps_set (X := X.suite a ((a, o4) :: (X.pn ++ pins))) (i := j) hN hj (Or.inl hlm) (pe_var (i := i) hi (Or.inl hln) hd hcd) (by rfl) (Or.inr hlm))
    have hσ : (σ'.set i (some (V.ref a)))[i]? = some (some (V.ref a)) := by
      have : i < σ'.length := by
        rw [J.len]
        exact hij
      simp [this]
    refine wpAny_mono (one.run [] s5 _ H' { D with nx := fun σ6 H6 => σ6 = (σ'.set i (some (.ref a))).set j (some (.ref a)) ∧ H6 = H', rt := fun _ _ => False, bk := fun _ _ => False, ct := fun _ _ => False } S5 ⟨.ref a, hσ, rfl, rfl⟩) (fun f s6 hsp => ?_) (fun _ _ z => False.elim z)
    cases f with
    | next =>
      obtain ⟨σ6, H6, S6, rfl, rfl⟩ := hsp
      have g6 : s6.heap.get? a = some o4 := (S6.pin (a, o4) (List.mem_append_left _ List.mem_cons_self)).1
      have J6 : Inv X pins _ H6 s6 := S6.unsuite good
      have noCell : ∀ v, ¬ s6.heap.IsCell a v := fun v hv => by
        obtain ⟨oc, e1, e2⟩ := hv
        rw [g6] at e1
        cases e1
        rw [d4] at e2
        cases e2
      have ob : ObjOk X.prog X.w (upd H6 a (exH cls d a)) s6.heap a (exH cls d a) := ⟨⟨o4, v4, g6, z4, d4⟩, ⟨o4, g6⟩, fun _ _ ⟨o, w, q, r⟩ k => ⟨o, w, k o q, r⟩⟩
      have J7 := track_one J6 na young nL pinsOff noCell ob
      exact gone_ok J7 hN hi hln fun s7 J8 => ⟨_, _, J8, go a na⟩
    | brk =>
      obtain ⟨_, _, _, z⟩ := hsp
      exact z.elim
    | cont =>
      obtain ⟨_, _, _, z⟩ := hsp
      exact z.elim
    | ret u =>
      obtain ⟨_, _, _, _, _, z⟩ := hsp
      exact z.elim
  refine wpAny_mono ((hb (wHeld X.K c i j D) (X.pn ++ pins) air caught PassesOwn.looking).run [] s σ H D (I.toTry _) h) (fun f s1 hsp => ?_) (fun e s1 he => he)
  cases f with
  | next =>
    obtain ⟨σ', H', J', q⟩ := hsp
    exact wpAny_execs_nil ⟨σ', H', J'.ofTry good, q⟩
  | brk =>
    obtain ⟨σ', H', J', q⟩ := hsp
    exact ⟨σ', H', J'.ofTry good, q⟩
  | cont =>
    obtain ⟨σ', H', J', q⟩ := hsp
    exact ⟨σ', H', J'.ofTry good, q⟩
  | ret u =>
    obtain ⟨v, σ', H', J', r, q⟩ := hsp
    exact ⟨v, σ', H', J'.ofTry good, r, q⟩
end

/-- isinstance(e, c), e an exception that is held -/
def rIsX (K : PySem.W.Frag) (D : Addr) : List V → Hp → VK → Prop := fun xs H Q => ∃ (a : Addr) (c : V) (u : Value) (b : Bool), xs = [.ref a, c] ∧ H a = some (exH (.ref D) none a) ∧ ClsV c u ∧ PySem.W.kitOne K (.ref D) u = some b ∧ Q (.bl b) H
theorem call_isX {X : Cx} {D : Addr} (C : ExcC X.K D) : CallR X (.builtin "isinstance") (rIsX X.K D) := by
  intro pins s σ H xs us Q I r h
  obtain ⟨a, c, u, b, rfl, ha, hc, e, q⟩ := h
  obtain ⟨u1, u2, rfl, r1, r2⟩ := vals2 r
  have e2 := hc.eq r2
  subst e2
  cases r1
  obtain ⟨⟨oe, vs, g, z, dv⟩, _, _⟩ := I.hok a _ ha
  have J : PySem.W.InstAt s.heap a oe D none := by
    obtain ⟨oc, od, oda, osl⟩ := oe
    obtain ⟨h1, h2⟩ := z
    dsimp only at h1 h2 dv
    subst h1 h2 dv
    exact ⟨g, rfl, rfl, trivial⟩
  exact PySem.W.kia_one (PySem.W.handS_kitx_exc C.hg C.hk C.hs C.hd C.ha C.hn C.ht C.hm) I.kIn J e (fun z => nomatch z) fun tk => ⟨.bl b, H, I.tok tk, rfl, q⟩
end Br
namespace Br
open PySem PySem.Spec PyProof.Rows L2 Evl SX

/-! ### evaluation: texts, calls, kinds of things -/
section
variable {K : PySem.W.Frag} {σ : L2.St} {H H' : Hp} {ta tb tc te : TE} {tl th : TO} {x y z v : V} {r r' : R2}
theorem tl_S (l : List Nat) : (S l).cps.toList = l := rfl
theorem sz_txt {l : List Nat} (h : l.length ≤ 100000) : (S l).length ≤ sizeLine := by
  rw [S_len]
  exact sz_of h
/-- a module's constant -/
theorem pe_globC {X : Cx} {x : Str} {v : V} {pos : Pos} (hg : Gl X x) (h : ∃ u, X.mg x = some u ∧ RelV v u) (hd : (x == ("__debug__" : Str)) = false := by decide) : PE X (.Name x pos) (tC v) := by
  obtain ⟨u, hm, hv⟩ := h
  exact pe_glob hg hm hv hd
theorem ev_cS {z : Str} {l : List Nat} (e : z = S l) : Ev (tC (.str z)) σ H (.str (S l)) := by
  rw [e]
  exact ev_c
/-- isinstance, the written part named -/
theorem call_isiK' {X : Cx} {K : PySem.W.Frag} (h : X.K = K) : CallR X (.builtin "isinstance") (rIsi K) := by
  rw [← h]
  exact call_isi
def rCatS : R2 := fun x y H Q => ∃ i j, x = .str i ∧ y = .str j ∧ i.length + j.length ≤ sizeLine ∧ Q (.str (i ++ j)) H
theorem rv_catS {a b : List Nat} (h : a.length + b.length ≤ 100000) : RV rCatS (.str (S a)) (.str (S b)) H (.str (S (a ++ b))) := fun H1 _ Q q =>
  ⟨S a, S b, rfl, rfl, by rw [S_len, S_len]; exact sz_of h, by rw [S_cat]; exact q H1 (Ex.refl H1)⟩
theorem rv_mulS {l : List Nat} {n : Nat} {i : Int} (e : i = (n : Int)) (h1 : n ≤ 1000) (h2 : l.length ≤ 1000) : RV rMulS (.str (S l)) (.int i) H (.str (S (List.replicate n l).flatten)) := fun H1 _ Q q =>
  ⟨l, n, rfl, by rw [e], h1, h2, q H1 (Ex.refl H1)⟩
def rLtS : R2 := fun x y H Q => ∃ i j, x = .str i ∧ y = .str j ∧ Q (.bl (decide (i.cps.toList < j.cps.toList))) H
theorem rv_ltS {a b : List Nat} : RV rLtS (.str (S a)) (.str (S b)) H (.bl (decide (a < b))) := fun H1 _ _ q => ⟨S a, S b, rfl, rfl, q H1 (Ex.refl H1)⟩
def rLeS : R2 := fun x y H Q => ∃ i j, x = .str i ∧ y = .str j ∧ Q (.bl (!decide (j.cps.toList < i.cps.toList))) H
theorem rv_leS {a b : List Nat} : RV rLeS (.str (S a)) (.str (S b)) H (.bl (!decide (b < a))) := fun H1 _ _ q => ⟨S a, S b, rfl, rfl, q H1 (Ex.refl H1)⟩
theorem str_dec {a b : List Nat} : decide (V.str (S a) = V.str (S b)) = decide (a = b) := by
  by_cases e : a = b
  · rw [e, decide_eq_true rfl, decide_eq_true rfl]
  · rw [decide_eq_false e, decide_eq_false fun q => e (S_inj (V.str.inj q))]
theorem int_dec {a b : Int} : decide (V.int a = V.int b) = decide (a = b) := by
  by_cases e : a = b
  · rw [e, decide_eq_true rfl, decide_eq_true rfl]
  · rw [decide_eq_false e, decide_eq_false fun q => e (V.int.inj q)]
theorem rv_eqS {a b : List Nat} : RV rEq (.str (S a)) (.str (S b)) H (.bl (decide (a = b))) := by
  rw [← str_dec]
  exact rv_eq rfl
theorem rv_neS {a b : List Nat} : RV rNe (.str (S a)) (.str (S b)) H (.bl (!decide (a = b))) := by
  rw [← str_dec]
  exact rv_ne rfl
theorem rv_eqI {a b : Int} : RV rEq (.int a) (.int b) H (.bl (decide (a = b))) := by
  rw [← int_dec]
  exact rv_eq rfl
theorem rv_neI {a b : Int} : RV rNe (.int a) (.int b) H (.bl (!decide (a = b))) := by
  rw [← int_dec]
  exact rv_ne rfl
def rInSg : R2 := fun x y H Q => ∃ (c : Nat) (z : Str), x = .str ⟨#[c]⟩ ∧ y = .str z ∧ Q (.bl (decide (c ∈ z.cps.toList))) H
theorem rv_inSg {c : Nat} {z : Str} : RV rInSg (.str ⟨#[c]⟩) (.str z) H (.bl (decide (c ∈ z.cps.toList))) := fun H1 _ _ q => ⟨c, z, rfl, rfl, q H1 (Ex.refl H1)⟩
theorem rv_ixW {l : List Nat} {i : Int} {c : Nat} (h : l.length ≤ 100000) (ha : atI l i = some c) : RV rIxS (.str (S l)) (.int i) H (.str (S [c])) := rv_ixS (w := S l) (by rw [S_len]; exact h) ha
theorem atI_get {α : Type} {l : List α} {i : Int} (h0 : 0 ≤ i) (h1 : i < l.length) : atI l i = some (l[i.toNat]'(by omega)) := by
  unfold atI ixN
  rw [if_pos h0, if_pos h1]
  show l[i.toNat]? = _
  rw [List.getElem?_eq_getElem]
/-! slices of texts -/
theorem cut_from {l : List Nat} {i : Int} (h : 0 ≤ i) : cutS (S l) (some i) none = S (l.drop i.toNat) := by
  obtain ⟨n, rfl⟩ : ∃ n : Nat, i = n := ⟨i.toNat, by omega⟩
  unfold cutS
  rw [HT.sIx_nat, HT.sIx_none, S_len, Int.toNat_natCast, tl_S]
  refine congrArg S ?_
  by_cases hn : n ≤ l.length
  · rw [Nat.min_eq_left hn, List.take_of_length_le (by rw [List.length_drop]; omega)]
  · rw [Nat.min_eq_right (by omega), List.drop_of_length_le (Nat.le_refl _), List.drop_of_length_le (by omega)]
    simp
theorem cut_to {l : List Nat} {i : Int} (h : 0 ≤ i) : cutS (S l) none (some i) = S (l.take i.toNat) := by
  obtain ⟨n, rfl⟩ : ∃ n : Nat, i = n := ⟨i.toNat, by omega⟩
  unfold cutS
  rw [HT.sIx_nat, HT.sIx_none, S_len, Int.toNat_natCast, tl_S]
  refine congrArg S ?_
  rw [List.drop_zero, Nat.sub_zero]
  by_cases hn : n ≤ l.length
  · rw [Nat.min_eq_left hn]
  · rw [Nat.min_eq_right (by omega), List.take_of_length_le (Nat.le_refl _), List.take_of_length_le (by omega)]
theorem cut_mid {l : List Nat} {i j : Int} (h0 : 0 ≤ i) (hj : i ≤ j) (hl : j ≤ l.length) : cutS (S l) (some i) (some j) = S ((l.drop i.toNat).take (j - i).toNat) := by
  obtain ⟨n, rfl⟩ : ∃ n : Nat, i = n := ⟨i.toNat, by omega⟩
  obtain ⟨m, rfl⟩ : ∃ m : Nat, j = m := ⟨j.toNat, by omega⟩
  unfold cutS
  rw [HT.sIx_nat, HT.sIx_nat, S_len, tl_S, Nat.min_eq_left (by omega), Nat.min_eq_left (by omega), Int.toNat_natCast]
  refine congrArg S ?_
  rw [show ((m : Int) - (n : Int)).toNat = m - n by omega]
theorem cut_neg {l : List Nat} : cutS (S l) none (some (-1)) = S (l.take (l.length - 1)) := by
  unfold cutS
  rw [HT.sIx_none, S_len, tl_S, List.drop_zero, Nat.sub_zero]
  refine congrArg S ?_
  show l.take (if (-1 : Int) < 0 then ((-1 : Int) + (l.length : Int)).toNat else min (-1 : Int).toNat l.length) = _
  rw [if_pos (by decide), show ((-1 : Int) + (l.length : Int)).toNat = l.length - 1 by omega]
theorem ev_cutS {l : List Nat} {lo hi : Option Int} {w : List Nat} (h : Ev te σ H (.str (S l))) (hl : l.length ≤ 100000) (h1 : EvO tl σ H lo) (h2 : EvO th σ H hi) (e : cutS (S l) lo hi = S w) : Ev (tSl rSlS te tl th) σ H (.str (S w)) := fun H1 a Q q =>
  h H1 a _ fun H2 e2 => h1 H2 (a.trans e2) _ fun H3 e3 => h2 H3 ((a.trans e2).trans e3) _ fun H4 e4 => ⟨S l, rfl, sz_txt hl, by rw [e]; exact q H4 ((e2.trans e3).trans e4)⟩
theorem ev_from {l : List Nat} {i : Int} (h : Ev te σ H (.str (S l))) (hl : l.length ≤ 100000) (h1 : Ev ta σ H (.int i)) (hi : 0 ≤ i) : Ev (tSl rSlS te (tPart ta) tNoPart) σ H (.str (S (l.drop i.toNat))) := ev_cutS h hl (eo_some h1) eo_none (cut_from hi)
theorem ev_to {l : List Nat} {i : Int} (h : Ev te σ H (.str (S l))) (hl : l.length ≤ 100000) (h1 : Ev ta σ H (.int i)) (hi : 0 ≤ i) : Ev (tSl rSlS te tNoPart (tPart ta)) σ H (.str (S (l.take i.toNat))) := ev_cutS h hl eo_none (eo_some h1) (cut_to hi)
theorem ev_mid {l : List Nat} {i j : Int} (h : Ev te σ H (.str (S l))) (hl : l.length ≤ 100000) (h1 : Ev ta σ H (.int i)) (h2 : Ev tb σ H (.int j)) (hi : 0 ≤ i) (hj : i ≤ j) (hb : j ≤ l.length) :
    Ev (tSl rSlS te (tPart ta) (tPart tb)) σ H (.str (S ((l.drop i.toNat).take (j - i).toNat))) := ev_cutS h hl (eo_some h1) (eo_some h2) (cut_mid hi hj hb)
theorem ev_revS {l : List Nat} (h : Ev te σ H (.str (S l))) (hl : l.length ≤ 100000) : Ev (tRevS te) σ H (.str (S l.reverse)) := fun H1 a _ q => h H1 a _ fun H2 e2 => ⟨l, rfl, hl, q H2 e2⟩
/-! len, repr, all, join -/
def rLenT : List V → Hp → VK → Prop := fun xs H Q => ∃ z, xs = [.str z] ∧ z.length ≤ sizeLine ∧ Q (.int z.length) H
theorem ev_lenS {l : List Nat} (h : Ev te σ H (.str (S l))) (hl : l.length ≤ 100000) : Ev (tCB rLenT (tCons te tNil)) σ H (.int (l.length : Int)) := ev_cb (ea_cons h ea_nil) fun H1 _ _ q =>
  ⟨S l, rfl, sz_txt hl, by rw [S_len]; exact q H1 (Ex.refl H1)⟩
theorem ev_repr (h : Ev te σ H v) (hv : plainR v) : Ev (tCB rRepr (tCons te tNil)) σ H (.str (reprV v)) := ev_cb (ea_cons h ea_nil) fun H1 _ _ q => ⟨v, rfl, hv, q H1 (Ex.refl H1)⟩
theorem ev_all {bs : List Bool} (h : EvL te σ H (bs.map V.bl)) : Ev (tCB (rAll K) (tCons te tNil)) σ H (.bl (bs.all id)) := fun H1 e _ q =>
  h H1 e _ fun p H2 _ e2 hp => ⟨p, bs, rfl, sq_of hp, q H2 e2⟩
theorem joinE : ∀ ys : List (List Nat), TL.joinL [] ys = ys.flatten
  | [] => rfl
  | [p] => by
    show p = [p].flatten
    simp
  | p :: q :: r => by
    show p ++ ([] ++ TL.joinL [] (q :: r)) = _
    rw [joinE (q :: r)]
    simp
def rJoin (K : PySem.W.Frag) : V → List V → Hp → VK → Prop := fun x xs H Q => ∃ a p, ∃ ys : List Str, x = .str a ∧ xs = [.ref p] ∧ (SqL K H p (ys.map V.str) ∨ SqT K H p (ys.map V.str)) ∧ (ys.map (·.length)).sum + ys.length * a.length ≤ 16777216 ∧ Q (.str (Txt.join a ys)) H
theorem ev_joinE {ys : List (List Nat)} (h0 : Ev ta σ H (.str (S []))) (h : EvL te σ H (ys.map fun l => V.str (S l))) (hl : (ys.map (·.length)).sum ≤ 100000) : Ev (tM1 (rJoin K) ta te) σ H (.str (S ys.flatten)) := fun H1 e _ q =>
  h0 H1 e _ fun H2 e2 => ⟨⟨_, rfl⟩, h H2 (e.trans e2) _ fun p H3 _ e3 hp => ⟨S [], p, ys.map S, rfl, rfl, .inl (sq_of (by rw [hp, List.map_map]; rfl)), by
    rw [lens]
    show _ + _ * 0 ≤ _
    omega, by
    rw [join_S, joinE]
    exact q H3 (e2.trans e3)⟩⟩
/-! two comparisons in one -/
theorem ev_chain {a b : Bool} (h1 : Ev ta σ H x) (h2 : Ev tb σ H y) (h3 : RV r x y H (.bl a)) (h4 : a = true → Ev tc σ H z) (h5 : a = true → RV r' y z H (.bl b)) : Ev (tChain r r' ta tb tc) σ H (.bl (a && b)) := fun H1 e Q q =>
  h1 H1 e _ fun H2 e2 => h2 H2 (e.trans e2) _ fun H3 e3 => h3 H3 ((e.trans e2).trans e3) _ fun H4 e4 => ⟨a, rfl, by
    have e0 := ((e.trans e2).trans e3).trans e4
    cases a with
    | false =>
      show Q (.bl false) H4
      exact q H4 ((e2.trans e3).trans e4)
    | true =>
      show tc σ H4 fun w' H5 => r' y w' H5 Q
      exact h4 rfl H4 e0 _ fun H5 e5 => h5 rfl H5 (e0.trans e5) Q fun H6 e6 => q H6 ((((e2.trans e3).trans e4).trans e5).trans e6)⟩
theorem et_chain {a b : Bool} (h1 : Ev ta σ H x) (h2 : Ev tb σ H y) (h3 : RV r x y H (.bl a)) (h4 : a = true → Ev tc σ H z) (h5 : a = true → RV r' y z H (.bl b)) : EvT (tTest (tChain r r' ta tb tc)) σ H (a && b) := et_test (ev_chain h1 h2 h3 h4 h5)
/-- a list from outside, measured or read -/
theorem rv_ixI {p : Addr} {ns : List Int} {i n : Int} (h : SqL K H p (ns.map V.int)) (ha : atI ns i = some n) : RV (rIxL K) (.ref p) (.int i) H (.int n) := by
  refine rv_ixL h ?_
  unfold atI at ha ⊢
  rw [List.length_map]
  cases e : ixN ns.length i with
  | none =>
    rw [e] at ha
    cases ha
  | some j =>
    rw [e] at ha
    have ha' : ns[j]? = some n := ha
    show (ns.map V.int)[j]? = _
    rw [List.getElem?_map, ha']
    rfl
theorem ev_lenI {p : Addr} {ns : List Int} (h : Ev ta σ H (.ref p)) (hs : SqL K H p (ns.map V.int)) : Ev (tCB (rLenS K) (tCons ta tNil)) σ H (.int (ns.length : Int)) := by
  have e := ev_len h hs
  rw [List.length_map] at e
  exact e
/-- an item of a list that is written on the way -/
theorem ev_pick {xs : List V} {i : Int} (ha : EvL ta σ H xs) (hb : Ev tb σ H (.int i)) (hv : atI xs i = some v) : Ev (tOp (rIxL K) ta tb) σ H v :=
  ev_opL1 ha (fun H1 e => hb.mono e) fun p H1 hp _ => rv_ixL (sq_of hp) hv
/-! the kind of a thing -/
theorem tyx_mono {t : Value} (e : Ex H H') (h : TyX K H x t) : TyX K H' x t := by
  cases h with
  | base b =>
    refine .base ?_
    cases b with
    | non => exact .non
    | bl y => exact .bl y
    | int i => exact .int i
    | str y => exact .str y
    | flt y => exact .flt y
    | lst ea => exact .lst (e _ _ ea)
    | frz ea => exact .frz (e _ _ ea)
    | tup ea => exact .tup (e _ _ ea)
    | dK ea => exact .dK (e _ _ ea)
    | dT ea => exact .dT (e _ _ ea)
    | ins ea c a n t m => exact .ins (e _ _ ea) c a n t m
  | byt b => exact .byt b
  | set ea => exact .set (e _ _ ea)
  | kList a c => exact .kList a c
  | kTuple a c => exact .kTuple a c
  | kDict a c => exact .kDict a c
  | fTuple ea => exact .fTuple (e _ _ ea)
  | fDict ea => exact .fDict (e _ _ ea)
theorem ev_isi {T U : String} {b : Bool} (h : Ev ta σ H x) (ht : TyX K H x (.type T)) (hk : kitB T U = some b) : Ev (tCB (rIsi K) (tCons ta (tCons (tC (.ty U)) tNil))) σ H (.bl b) :=
  ev_cb (ea_cons h (ea_cons ev_c ea_nil)) fun H1 e _ q => ⟨x, .ty U, .type T, .type U, b, rfl, .ty U, tyx_mono e ht, kit_ty hk, q H1 (Ex.refl H1)⟩
end

/-- no test in a comprehension -/
theorem tYes_if {σ : L2.St} {H : Hp} {A B : Hp → Prop} (h : A H) : tYes σ H (fun b H3 => if b = true then A H3 else B H3) := by
  show (if true = true then A H else B H)
  rw [if_pos rfl]
  exact h

/-! ### words -/
def okS (l : List Nat) : Bool := decide (1 ≤ l.length) && decide (l.length ≤ 60) && l.all fun c => decide (c ∈ [97, 98, 99, 100, 101, 102, 103, 104])
def isWordV : V → Bool
  | .str z => okS z.cps.toList
  | _ => false
def isWholeV : V → Bool
  | .int _ => true
  | _ => false
/-- a thing whose kind is known: a text, or none -/
def ThS (K : PySem.W.Frag) (H : Hp) (v : V) : Prop := (∃ l, v = .str (S l) ∧ l.length ≤ 100000) ∨ ∃ T, TyX K H v (.type T) ∧ kitB T "str" = some false ∧ ∀ z, v ≠ .str z
/-- a thing whose kind is known: a whole number, a truth value, or none of them -/
def ThI (K : PySem.W.Frag) (H : Hp) (v : V) : Prop := (∃ i, v = .int i) ∨ (∃ b, v = .bl b) ∨ ∃ T, TyX K H v (.type T) ∧ kitB T "int" = some false ∧ ∀ i, v ≠ .int i
theorem ThS.mono {K : PySem.W.Frag} {H H' : Hp} {v : V} (e : Ex H H') (h : ThS K H v) : ThS K H' v := by
  rcases h with h | ⟨T, h1, h2⟩
  · exact .inl h
  · exact .inr ⟨T, tyx_mono e h1, h2⟩
theorem ThI.mono {K : PySem.W.Frag} {H H' : Hp} {v : V} (e : Ex H H') (h : ThI K H v) : ThI K H' v := by
  rcases h with h | h | ⟨T, h1, h2⟩
  · exact .inl h
  · exact .inr (.inl h)
  · exact .inr (.inr ⟨T, tyx_mono e h1, h2⟩)
theorem word_ok {l : List Nat} (h : okS l = true) : 1 ≤ l.length ∧ l.length ≤ 60 ∧ ∀ c ∈ l, c ∈ [97, 98, 99, 100, 101, 102, 103, 104] := by
  unfold okS at h
  simp only [Bool.and_eq_true, decide_eq_true_eq, List.all_eq_true] at h
  exact ⟨h.1.1, h.1.2, h.2⟩
theorem ok_word {l : List Nat} (h1 : 1 ≤ l.length) (h2 : l.length ≤ 60) (h3 : ∀ c ∈ l, c ∈ [97, 98, 99, 100, 101, 102, 103, 104]) : okS l = true := by
  unfold okS
  simp only [Bool.and_eq_true, decide_eq_true_eq, List.all_eq_true]
  exact ⟨⟨h1, h2⟩, h3⟩
/-- an error of the class at C leaves, nothing of what was tracked has changed -/
def Ref (E : XK) (C : Addr) (H : Hp) : Prop := ∀ H', Ex H H' → E (.ref C) none H'
theorem Ref.mono {E : XK} {C : Addr} {H H' : Hp} (e : Ex H H') (h : Ref E C H) : Ref E C H' := fun H2 e2 => h H2 (e.trans e2)
theorem RetV.mono {v : V} {H H' : Hp} {Q : VK} (e : Ex H H') (h : RetV v H Q) : RetV v H' Q := fun H2 e2 => h H2 (e.trans e2)
theorem RetL.mono {xs : List V} {H H' : Hp} {Q : VK} (e : Ex H H') (h : RetL xs H Q) : RetL xs H' Q := fun p H2 hp e2 h2 => h p H2 (fresh_back e hp) (e.trans e2) h2
/-- the promises -/
def sp_is_word (K : PySem.W.Frag) : Sp := fun vs H Q _ => ∃ v, vs = [v] ∧ ThS K H v ∧ RetV (.bl (isWordV v)) H Q
def sp_need_word (K : PySem.W.Frag) (CW : Addr) : Sp := fun vs H Q E => ∃ v, vs = [v] ∧ ThS K H v ∧ (isWordV v = true → RetV .non H Q) ∧ (isWordV v = false → Ref E CW H)
def sp_is_whole (K : PySem.W.Frag) : Sp := fun vs H Q _ => ∃ v, vs = [v] ∧ ThI K H v ∧ RetV (.bl (isWholeV v)) H Q
def turnL (l : List Nat) (k : Nat) : List Nat := l.drop k ++ l.take k
def sp_turned (K : PySem.W.Frag) (CW CN : Addr) : Sp := fun vs H Q E => ∃ v u, vs = [v, u] ∧ ThS K H v ∧ ThI K H u ∧ (isWordV v = false → Ref E CW H) ∧ (isWordV v = true → isWholeV u = false → Ref E CN H) ∧
  ∀ (l : List Nat) (i : Int), v = .str (S l) → okS l = true → u = .int i → RetV (.str (S (turnL l (i % l.length).toNat))) H Q
def turnsL (l : List Nat) : List (List Nat) := (List.range l.length).map (turnL l)
def sp_turnings (K : PySem.W.Frag) (CW : Addr) : Sp := fun vs H Q E => ∃ v, vs = [v] ∧ ThS K H v ∧ (isWordV v = false → Ref E CW H) ∧
  ∀ l : List Nat, v = .str (S l) → okS l = true → RetL ((turnsL l).map fun l => V.str (S l)) H Q
/-- the numbers that the law mixes -/
def mixN (c k : Int) : Int := (c % 1000000007 + 7919 * k * k + 31 * k + 17) * 48271 % 2147483647
def mixed (c k : Int) : Int := mixN c k * (mixN c k % 65521 + 16807) % 2147483629 / 4
theorem mixed_bd (c k : Int) : 0 ≤ mixed c k ∧ mixed c k < 536870908 := by
  unfold mixed
  generalize mixN c k * (mixN c k % 65521 + 16807) = t
  omega
def number (ns : List Int) (k : Int) : Int := mixed (if 0 < ns.length then ns.getD (k % ns.length).toNat 0 else 0) k
theorem number_bd (ns : List Int) (k : Int) : 0 ≤ number ns k ∧ number ns k < 536870908 := mixed_bd _ _
def sp_mixed : Sp := fun vs H Q _ => ∃ c k : Int, vs = [.int c, .int k] ∧ 0 ≤ k ∧ k ≤ 100000 ∧ RetV (.int (mixed c k)) H Q
def sp_number (K : PySem.W.Frag) : Sp := fun vs H Q _ => ∃ (a : Addr) (ns : List Int) (k : Int), vs = [.ref a, .int k] ∧ SqL K H a (ns.map V.int) ∧ 0 ≤ k ∧ k ≤ 100000 ∧ RetV (.int (number ns k)) H Q
end Br
namespace Br
open PySem PySem.Spec PyProof.Rows L2 Evl SX

section
variable {K : PySem.W.Frag} {σ : L2.St} {H H' : Hp} {ta tb tc te : TE} {x y z v : V}
theorem et_yes : EvT tYes σ H true := fun H1 _ _ q => q H1 (Ex.refl H1)
theorem given_all (n : Nat) (v : Nat → V) : given n (fun _ => true) v = (List.range n).map v := by
  unfold given
  rw [List.filter_eq_self.mpr fun _ _ => rfl]
/-- xs * k, xs + ys: new lists -/
theorem el_rep {xs : List V} {k : Int} (ha : EvL ta σ H xs) (hb : ∀ H1, Ex H H1 → Ev tb σ H1 (.int k)) (h0 : 0 ≤ k) (h1 : k ≤ 1000) (hl : xs.length ≤ 100) : EvL (tOp rRep ta tb) σ H (List.replicate k.toNat xs).flatten := fun H1 e Q q =>
  ha H1 e _ fun p H2 hp e2 h2 => hb H2 (e.trans e2) H2 (Ex.refl H2) _ fun H3 e3 => ⟨p, k, xs, rfl, rfl, e3 p _ h2, by omega, by omega, sz_of (by
    have : xs.length * k.toNat ≤ 100 * 1000 := Nat.mul_le_mul hl (by omega)
    omega), fun r hr => q r _ (fresh_back (e2.trans e3) hr) ((e2.trans e3).trans (Ex.new hr)) upd_same⟩
theorem el_cat {xs ys : List V} (ha : EvL ta σ H xs) (hb : EvL tb σ H ys) (hl : xs.length + ys.length ≤ 100000) : EvL (tOp rCat ta tb) σ H (xs ++ ys) := fun H1 e Q q =>
  ha H1 e _ fun p H2 hp e2 h2 => hb H2 (e.trans e2) _ fun r H3 hr e3 h3 => ⟨p, r, xs, ys, rfl, rfl, e3 p _ h2, h3, sz_of hl, fun s hs => q s _ (fresh_back (e2.trans e3) hs) ((e2.trans e3).trans (Ex.new hs)) upd_same⟩
theorem el_catV {p : Addr} {xs ys : List V} (ha : Ev ta σ H (.ref p)) (hp : H p = some (.lst xs)) (hb : EvL tb σ H ys) (hl : xs.length + ys.length ≤ 100000) : EvL (tOp rCat ta tb) σ H (xs ++ ys) := fun H1 e Q q =>
  ha H1 e _ fun H2 e2 => hb H2 (e.trans e2) _ fun r H3 hr e3 h3 => ⟨p, r, xs, ys, rfl, rfl, e3 p _ (e2 p _ (e p _ hp)), h3, sz_of hl, fun s hs => q s _ (fresh_back (e2.trans e3) hs) ((e2.trans e3).trans (Ex.new hs)) upd_same⟩
def rInt1 : List V → Hp → VK → Prop := fun xs H Q => (∃ i, xs = [.int i] ∧ Q (.int i) H) ∨ ∃ k, xs = [.bl k] ∧ Q (.int (if k then 1 else 0)) H
theorem ev_intB {b : Bool} (h : Ev te σ H (.bl b)) : Ev (tCB rInt1 (tCons te tNil)) σ H (.int (if b then 1 else 0)) := ev_cb (ea_cons h ea_nil) fun H1 _ _ q => .inr ⟨b, rfl, q H1 (Ex.refl H1)⟩
theorem ev_isX {D : Addr} {a : Addr} {c : V} {u : Value} {b : Bool} (h1 : Ev ta σ H (.ref a)) (h2 : Ev tb σ H c) (ha : H a = some (exH (.ref D) none a)) (hc : ClsV c u) (hk : PySem.W.kitOne K (.ref D) u = some b) : Ev (tCB (rIsX K D) (tCons ta (tCons tb tNil))) σ H (.bl b) :=
  ev_cb (ea_cons h1 (ea_cons h2 ea_nil)) fun H1 e _ q => ⟨a, c, u, b, rfl, e a _ ha, hc, hk, q H1 (Ex.refl H1)⟩
/-- sep.join(one text) -/
theorem ev_join1 {a w : List Nat} (h0 : Ev ta σ H (.str (S a))) (h : EvL te σ H [V.str (S w)]) (hl : w.length + a.length ≤ 100000) : Ev (tM1 (rJoin K) ta te) σ H (.str (S w)) := fun H1 e _ q =>
  h0 H1 e _ fun H2 e2 => ⟨⟨_, rfl⟩, h H2 (e.trans e2) _ fun p H3 _ e3 hp => ⟨S a, p, [w].map S, rfl, rfl, .inl (sq_of hp), by
    rw [lens, S_len]
    show (w.length + 0) + 1 * a.length ≤ _
    omega, by
    rw [join_S]
    exact q H3 (e2.trans e3)⟩⟩
end

/-! ### the drawn words -/
def letter (k : Int) : Nat := [97, 98, 99, 100, 101, 102, 103, 104].getD k.toNat 97
theorem letter_in (k : Int) : letter k ∈ [97, 98, 99, 100, 101, 102, 103, 104] := by
  unfold letter
  by_cases h : k.toNat < [97, 98, 99, 100, 101, 102, 103, 104].length
  · rw [List.getD_eq_getElem?_getD, List.getElem?_eq_getElem h]
    exact List.getElem_mem h
  · rw [List.getD_eq_getElem?_getD, List.getElem?_eq_none (Nat.le_of_not_lt h)]
    decide
def abc : List Nat := [97, 98, 99, 100, 101, 102, 103, 104]
theorem abc_S : (PySem.Str.ofString "abcdefgh" : Str) = S abc := by decide +kernel
theorem letter_at {k : Int} (h0 : 0 ≤ k) (h1 : k < 8) : atI abc k = some (letter k) := by
  rw [atI_get h0 (show k < (abc.length : Int) from h1)]
  unfold letter
  have h : k.toNat < [97, 98, 99, 100, 101, 102, 103, 104].length := by
    show k.toNat < 8
    omega
  rw [List.getD_eq_getElem?_getD, List.getElem?_eq_getElem h]
  rfl
def drawn (ns : List Int) (at_ few : Int) (n : Nat) : List Nat := (List.range n).map fun (k : Nat) => letter (number ns (at_ + 1 + (k : Int)) / 3 % few)
def wsizes (n : Int) : List Int := [1 + n / 32 % 12, 1 + n / 32 % 60, 60, 1 + n / 32 % 5]
def wsize (n : Int) : Int := (wsizes n).getD (n / 2000 % 4).toNat 0
theorem wsize_at (n : Int) : atI ((wsizes n).map V.int) (n / 2000 % 4) = some (.int (wsize n)) ∧ 1 ≤ wsize n ∧ wsize n ≤ 60 := by
  have h : n / 2000 % 4 = 0 ∨ n / 2000 % 4 = 1 ∨ n / 2000 % 4 = 2 ∨ n / 2000 % 4 = 3 := by omega
  unfold wsize
  rcases h with h | h | h | h <;> rw [h]
  · refine ⟨rfl, ?_⟩
    show 1 ≤ 1 + n / 32 % 12 ∧ 1 + n / 32 % 12 ≤ 60
    omega
  · refine ⟨rfl, ?_⟩
    show 1 ≤ 1 + n / 32 % 60 ∧ 1 + n / 32 % 60 ≤ 60
    omega
  · refine ⟨rfl, ?_⟩
    show (1 : Int) ≤ 60 ∧ (60 : Int) ≤ 60
    decide
  · refine ⟨rfl, ?_⟩
    show 1 ≤ 1 + n / 32 % 5 ∧ 1 + n / 32 % 5 ≤ 60
    omega
def again (l : List Nat) (m : Int) (z : Nat) : List Nat := (List.replicate 60 (l.take m.toNat)).flatten.take z
theorem sum_ones {α : Type} : ∀ l : List α, (l.map fun _ => 1).sum = l.length
  | [] => rfl
  | a :: r => by
    rw [List.map_cons, List.sum_cons, sum_ones r, List.length_cons, Nat.add_comm]
theorem flat_len (n : Nat) (l : List Nat) : (List.replicate n l).flatten.length = n * l.length := by
  induction n with
  | zero => simp
  | succ m ih => rw [List.replicate_succ, List.flatten_cons, List.length_append, ih, Nat.succ_mul, Nat.add_comm]
theorem again_ok {l : List Nat} {m : Int} {z : Nat} (hl : l.length = z) (h1 : 1 ≤ z) (h2 : z ≤ 60) (hm : 1 ≤ m) (ha : ∀ c ∈ l, c ∈ abc) : (again l m z).length = z ∧ ∀ c ∈ again l m z, c ∈ abc := by
  unfold again
  constructor
  · rw [List.length_take, flat_len, List.length_take]
    have : 1 ≤ min m.toNat l.length := by omega
    omega
  · intro c hc
    obtain ⟨p, hp, hcp⟩ := List.mem_flatten.mp (List.mem_of_mem_take hc)
    rw [List.eq_of_mem_replicate hp] at hcp
    exact ha c (List.mem_of_mem_take hcp)
def lword0 (ns : List Int) (at_ : Int) : List Nat := drawn ns at_ (1 + number ns at_ / 4 % 8) (wsize (number ns at_)).toNat
def lword1 (ns : List Int) (at_ : Int) : List Nat := if number ns at_ % 4 = 1 then again (lword0 ns at_) (1 + number ns at_ / 9000 % 9) (wsize (number ns at_)).toNat else lword0 ns at_
def lwordA (ns : List Int) (at_ : Int) : List Nat := again (lword1 ns at_) (1 + number ns at_ / 9000 % 4) (wsize (number ns at_)).toNat
def lwordP (ns : List Int) (at_ : Int) : Int := number ns at_ / 40000 % wsize (number ns at_)
def lword (ns : List Int) (at_ : Int) : List Nat := if number ns at_ % 4 = 2 then (lwordA ns at_).take (lwordP ns at_).toNat ++ [letter (number ns at_ / 7 % 8)] ++ (lwordA ns at_).drop (lwordP ns at_ + 1).toNat else lword1 ns at_
theorem lword0_ok (ns : List Int) (at_ : Int) : (lword0 ns at_).length = (wsize (number ns at_)).toNat ∧ ∀ c ∈ lword0 ns at_, c ∈ abc := by
  unfold lword0 drawn
  refine ⟨by simp, fun c hc => ?_⟩
  obtain ⟨k, _, rfl⟩ := List.mem_map.mp hc
  exact letter_in _
theorem lword1_ok (ns : List Int) (at_ : Int) : (lword1 ns at_).length = (wsize (number ns at_)).toNat ∧ ∀ c ∈ lword1 ns at_, c ∈ abc := by
  obtain ⟨h1, h2⟩ := lword0_ok ns at_
  obtain ⟨_, s1, s2⟩ := wsize_at (number ns at_)
  unfold lword1
  split
  · exact again_ok h1 (by omega) (by omega) (by omega) h2
  · exact ⟨h1, h2⟩
theorem lwordA_ok (ns : List Int) (at_ : Int) : (lwordA ns at_).length = (wsize (number ns at_)).toNat ∧ ∀ c ∈ lwordA ns at_, c ∈ abc := by
  obtain ⟨h1, h2⟩ := lword1_ok ns at_
  obtain ⟨_, s1, s2⟩ := wsize_at (number ns at_)
  exact again_ok h1 (by omega) (by omega) (by omega) h2
theorem lwordP_bd (ns : List Int) (at_ : Int) : 0 ≤ lwordP ns at_ ∧ lwordP ns at_ < wsize (number ns at_) := by
  obtain ⟨_, s1, s2⟩ := wsize_at (number ns at_)
  exact ⟨Int.emod_nonneg _ (by omega), Int.emod_lt_of_pos _ (by omega)⟩
theorem lword_ok (ns : List Int) (at_ : Int) : okS (lword ns at_) = true := by
  obtain ⟨h1, h2⟩ := lword1_ok ns at_
  obtain ⟨a1, a2⟩ := lwordA_ok ns at_
  obtain ⟨p1, p2⟩ := lwordP_bd ns at_
  obtain ⟨_, s1, s2⟩ := wsize_at (number ns at_)
  unfold lword
  split
  · refine ok_word ?_ ?_ fun c hc => ?_
    · simp only [List.length_append, List.length_cons, List.length_nil]
      omega
    · simp only [List.length_append, List.length_cons, List.length_nil, List.length_take, List.length_drop]
      omega
    · rcases List.mem_append.mp hc with hc | hc
      · rcases List.mem_append.mp hc with hc | hc
        · exact a2 c (List.mem_of_mem_take hc)
        · rw [List.mem_singleton.mp hc]
          exact letter_in _
      · exact a2 c (List.mem_of_mem_drop hc)
  · exact ok_word (by omega) (by omega) h2
def sp_word (K : PySem.W.Frag) : Sp := fun vs H Q _ => ∃ (a : Addr) (ns : List Int) (k : Int), vs = [.ref a, .int k] ∧ SqL K H a (ns.map V.int) ∧ 0 ≤ k ∧ k ≤ 50000 ∧ RetV (.str (S (lword ns k))) H Q
/-- the name of an error's class -/
def sp_kind (CW : Addr) (nm : List Nat) : Sp := fun vs H Q _ => ∃ a, vs = [.ref a] ∧ H a = some (exH (.ref CW) none a) ∧ RetV (.str (S nm)) H Q
def wWord : List Nat := [119, 111, 114, 100]
def wNumber : List Nat := [110, 117, 109, 98, 101, 114]
theorem wWord_S : (PySem.Str.ofString "word" : Str) = S wWord := by decide +kernel
theorem wNumber_S : (PySem.Str.ofString "number" : Str) = S wNumber := by decide +kernel
end Br
namespace Br
open PySem PySem.Spec PyProof.Rows L2 Evl SX

/-! ### turnings -/
theorem turn_len (l : List Nat) (k : Nat) : (turnL l k).length = l.length := by
  unfold turnL
  rw [List.length_append, List.length_drop, List.length_take]
  omega
theorem turn_get {l : List Nat} {k i : Nat} (hk : k ≤ l.length) (hi : i < l.length) : (turnL l k)[i]? = l[(i + k) % l.length]? := by
  unfold turnL
  by_cases h : i + k < l.length
  · rw [List.getElem?_append_left (by rw [List.length_drop]; omega), List.getElem?_drop, Nat.mod_eq_of_lt h, Nat.add_comm]
  · rw [List.getElem?_append_right (by rw [List.length_drop]; omega), List.length_drop, List.getElem?_take]
    have e : (i + k) % l.length = i + k - l.length := by
      rw [Nat.mod_eq_sub_mod (by omega), Nat.mod_eq_of_lt (by omega)]
    rw [e, if_pos (by omega)]
    congr 1
    omega
theorem eq_of_get {a b : List Nat} (hl : a.length = b.length) (h : ∀ i, i < a.length → a[i]? = b[i]?) : a = b := by
  refine List.ext_getElem? fun i => ?_
  by_cases hi : i < a.length
  · exact h i hi
  · rw [List.getElem?_eq_none (by omega), List.getElem?_eq_none (by omega)]
theorem turn_turn {l : List Nat} {a b : Nat} (ha : a ≤ l.length) (hb : b ≤ l.length) (hl : 0 < l.length) : turnL (turnL l a) b = turnL l ((a + b) % l.length) := by
  refine eq_of_get (by rw [turn_len, turn_len, turn_len]) fun i hi => ?_
  rw [turn_len, turn_len] at hi
  have h3 : (i + b) % l.length < l.length := Nat.mod_lt _ hl
  rw [turn_get (by rw [turn_len]; exact hb) (by rw [turn_len]; exact hi), turn_len, turn_get ha h3, turn_get (Nat.le_of_lt (Nat.mod_lt _ hl)) hi]
  congr 1
  rw [Nat.mod_add_mod, Nat.add_mod_mod]
  congr 1
  omega
theorem turn_zero (l : List Nat) : turnL l 0 = l := by
  unfold turnL
  simp
theorem turn_full (l : List Nat) : turnL l l.length = l := by
  unfold turnL
  simp
theorem turn_back {l : List Nat} {a : Nat} (ha : a ≤ l.length) (hl : 0 < l.length) : turnL (turnL l a) (l.length - a) = l := by
  rw [turn_turn ha (by omega) hl, show a + (l.length - a) = l.length by omega, Nat.mod_self, turn_zero]
theorem turn_inj {l m : List Nat} {a : Nat} (ha : a ≤ l.length) (hl : 0 < l.length) (hm : m.length = l.length) (h : turnL l a = turnL m a) : l = m := by
  rw [← turn_back ha hl, h, ← hm, turn_back (by omega) (by omega)]
theorem mem_turns {l t : List Nat} : t ∈ turnsL l ↔ ∃ k, k < l.length ∧ t = turnL l k := by
  unfold turnsL
  constructor
  · intro h
    obtain ⟨k, hk, rfl⟩ := List.mem_map.mp h
    exact ⟨k, List.mem_range.mp hk, rfl⟩
  · rintro ⟨k, hk, rfl⟩
    exact List.mem_map.mpr ⟨k, List.mem_range.mpr hk, rfl⟩
theorem turns_turn {l t : List Nat} {a : Nat} (ha : a < l.length) : t ∈ turnsL (turnL l a) ↔ t ∈ turnsL l := by
  have hl : 0 < l.length := by omega
  rw [mem_turns, mem_turns, turn_len]
  constructor
  · rintro ⟨k, hk, rfl⟩
    exact ⟨(a + k) % l.length, Nat.mod_lt _ hl, turn_turn (by omega) (by omega) hl⟩
  · rintro ⟨k, hk, rfl⟩
    refine ⟨(k + (l.length - a)) % l.length, Nat.mod_lt _ hl, ?_⟩
    rw [turn_turn (by omega) (Nat.le_of_lt (Nat.mod_lt _ hl)) hl]
    congr 1
    rw [Nat.add_mod_mod, show a + (k + (l.length - a)) = k + l.length by omega, Nat.add_mod_right, Nat.mod_eq_of_lt hk]
theorem turn_ok {l : List Nat} {k : Nat} (h : okS l = true) : okS (turnL l k) = true := by
  obtain ⟨h1, h2, h3⟩ := word_ok h
  refine ok_word (by rw [turn_len]; exact h1) (by rw [turn_len]; exact h2) fun c hc => ?_
  unfold turnL at hc
  rcases List.mem_append.mp hc with hc | hc
  · exact h3 c (List.mem_of_mem_drop hc)
  · exact h3 c (List.mem_of_mem_take hc)
/-- the least of all turnings -/
def IsLeast (l m : List Nat) : Prop := m ∈ turnsL l ∧ ∀ t ∈ turnsL l, ¬ t < m
theorem lt_tri {a b : List Nat} (h1 : ¬ a < b) (h2 : ¬ b < a) : a = b := List.le_antisymm (List.not_lt.mp h2) (List.not_lt.mp h1)
theorem least_uniq {l m m' : List Nat} (h : IsLeast l m) (h' : IsLeast l m') : m = m' := lt_tri (h'.2 m h.1) (h.2 m' h'.1)
theorem least_turn {l m : List Nat} {a : Nat} (ha : a < l.length) : IsLeast (turnL l a) m ↔ IsLeast l m := by
  unfold IsLeast
  rw [turns_turn ha]
  constructor
  · rintro ⟨h1, h2⟩
    exact ⟨h1, fun t ht => h2 t ((turns_turn ha).mpr ht)⟩
  · rintro ⟨h1, h2⟩
    exact ⟨h1, fun t ht => h2 t ((turns_turn ha).mp ht)⟩
/-- the least of the turnings by less than k (and the word) -/
def leastTo (l : List Nat) : Nat → List Nat
  | 0 => l
  | k + 1 => if turnL l k < leastTo l k then turnL l k else leastTo l k
theorem leastTo_in {l : List Nat} (hl : 0 < l.length) : ∀ k, k ≤ l.length → leastTo l k ∈ turnsL l
  | 0, _ => mem_turns.mpr ⟨0, hl, (turn_zero l).symm⟩
  | k + 1, hk => by
    unfold leastTo
    split
    · exact mem_turns.mpr ⟨k, hk, rfl⟩
    · exact leastTo_in hl k (by omega)
theorem leastTo_le {l : List Nat} : ∀ k j, j < k → ¬ turnL l j < leastTo l k
  | 0, j, h => absurd h (Nat.not_lt_zero _)
  | k + 1, j, h => by
    unfold leastTo
    split
    · rename_i c
      by_cases e : j = k
      · rw [e]
        exact List.lt_irrefl _
      · exact fun z => leastTo_le k j (by omega) (List.lt_trans z c)
    · rename_i c
      by_cases e : j = k
      · rw [e]
        exact c
      · exact leastTo_le k j (by omega)
def leastL (l : List Nat) : List Nat := leastTo l l.length
theorem leastL_is {l : List Nat} (hl : 0 < l.length) : IsLeast l (leastL l) := ⟨leastTo_in hl _ (Nat.le_refl _), fun t ht => by
  obtain ⟨k, hk, rfl⟩ := mem_turns.mp ht
  exact leastTo_le _ k hk⟩
/-- the least number from 1 on by which the word turned is the word again -/
def IsPer (l : List Nat) (p : Nat) : Prop := 1 ≤ p ∧ p ≤ l.length ∧ turnL l p = l ∧ ∀ k, 1 ≤ k → k < p → turnL l k ≠ l
theorem per_uniq {l : List Nat} {p q : Nat} (h : IsPer l p) (h' : IsPer l q) : p = q := by
  obtain ⟨a1, a2, a3, a4⟩ := h
  obtain ⟨b1, b2, b3, b4⟩ := h'
  rcases Nat.lt_trichotomy p q with c | c | c
  · exact absurd a3 (b4 p a1 c)
  · exact c
  · exact absurd b3 (a4 q b1 c)
theorem per_from {l : List Nat} : ∀ n k, 1 ≤ k → k ≤ l.length → n = l.length - k → (∀ j, 1 ≤ j → j < k → turnL l j ≠ l) → ∃ p, IsPer l p
  | 0, k, h1, h2, hn, hj => ⟨k, h1, h2, by rw [show k = l.length by omega, turn_full], hj⟩
  | n + 1, k, h1, h2, hn, hj => by
    by_cases c : turnL l k = l
    · exact ⟨k, h1, h2, c, hj⟩
    · refine per_from n (k + 1) (by omega) (by omega) (by omega) fun j j1 j2 => ?_
      by_cases e : j = k
      · rw [e]
        exact c
      · exact hj j j1 (by omega)
theorem per_ex {l : List Nat} (hl : 0 < l.length) : ∃ p, IsPer l p := per_from _ 1 (Nat.le_refl _) hl rfl fun j h1 h2 => absurd h1 (by omega)
theorem turn_comm {l : List Nat} {a b : Nat} (ha : a ≤ l.length) (hb : b ≤ l.length) (hl : 0 < l.length) : turnL (turnL l a) b = turnL (turnL l b) a := by
  rw [turn_turn ha hb hl, turn_turn hb ha hl, Nat.add_comm]
theorem per_turn {l : List Nat} {a p : Nat} (ha : a < l.length) : IsPer (turnL l a) p ↔ IsPer l p := by
  have hl : 0 < l.length := by omega
  have same : ∀ k, k ≤ l.length → (turnL (turnL l a) k = turnL l a ↔ turnL l k = l) := fun k hk => by
    rw [turn_comm (by omega) hk hl]
    constructor
    · intro h
      exact turn_inj (by rw [turn_len]; omega) (by rw [turn_len]; exact hl) (by rw [turn_len]) h
    · intro h
      rw [h]
  unfold IsPer
  rw [turn_len]
  constructor
  · rintro ⟨h1, h2, h3, h4⟩
    exact ⟨h1, h2, (same p h2).mp h3, fun k k1 k2 z => h4 k k1 k2 ((same k (by omega)).mpr z)⟩
  · rintro ⟨h1, h2, h3, h4⟩
    exact ⟨h1, h2, (same p h2).mpr h3, fun k k1 k2 z => h4 k k1 k2 ((same k (by omega)).mp z)⟩
/-- the text told twice, and where it comes again -/
theorem twice_at {l : List Nat} {k : Nat} (hk : k ≤ l.length) : (((l ++ l).drop k).take l.length = l) ↔ turnL l k = l := by
  have e : ((l ++ l).drop k).take l.length = turnL l k := by
    unfold turnL
    rw [List.drop_append_of_le_length hk, List.take_append, List.take_of_length_le (by rw [List.length_drop]; omega), List.length_drop]
    congr 2
    omega
  rw [e]
theorem find_per {l : List Nat} {p : Nat} (h : IsPer l p) : Txt.find3 (S (l ++ l)) (S l) 1 = (p : Int) := by
  obtain ⟨h1, h2, h3, h4⟩ := h
  have hne : TL.tl (S l) ≠ [] := fun z => by
    have z' : l = [] := z
    rw [z'] at h2
    simp at h2
    omega
  have at_ : ∀ k, PySem.StrLaws.At (S (l ++ l)) (S l) (S (l ++ l)).length k ↔ ((l ++ l).drop k).take l.length = l := fun k => by
    rw [TL.at_iff hne]
    show (((l ++ l).drop k).take l.length == l) = true ↔ _
    rw [beq_iff_eq]
  have e1 : PySem.fromIndex (S (l ++ l)).length 1 = 1 := rfl
  unfold Txt.find3
  rw [e1]
  rcases PySem.StrLaws.occ_head_from (S (l ++ l)) (S l) 1 1 (Nat.le_refl _) with ⟨_, hn⟩ | ⟨i, r, e, hi, ha, hb⟩
  · exact absurd ((at_ p).mpr ((twice_at h2).mpr h3)) (hn p h1)
  · rw [e]
    show (i : Int) = (p : Int)
    have hip : ¬ p < i := fun z => hb p h1 z ((at_ p).mpr ((twice_at h2).mpr h3))
    have hpi : ¬ i < p := fun z => h4 i hi z ((twice_at (by omega)).mp ((at_ i).mp ha))
    omega

/-! ### what evaluates to a thing of some kind -/
def EvP (te : TE) (σ : L2.St) (H : Hp) (P : V → Hp → Prop) : Prop := ∀ H1, Ex H H1 → ∀ Q : VK, (∀ v H2, Ex H1 H2 → P v H2 → Q v H2) → te σ H1 Q
def EvAll (ta : TA) (σ : L2.St) (H : Hp) (n : Nat) (P : V → Hp → Prop) : Prop := ∀ H1, Ex H H1 → ∀ Q : List V → Hp → Prop, (∀ vs H2, Ex H1 H2 → vs.length = n → (∀ v ∈ vs, P v H2) → Q vs H2) → ta σ H1 Q
section
variable {K : PySem.W.Frag} {σ : L2.St} {H H' : Hp} {ta tb tc te : TE} {x y z v : V} {P : V → Hp → Prop}
theorem ep_of (h : Ev te σ H v) (hp : ∀ H2, Ex H H2 → P v H2) : EvP te σ H P := fun H1 e Q q => h H1 e Q fun H2 e2 => q v H2 e2 (hp H2 (e.trans e2))
theorem ep_lst {xs : List V} (h : EvL te σ H xs) (hp : ∀ p H2, Ex H H2 → H2 p = some (.lst xs) → P (.ref p) H2) : EvP te σ H P := fun H1 e Q q => h H1 e Q fun p H2 _ e2 h2 => q _ H2 e2 (hp p H2 (e.trans e2) h2)
theorem ep_tup {xs : List V} (h : EvU te σ H xs) (hp : ∀ p H2, Ex H H2 → H2 p = some (.tup xs) → P (.ref p) H2) : EvP te σ H P := fun H1 e Q q => h H1 e Q fun p H2 _ e2 h2 => q _ H2 e2 (hp p H2 (e.trans e2) h2)
theorem ep_dct (hp : ∀ p H2, Ex H H2 → H2 p = some (.dK []) → P (.ref p) H2) : EvP tDNewK σ H P := fun H1 e Q q p hn => q _ _ (Ex.new hn) (hp p _ (e.trans (Ex.new hn)) upd_same)
theorem eall_nil : EvAll tNil σ H 0 P := fun H1 _ Q q => q [] H1 (Ex.refl H1) rfl fun _ h => nomatch h
theorem eall_cons {tr : TA} {n : Nat} (mono : ∀ v H1 H2, Ex H1 H2 → P v H1 → P v H2) (h : EvP te σ H P) (hr : EvAll tr σ H n P) : EvAll (tCons te tr) σ H (n + 1) P := fun H1 e Q q =>
  h H1 e _ fun v H2 e2 hv => hr H2 (e.trans e2) _ fun vs H3 e3 hl hvs => q (v :: vs) H3 (e2.trans e3) (by rw [List.length_cons, hl]) fun u hu => by
    rcases List.mem_cons.mp hu with rfl | hu
    · exact mono _ H2 H3 e3 hv
    · exact hvs u hu
theorem ep_pick {t : TA} {n : Nat} {i : Int} (mono : ∀ v H1 H2, Ex H1 H2 → P v H1 → P v H2) (h : EvAll t σ H n P) (hb : ∀ H1, Ex H H1 → Ev tb σ H1 (.int i)) (hn : n ≤ 1000) (h0 : 0 ≤ i) (h1 : i < n) : EvP (tOp (rIxL K) (tLst t) tb) σ H P := fun H1 e Q q =>
  h H1 e _ fun vs H2 e2 hl hvs => ⟨sz_of (by omega), fun p hp => hb _ ((e.trans e2).trans (Ex.new hp)) _ (Ex.refl _) _ fun H3 e3 =>
    ⟨p, vs, i, vs[i.toNat]'(by omega), rfl, rfl, sq_of (e3 p _ upd_same), atI_get h0 (by omega), q _ H3 ((e2.trans (Ex.new hp)).trans e3) (mono _ H2 H3 ((Ex.new hp).trans e3) (hvs _ (List.getElem_mem _)))⟩⟩
/-- stored under a name -/
theorem p_asg {D : Ends} {i : Nat} {tz : TS} (h : EvP te σ H P) (k : ∀ v H1, Ex H H1 → P v H1 → tz D (σ.set i (some v)) H1) : tSeq (tAsg te (gName i)) tz D σ H := h H (Ex.refl H) _ fun v H1 e hv => k v H1 e hv
/-- a thing that is no word -/
def Odd (K : PySem.W.Frag) (v : V) (H : Hp) : Prop := ThS K H v ∧ isWordV v = false
theorem Odd.mono (v : V) (H1 H2 : Hp) (e : Ex H1 H2) (h : Odd K v H1) : Odd K v H2 := ⟨ThS.mono e h.1, h.2⟩
theorem odd_txt {l : List Nat} {H2 : Hp} (hl : l.length ≤ 100000) (h : okS l = false) : Odd K (.str (S l)) H2 := ⟨.inl ⟨l, rfl, hl⟩, h⟩
theorem odd_non {H2 : Hp} : Odd K .non H2 := ⟨.inr ⟨"NoneType", .base .non, by decide +kernel, fun _ h => nomatch h⟩, rfl⟩
theorem odd_int {i : Int} {H2 : Hp} : Odd K (.int i) H2 := ⟨.inr ⟨"int", .base (.int i), by decide +kernel, fun _ h => nomatch h⟩, rfl⟩
theorem odd_bl {b : Bool} {H2 : Hp} : Odd K (.bl b) H2 := ⟨.inr ⟨"bool", .base (.bl b), by decide +kernel, fun _ h => nomatch h⟩, rfl⟩
theorem odd_lst {p : Addr} {xs : List V} {H2 : Hp} (h : H2 p = some (.lst xs)) : Odd K (.ref p) H2 := ⟨.inr ⟨"list", .base (.lst h), by decide +kernel, fun _ h => nomatch h⟩, rfl⟩
theorem odd_tup {p : Addr} {xs : List V} {H2 : Hp} (h : H2 p = some (.tup xs)) : Odd K (.ref p) H2 := ⟨.inr ⟨"tuple", .base (.tup h), by decide +kernel, fun _ h => nomatch h⟩, rfl⟩
theorem odd_dct {p : Addr} {H2 : Hp} (h : H2 p = some (.dK [])) : Odd K (.ref p) H2 := ⟨.inr ⟨"dict", .base (.dK h), by decide +kernel, fun _ h => nomatch h⟩, rfl⟩
theorem not_ok_of {l : List Nat} {c : Nat} (hc : c ∈ l) (hn : c ∉ [97, 98, 99, 100, 101, 102, 103, 104]) : okS l = false := by
  cases e : okS l with
  | false => rfl
  | true => exact absurd ((word_ok e).2.2 c hc) hn
theorem not_ok_long {l : List Nat} (h : 60 < l.length) : okS l = false := by
  cases e : okS l with
  | false => rfl
  | true => exact absurd (word_ok e).2.1 (by omega)
/-- is None, is not None, is False as values -/
def rIsNo : R2 := fun x y H Q => y = .non ∧ Q (.bl (decide (x = .non))) H
def rNotNo : R2 := fun x y H Q => y = .non ∧ Q (.bl (!decide (x = .non))) H
theorem rv_isNo : RV rIsNo x .non H (.bl (decide (x = .non))) := fun H1 _ _ q => ⟨rfl, q H1 (Ex.refl H1)⟩
theorem rv_notNo : RV rNotNo x .non H (.bl (!decide (x = .non))) := fun H1 _ _ q => ⟨rfl, q H1 (Ex.refl H1)⟩
theorem rv_isB {a b : Bool} : RV rIsB (.bl a) (.bl b) H (.bl (decide (a = b))) := fun H1 _ _ q => ⟨a, b, rfl, rfl, q H1 (Ex.refl H1)⟩
theorem rv_notB {a b : Bool} : RV rNotB (.bl a) (.bl b) H (.bl (!decide (a = b))) := fun H1 _ _ q => ⟨a, b, rfl, rfl, q H1 (Ex.refl H1)⟩
/-- the least of a new list of texts -/
theorem ev_minS {ys : List (List Nat)} {m : List Nat} (h : EvL te σ H (ys.map fun l => V.str (S l))) (hm : m ∈ ys) (hl : ∀ y ∈ ys, ¬ y < m) : Ev (tCB (rMinS K) (tCons te tNil)) σ H (.str (S m)) := fun H1 e _ q =>
  h H1 e _ fun p H2 _ e2 hp => ⟨p, ys, rfl, sq_of hp, fun z => (by rw [z] at hm; cases hm), fun m' hm' hl' => by
    rw [lt_tri (hl m' hm') (hl' m hm)]
    exact q H2 e2⟩
/-- text.find(text, number) -/
def rFind3 : V → List V → Hp → VK → Prop := fun x xs H Q => ∃ (a b : Str) (i : Int), x = .str a ∧ xs = [.str b, .int i] ∧ Q (.int (Txt.find3 a b i)) H
theorem ev_find3 {a b : Str} {i : Int} (h1 : Ev ta σ H (.str a)) (h2 : Ev tb σ H (.str b)) (h3 : Ev tc σ H (.int i)) : Ev (tBM K "str" rFind3 ta (tCons tb (tCons tc tNil))) σ H (.int (Txt.find3 a b i)) := fun H1 e _ q =>
  h1 H1 e _ fun H2 e2 => ⟨rfl, h2 H2 (e.trans e2) _ fun H3 e3 => h3 H3 ((e.trans e2).trans e3) _ fun H4 e4 => ⟨a, b, i, rfl, rfl, q H4 ((e2.trans e3).trans e4)⟩⟩
def rMinI : List V → Hp → VK → Prop := fun xs H Q => ∃ i j, xs = [.int i, .int j] ∧ Q (.int (if j < i then j else i)) H
theorem ev_minI {i j : Int} (h1 : Ev ta σ H (.int i)) (h2 : Ev tb σ H (.int j)) : Ev (tCB rMinI (tCons ta (tCons tb tNil))) σ H (.int (if j < i then j else i)) := ev_cb (ea_cons h1 (ea_cons h2 ea_nil)) fun H1 _ _ q => ⟨i, j, rfl, q H1 (Ex.refl H1)⟩
end
theorem repr_small {l : List Nat} (h : l.length ≤ 1000) (hc : ∀ c ∈ l, c < 16 ^ 8) : plainR (.str (S l)) := by
  show (reprText (S l)).length ≤ sizeLine
  have := PySem.StrLaws.reprText_len (S l) hc
  have h2 : (S l).length = l.length := S_len l
  exact sz_of (by omega)
theorem repr_word {l : List Nat} (h : okS l = true) : plainR (.str (S l)) := by
  obtain ⟨_, h2, h3⟩ := word_ok h
  refine repr_small (by omega) fun c hc => ?_
  have := h3 c hc
  simp only [List.mem_cons, List.not_mem_nil, or_false] at this
  rcases this with rfl | rfl | rfl | rfl | rfl | rfl | rfl | rfl <;> decide
theorem repr_int {i : Int} (h : i.natAbs < 2 ^ 60) : plainR (.int i) := by
  show i.natAbs.log2 < 1920
  by_cases e : i.natAbs = 0
  · rw [e]
    decide
  · exact Nat.lt_of_lt_of_le ((Nat.log2_lt e).mpr h) (by decide)
def sp_law (K : PySem.W.Frag) : Sp := fun vs H Q _ => ∃ (a : Addr) (ns : List Int), vs = [.ref a] ∧ SqL K H a (ns.map V.int) ∧ ns.length ≤ 63 ∧ RetV (.bl true) H Q
theorem law_asked (K : PySem.W.Frag) (H : Hp) (a : Addr) (ns : List Int) (hl : ns.length ≤ 63) (_ : Only H) (hs : SqL K H a (ns.map V.int)) : sp_law K [.ref a] H (fun v _ => v = .bl true) fun _ _ _ => False :=
  ⟨a, ns, rfl, hs, hl, fun _ _ => rfl⟩
end Br
namespace Br
open PySem PySem.Spec PyProof.Rows L2 Evl SX
section
variable {K : PySem.W.Frag} {σ : L2.St} {H H' : Hp} {ta tb tc te : TE} {t u : TT} {x y z v : V} {D : Ends} {tu tw tz : TS} {g : TG}
/-- a loop over a tuple that is written in its head -/
theorem q_forNT {xs : List V} {tl : TE} (h : EvU tl σ H xs) (Pv : Addr → Nat → L2.St → Hp → Prop) (h0 : ∀ p H1, H p = none → Ex H H1 → H1 p = some (.tup xs) → Pv p 0 σ H1) (hl : ∀ p i σ' H', i ≤ xs.length → Pv p i σ' H' → SqT K H' p xs)
    (hs : ∀ p i x σ' H', xs[i]? = some x → Pv p i σ' H' → g x σ' H' fun σ2 H2 => tu { D with nx := Pv p (i + 1), ct := Pv p (i + 1), bk := tz D } σ2 H2) (hd : ∀ p σ' H', Pv p xs.length σ' H' → tz D σ' H') : tSeq (tFor (iTup K tl) g tu) tz D σ H :=
  h H (Ex.refl H) _ fun p H1 hp e h1 => ⟨p, rfl, ⟨xs, st_of h1⟩, for_tup (D := { D with nx := tz D }) (Pv p) (h0 p H1 hp e h1) (hl p) (hs p) (hd p)⟩
/-- two values that are one -/
theorem et_same (h1 : Ev ta σ H v) (h2 : Ev tb σ H v) (hs : scal v v = true) : EvT (tTest (tOp rNe ta tb)) σ H false := by
  have e := et_test (ev_op h1 h2 (rv_ne hs))
  rw [decide_eq_true rfl] at e
  exact e
theorem min30 (n : Nat) : 1 ≤ 1 + (if (n : Int) < 30 then (n : Int) else 30) ∧ 1 + (if (n : Int) < 30 then (n : Int) else 30) ≤ 31 := by
  split <;> omega
end
end Br
namespace Br
open PySem PySem.Spec PyProof.Rows L2 Evl SX
section
variable {K : PySem.W.Frag} {σ : L2.St} {H H' : Hp} {ta tb tc te : TE} {t u : TT} {x y z v : V} {D : Ends} {tu tw tz : TS} {g : TG} {P : V → Hp → Prop}
/-- a loop over a tuple that is written in its head, all items of one kind -/
theorem q_forP {t : TA} {n : Nat} (mono : ∀ v H1 H2, Ex H1 H2 → P v H1 → P v H2) (h : EvAll t σ H n P) (hn : n ≤ 1000) (I : L2.St → Prop) (h0 : I σ)
    (hs : ∀ (N : L2.St → Hp → Prop) x σ' H', (∀ σ2 H2, I σ2 → Ex H' H2 → N σ2 H2) → I σ' → Ex H H' → P x H' → g x σ' H' fun σ2 H2 => tu { D with nx := N, ct := N, bk := tz D } σ2 H2) (hd : ∀ σ' H', I σ' → Ex H H' → tz D σ' H') :
    tSeq (tFor (iTup K (tTup t)) g tu) tz D σ H := h H (Ex.refl H) _ fun vs H1 e1 hl hv => ⟨sz_of (by omega), fun p hp => ⟨p, rfl, ⟨vs, st_of upd_same⟩, for_tup (xs := vs) (D := { D with nx := tz D }) (fun _ σ' H' => I σ' ∧ Ex (upd H1 p (.tup vs)) H') ⟨h0, Ex.refl _⟩ (fun i σ' H' _ q => st_of (q.2 p _ upd_same))
      (fun i x σ' H' hx q => hs _ x σ' H' (fun σ2 H2 h2 e2 => ⟨h2, q.2.trans e2⟩) q.1 ((e1.trans (Ex.new hp)).trans q.2) (mono x H1 H' ((Ex.new hp).trans q.2) (hv x (List.mem_of_getElem? hx)))) (fun σ' H' q => hd σ' H' q.1 ((e1.trans (Ex.new hp)).trans q.2))⟩⟩
theorem s_forP {t : TA} {n : Nat} (mono : ∀ v H1 H2, Ex H1 H2 → P v H1 → P v H2) (h : EvAll t σ H n P) (hn : n ≤ 1000) (I : L2.St → Prop) (h0 : I σ)
    (hs : ∀ (N : L2.St → Hp → Prop) x σ' H', (∀ σ2 H2, I σ2 → Ex H' H2 → N σ2 H2) → I σ' → Ex H H' → P x H' → g x σ' H' fun σ2 H2 => tu { D with nx := N, ct := N, bk := D.nx } σ2 H2) (hd : ∀ σ' H', I σ' → Ex H H' → D.nx σ' H') :
    tFor (iTup K (tTup t)) g tu D σ H := q_forP (tz := fun D σ H => D.nx σ H) mono h hn I h0 hs hd
theorem ep_call {sp : Sp} {dvs vs : List V} {E : XK} {ta : TA} (h : EvA ta σ H vs) (hs : ∀ H1, Ex H H1 → ∀ Q : VK, (∀ v H2, Ex H1 H2 → P v H2 → Q v H2) → sp (vs ++ dvs) H1 Q E) : EvP (tCall sp dvs E ta) σ H P := fun H1 e Q q =>
  h H1 e _ fun H2 e2 => hs H2 (e.trans e2) Q fun v H3 e3 hv => q v H3 (e2.trans e3) hv
/-- a pair that is written, of two things that are known -/
def PairP (R : V → V → Hp → Prop) : V → Hp → Prop := fun v H => ∃ p x y, v = .ref p ∧ H p = some (.tup [x, y]) ∧ R x y H
theorem PairP.mono {R : V → V → Hp → Prop} (hr : ∀ x y H1 H2, Ex H1 H2 → R x y H1 → R x y H2) (v : V) (H1 H2 : Hp) (e : Ex H1 H2) (h : PairP R v H1) : PairP R v H2 := by
  obtain ⟨p, x, y, rfl, hp, q⟩ := h
  exact ⟨p, x, y, rfl, e p _ hp, hr x y H1 H2 e q⟩
theorem ep_pair {R : V → V → Hp → Prop} (h1 : Ev ta σ H x) (h2 : Ev tb σ H y) (hr : ∀ H2, Ex H H2 → R x y H2) : EvP (tTup (tCons ta (tCons tb tNil))) σ H (PairP R) :=
  ep_tup (eu_tup (ea_cons h1 (ea_cons h2 ea_nil)) (by show 2 ≤ 100000; decide)) fun p H2 e hp => ⟨p, x, y, rfl, hp, hr H2 e⟩
end
/-- the first turning of the one that is the other -/
def byL (l m : List Nat) : Option Nat := (List.range l.length).find? fun k => decide (turnL l k = m)
def optV : Option Nat → V
  | some k => .int k
  | none => .non
theorem find_some {n k : Nat} {p : Nat → Bool} (hk : k < n) (hp : p k = true) (hn : ∀ j, j < k → p j = false) : (List.range n).find? p = some k := by
  rw [List.find?_range_eq_some]
  exact ⟨hp, List.mem_range.mpr hk, fun j hj => by rw [hn j hj]; rfl⟩
theorem find_none {n : Nat} {p : Nat → Bool} (hn : ∀ j, j < n → p j = false) : (List.range n).find? p = none := by
  rw [List.find?_eq_none]
  intro j hj
  rw [hn j (List.mem_range.mp hj)]
  decide
theorem by_some {l m : List Nat} {k : Nat} (hk : k < l.length) (h : turnL l k = m) (hn : ∀ j, j < k → turnL l j ≠ m) : byL l m = some k := find_some hk (decide_eq_true h) fun j hj => decide_eq_false (hn j hj)
theorem by_none {l m : List Nat} (hn : ∀ j, j < l.length → turnL l j ≠ m) : byL l m = none := find_none fun j hj => decide_eq_false (hn j hj)
theorem by_bd {l m : List Nat} {k : Nat} (h : byL l m = some k) : k < l.length := List.mem_range.mp (List.mem_of_find?_eq_some h)
theorem repr_opt {l m : List Nat} (hl : l.length ≤ 1000) : plainR (optV (byL l m)) := by
  cases e : byL l m with
  | none => exact True.intro
  | some k =>
    have := by_bd e
    exact repr_int (by omega)
theorem optV_non (o : Option Nat) : decide (optV o = V.non) = !o.isSome := by
  cases o <;> rfl
/-- two words; two things of which one is no word -/
def Words (x y : V) (_ : Hp) : Prop := ∃ l m, x = .str (S l) ∧ y = .str (S m) ∧ okS l = true ∧ okS m = true
def OddOne (K : PySem.W.Frag) (x y : V) (H : Hp) : Prop := ThS K H x ∧ ThS K H y ∧ (isWordV x = false ∨ isWordV y = false)
theorem OddOne.mono {K : PySem.W.Frag} (x y : V) (H1 H2 : Hp) (e : Ex H1 H2) (h : OddOne K x y H1) : OddOne K x y H2 := ⟨ThS.mono e h.1, ThS.mono e h.2.1, h.2.2⟩
theorem ths_word {K : PySem.W.Frag} {H : Hp} {l : List Nat} (h : okS l = true) : ThS K H (.str (S l)) := .inl ⟨l, rfl, by have := (word_ok h).2.1; omega⟩
theorem scal_same {v : V} (h : plainR v) : scal v v = true := by
  cases v <;> first | rfl | exact h.elim
end Br
namespace Br
open PySem PySem.Spec PyProof.Rows L2 Evl SX

/-! ### texts in order -/
theorem lt_app {a b : List Nat} (h : a < b) (c : List Nat) : a < b ++ c := by
  induction a generalizing b with
  | nil =>
    cases b with
    | nil => exact absurd h (List.lt_irrefl _)
    | cons y b => exact List.nil_lt_cons _ _
  | cons x a ih =>
    cases b with
    | nil => exact absurd h (List.not_lt_nil _)
    | cons y b =>
      rw [List.cons_append]
      rcases List.cons_lt_cons_iff.mp h with h | ⟨h, h'⟩
      · exact List.cons_lt_cons_iff.mpr (.inl h)
      · exact List.cons_lt_cons_iff.mpr (.inr ⟨h, ih h'⟩)
theorem lt_apps {a b : List Nat} (h : a < b) (hn : ¬ a <+: b) (c d : List Nat) : a ++ c < b ++ d := by
  induction a generalizing b with
  | nil => exact absurd (List.nil_prefix) hn
  | cons x a ih =>
    cases b with
    | nil => exact absurd h (List.not_lt_nil _)
    | cons y b =>
      rw [List.cons_append, List.cons_append]
      rcases List.cons_lt_cons_iff.mp h with h | ⟨h, h'⟩
      · exact List.cons_lt_cons_iff.mpr (.inl h)
      · refine List.cons_lt_cons_iff.mpr (.inr ⟨h, ih h' fun z => hn ?_⟩)
        rw [h]
        exact List.cons_prefix_cons.mpr ⟨rfl, z⟩
theorem app_lt {c a b : List Nat} : c ++ a < c ++ b ↔ a < b := by
  induction c with
  | nil => exact Iff.rfl
  | cons x c ih =>
    rw [List.cons_append, List.cons_append, List.cons_lt_cons_iff]
    constructor
    · rintro (h | ⟨_, h⟩)
      · exact absurd h (Nat.lt_irrefl _)
      · exact ih.mp h
    · exact fun h => .inr ⟨rfl, ih.mpr h⟩
theorem pre_le {a b : List Nat} (h : a <+: b) : ¬ b < a := by
  obtain ⟨c, rfl⟩ := h
  intro z
  have z' : a ++ c < a ++ [] := by rw [List.append_nil]; exact z
  exact List.not_lt_nil _ (app_lt.mp z')
theorem lt_of_not {a b : List Nat} (h : ¬ b < a) (hne : a ≠ b) : a < b := by
  by_cases c : a < b
  · exact c
  · exact absurd (lt_tri c h) hne
theorem le_lt {a b c : List Nat} (h : ¬ b < a) (h' : b < c) : a < c := by
  by_cases e : a = b
  · rw [e]; exact h'
  · exact List.lt_trans (lt_of_not h e) h'
theorem lt_le {a b c : List Nat} (h : a < b) (h' : ¬ c < b) : a < c := by
  by_cases e : b = c
  · rw [← e]; exact h
  · exact List.lt_trans h (lt_of_not h' e)
theorem le_le {a b c : List Nat} (h : ¬ b < a) (h' : ¬ c < b) : ¬ c < a := fun z => h' (lt_le z h)

/-! ### primes: by their turnings, by their endings -/
def Lyn (l : List Nat) : Prop := 0 < l.length ∧ ∀ k, 1 ≤ k → k < l.length → l < turnL l k
def Suf (l : List Nat) : Prop := 0 < l.length ∧ ∀ k, 1 ≤ k → k < l.length → l < l.drop k
theorem lyn_of_suf {l : List Nat} (h : Suf l) : Lyn l := ⟨h.1, fun k k1 k2 => lt_app (h.2 k k1 k2) _⟩
theorem same_len {a b c d : List Nat} (hl : a.length = b.length) (h : a ++ c < b ++ d) : a < b ∨ (a = b ∧ c < d) := by
  induction a generalizing b with
  | nil =>
    have e : b = [] := List.length_eq_zero_iff.mp hl.symm
    subst e
    exact .inr ⟨rfl, h⟩
  | cons x a ih =>
    cases b with
    | nil => cases hl
    | cons y b =>
      rw [List.cons_append, List.cons_append] at h
      rcases List.cons_lt_cons_iff.mp h with g | ⟨rfl, g⟩
      · exact .inl (List.cons_lt_cons_iff.mpr (.inl g))
      · rcases ih (Nat.succ.inj hl) g with g2 | ⟨rfl, g2⟩
        · exact .inl (List.cons_lt_cons_iff.mpr (.inr ⟨rfl, g2⟩))
        · exact .inr ⟨rfl, g2⟩
theorem suf_of_lyn {l : List Nat} (h : Lyn l) : Suf l := by
  refine ⟨h.1, fun k k1 k2 => ?_⟩
  by_cases c : l < l.drop k
  · exact c
  exfalso
  -- the ending is not greater: it begins the word
  have hlt := h.2 k k1 k2
  have hne : l.drop k ≠ l := fun z => by
    have := congrArg List.length z
    rw [List.length_drop] at this
    omega
  have hs : l.drop k < l := lt_of_not c hne
  by_cases hp : l.drop k <+: l
  · obtain ⟨u, hu⟩ := hp
    have hul : u.length = k := by
      have := congrArg List.length hu
      rw [List.length_append, List.length_drop] at this
      omega
    -- l = s u, turned by k: s t
    have h1 : l.drop k ++ u < l.drop k ++ l.take k := by
      rw [hu]
      exact hlt
    have h2 : u < l.take k := app_lt.mp h1
    -- turned by as many as s has: u s
    have h3 := h.2 (l.length - k) (by omega) (by omega)
    have e : turnL l (l.length - k) = u ++ l.drop k := by
      have ed : l.drop (l.length - k) = u := by
        have := congrArg (List.drop (l.length - k)) hu
        rw [List.drop_append_of_le_length (by rw [List.length_drop]; exact Nat.le_refl _), List.drop_of_length_le (by rw [List.length_drop]; exact Nat.le_refl _)] at this
        exact this.symm
      have et : l.take (l.length - k) = l.drop k := by
        have := congrArg (List.take (l.length - k)) hu
        rw [List.take_append_of_le_length (by rw [List.length_drop]; exact Nat.le_refl _), List.take_of_length_le (by rw [List.length_drop]; exact Nat.le_refl _)] at this
        exact this.symm
      unfold turnL
      rw [ed, et]
    rw [e] at h3
    have h4 : l.take k ++ l.drop k < u ++ l.drop k := by
      rw [List.take_append_drop]
      exact h3
    rcases same_len (by rw [List.length_take, hul]; omega) h4 with h5 | ⟨_, h5⟩
    · exact List.lt_irrefl _ (List.lt_trans h2 h5)
    · exact List.lt_irrefl _ h5
  · have z := lt_apps hs hp (l.take k) []
    rw [List.append_nil] at z
    exact List.lt_irrefl _ (List.lt_trans hlt z)
/-- an ending, begun anywhere ahead of the end -/
theorem suf_le {l : List Nat} (h : Suf l) {k : Nat} (hk : k < l.length) : ¬ l.drop k < l := by
  by_cases e : k = 0
  · rw [e]
    exact List.lt_irrefl _
  · exact fun z => List.lt_irrefl _ (List.lt_trans z (h.2 k (by omega) hk))
theorem suf_cat {u v : List Nat} (hu : Suf u) (hv : Suf v) (h : u < v) : Suf (u ++ v) := by
  have huv : u ++ v < v := by
    by_cases hp : u <+: v
    · obtain ⟨t, ht⟩ := hp
      have htl : 0 < t.length := by
        cases t with
        | nil =>
          rw [List.append_nil] at ht
          rw [ht] at h
          exact absurd h (List.lt_irrefl _)
        | cons _ _ => exact Nat.succ_pos _
      have hd : v.drop u.length = t := by
        rw [← ht, List.drop_append_of_le_length (Nat.le_refl _), List.drop_of_length_le (Nat.le_refl _), List.nil_append]
      have hlen : v.length = u.length + t.length := by rw [← ht, List.length_append]
      have z := hv.2 u.length hu.1 (by omega)
      rw [hd] at z
      have z2 : u ++ v < u ++ t := app_lt.mpr z
      rw [ht] at z2
      exact z2
    · have z := lt_apps h hp v []
      rw [List.append_nil] at z
      exact z
  refine ⟨by rw [List.length_append]; have := hu.1; omega, fun k k1 k2 => ?_⟩
  by_cases hk : k < u.length
  · have z := hu.2 k k1 hk
    rw [List.drop_append_of_le_length (by omega)]
    refine lt_apps z (fun hp => ?_) v v
    have := hp.length_le
    rw [List.length_drop] at this
    omega
  · have e : (u ++ v).drop k = v.drop (k - u.length) := by
      rw [List.drop_append, List.drop_of_length_le (by omega), List.nil_append]
    rw [e]
    rw [List.length_append] at k2
    by_cases h0 : k - u.length = 0
    · rw [h0]
      exact huv
    · exact List.lt_trans huv (hv.2 _ (by omega) (by omega))
theorem suf_one (c : Nat) : Suf [c] := ⟨Nat.succ_pos _, fun k k1 k2 => absurd k2 (by rw [List.length_singleton]; omega)⟩

/-! ### the stack of primes, its top first -/
def push : List (List Nat) → List Nat → List (List Nat)
  | [], w => [w]
  | t :: rs, w => if t < w then push rs (t ++ w) else w :: t :: rs
def partsR (l : List Nat) : List (List Nat) := l.foldl (fun rs c => push rs [c]) []
def partsL (l : List Nat) : List (List Nat) := (partsR l).reverse
/-- primes, none greater than the one ahead of it (the top first: none less than the one above it) -/
def Down (rs : List (List Nat)) : Prop := (∀ t ∈ rs, Suf t) ∧ rs.Pairwise fun a b => ¬ b < a
theorem push_down : ∀ (rs : List (List Nat)) (w : List Nat), Down rs → Suf w → Down (push rs w) ∧ (push rs w).reverse.flatten = rs.reverse.flatten ++ w
  | [], w, _, hw => ⟨⟨fun t ht => by rw [List.mem_singleton.mp ht]; exact hw, List.pairwise_singleton _ _⟩, by show ([w] : List (List Nat)).reverse.flatten = _; simp⟩
  | t :: rs, w, h, hw => by
    unfold push
    by_cases c : t < w
    · rw [if_pos c]
      have hd : Down rs := ⟨fun u hu => h.1 u (List.mem_cons_of_mem _ hu), (List.pairwise_cons.mp h.2).2⟩
      obtain ⟨h1, h2⟩ := push_down rs (t ++ w) hd (suf_cat (h.1 t List.mem_cons_self) hw c)
      refine ⟨h1, ?_⟩
      rw [h2]
      simp
    · rw [if_neg c]
      refine ⟨⟨fun u hu => ?_, List.pairwise_cons.mpr ⟨fun u hu => ?_, h.2⟩⟩, by simp⟩
      · rcases List.mem_cons.mp hu with rfl | hu
        · exact hw
        · exact h.1 u hu
      · rcases List.mem_cons.mp hu with rfl | hu
        · exact c
        · exact le_le c ((List.pairwise_cons.mp h.2).1 u hu)
theorem partsR_from : ∀ (l : List Nat) (rs : List (List Nat)), Down rs → Down (l.foldl (fun rs c => push rs [c]) rs) ∧ (l.foldl (fun rs c => push rs [c]) rs).reverse.flatten = rs.reverse.flatten ++ l
  | [], rs, h => ⟨h, by simp⟩
  | c :: l, rs, h => by
    obtain ⟨h1, h2⟩ := push_down rs [c] h (suf_one c)
    obtain ⟨h3, h4⟩ := partsR_from l _ h1
    refine ⟨h3, ?_⟩
    show (l.foldl _ (push rs [c])).reverse.flatten = _
    rw [h4, h2, List.append_assoc]
    rfl
theorem partsR_ok (l : List Nat) : Down (partsR l) ∧ (partsL l).flatten = l := by
  have h := partsR_from l [] ⟨(fun _ h => nomatch h), List.Pairwise.nil⟩
  exact ⟨h.1, by have e := h.2; rw [List.reverse_nil, List.flatten_nil, List.nil_append] at e; exact e⟩
/-- primes that fall, in their own order -/
def Falls (ws : List (List Nat)) : Prop := (∀ t ∈ ws, Suf t) ∧ ws.Pairwise fun a b => ¬ a < b
theorem partsL_ok (l : List Nat) : Falls (partsL l) ∧ (partsL l).flatten = l := by
  obtain ⟨h1, h2⟩ := partsR_ok l
  exact ⟨⟨fun t ht => h1.1 t (List.mem_reverse.mp ht), List.pairwise_reverse.mpr h1.2⟩, h2⟩
theorem push_len : ∀ (rs : List (List Nat)) (w : List Nat), (push rs w).length ≤ rs.length + 1
  | [], w => Nat.le_refl _
  | t :: rs, w => by
    unfold push
    split
    · have := push_len rs (t ++ w)
      rw [List.length_cons]
      omega
    · exact Nat.le_refl _
theorem part_len {ws : List (List Nat)} {t : List Nat} (h : t ∈ ws) : t.length ≤ ws.flatten.length := by
  obtain ⟨a, b, rfl⟩ := List.append_of_mem h
  simp
  omega
theorem many_len : ∀ {ws : List (List Nat)}, (∀ t ∈ ws, Suf t) → ws.length ≤ ws.flatten.length
  | [], _ => Nat.le_refl _
  | w :: ws, h => by
    have h1 := (h w List.mem_cons_self).1
    have h2 := many_len (ws := ws) fun t ht => h t (List.mem_cons_of_mem _ ht)
    rw [List.flatten_cons, List.length_append, List.length_cons]
    omega
/-- just one way -/
theorem begins {vs : List (List Nat)} : ∀ {r rest : List Nat}, r ≠ [] → vs.flatten = r ++ rest → ∃ (x : List Nat) (v : List Nat), x ≠ [] ∧ v ∈ vs ∧ x <+: v ∧ x <:+ r := by
  induction vs with
  | nil =>
    intro r rest hr h
    have : r = [] := (List.append_eq_nil_iff.mp h.symm).1
    exact absurd this hr
  | cons v vs ih =>
    intro r rest hr h
    rw [List.flatten_cons] at h
    by_cases hl : r.length ≤ v.length
    · refine ⟨r, v, hr, List.mem_cons_self, ?_, List.suffix_refl _⟩
      have e := congrArg (List.take r.length) h
      rw [List.take_append_of_le_length hl, List.take_append_of_le_length (Nat.le_refl _), List.take_of_length_le (Nat.le_refl _)] at e
      rw [← e]
      exact List.take_prefix _ _
    · have e1 := congrArg (List.take v.length) h
      rw [List.take_append_of_le_length (Nat.le_refl _), List.take_of_length_le (Nat.le_refl _), List.take_append_of_le_length (by omega)] at e1
      have e2 := congrArg (List.drop v.length) h
      rw [List.drop_append_of_le_length (Nat.le_refl _), List.drop_of_length_le (Nat.le_refl _), List.nil_append, List.drop_append_of_le_length (by omega)] at e2
      have hne : r.drop v.length ≠ [] := fun z => by
        have := congrArg List.length z
        rw [List.length_drop, List.length_nil] at this
        omega
      obtain ⟨x, u, h1, h2, h3, h4⟩ := ih hne e2
      exact ⟨x, u, h1, List.mem_cons_of_mem _ h2, h3, h4.trans (List.drop_suffix _ _)⟩
theorem first_le {w v : List Nat} {ws vs : List (List Nat)} (hw : Falls (w :: ws)) (hv : Falls (v :: vs)) (h : (w :: ws).flatten = (v :: vs).flatten) : w.length ≤ v.length := by
  by_cases c : w.length ≤ v.length
  · exact c
  exfalso
  rw [List.flatten_cons, List.flatten_cons] at h
  have sw := hw.1 w List.mem_cons_self
  have sv := hv.1 v List.mem_cons_self
  -- w = v r
  have e1 := congrArg (List.take v.length) h
  rw [List.take_append_of_le_length (by omega), List.take_append_of_le_length (Nat.le_refl _), List.take_of_length_le (Nat.le_refl _)] at e1
  have e2 := congrArg (List.drop v.length) h
  rw [List.drop_append_of_le_length (by omega), List.drop_append_of_le_length (Nat.le_refl _), List.drop_of_length_le (Nat.le_refl _), List.nil_append] at e2
  have hne : w.drop v.length ≠ [] := fun z => by
    have := congrArg List.length z
    rw [List.length_drop, List.length_nil] at this
    omega
  obtain ⟨x, u, h1, h2, h3, ⟨q, hq⟩⟩ := begins hne e2.symm
  have hx : x = w.drop (v.length + q.length) := by
    have e := congrArg (List.drop q.length) hq
    rw [List.drop_append_of_le_length (Nat.le_refl _), List.drop_of_length_le (Nat.le_refl _), List.nil_append, List.drop_drop] at e
    exact e
  have hxl : v.length + q.length < w.length := by
    by_cases d : v.length + q.length < w.length
    · exact d
    · rw [List.drop_of_length_le (by omega)] at hx
      exact absurd hx h1
  have z1 : w < x := by
    rw [hx]
    exact sw.2 _ (by have := sv.1; omega) hxl
  have z2 : ¬ u < x := pre_le h3
  have z3 : ¬ v < u := (List.pairwise_cons.mp hv.2).1 u h2
  have z4 : ¬ w < v := pre_le (by rw [← e1]; exact List.take_prefix _ _)
  exact z4 (lt_le (lt_le z1 z2) z3)
theorem one_way : ∀ {ws vs : List (List Nat)}, Falls ws → Falls vs → ws.flatten = vs.flatten → ws = vs
  | [], [], _, _, _ => rfl
  | [], v :: vs, _, hv, h => by
    have := (hv.1 v List.mem_cons_self).1
    have e := congrArg List.length h
    rw [List.flatten_nil, List.flatten_cons, List.length_append, List.length_nil] at e
    omega
  | w :: ws, [], hw, _, h => by
    have := (hw.1 w List.mem_cons_self).1
    have e := congrArg List.length h
    rw [List.flatten_nil, List.flatten_cons, List.length_append, List.length_nil] at e
    omega
  | w :: ws, v :: vs, hw, hv, h => by
    have hl : w.length = v.length := Nat.le_antisymm (first_le hw hv h) (first_le hv hw h.symm)
    rw [List.flatten_cons, List.flatten_cons] at h
    obtain ⟨e1, e2⟩ := List.append_inj h hl
    subst e1
    have e := one_way (ws := ws) (vs := vs) ⟨fun t ht => hw.1 t (List.mem_cons_of_mem _ ht), (List.pairwise_cons.mp hw.2).2⟩ ⟨fun t ht => hv.1 t (List.mem_cons_of_mem _ ht), (List.pairwise_cons.mp hv.2).2⟩ e2
    rw [e]
theorem parts_uniq {ws : List (List Nat)} {l : List Nat} (h : Falls ws) (e : ws.flatten = l) : ws = partsL l := one_way h (partsL_ok l).1 (e.trans (partsL_ok l).2.symm)
theorem parts_one {w : List Nat} (h : Suf w) : partsL w = [w] := (parts_uniq (ws := [w]) ⟨fun t ht => by rw [List.mem_singleton.mp ht]; exact h, List.pairwise_singleton _ _⟩ (by simp)).symm
/-- the last prime is the least ending -/
theorem last_le : ∀ {ws : List (List Nat)} {z : List Nat}, Falls (ws ++ [z]) → ∀ k, k < (ws ++ [z]).flatten.length → ¬ (ws ++ [z]).flatten.drop k < z
  | [], z, h, k, hk => by
    have e : ([] ++ [z] : List (List Nat)).flatten = z := by simp
    rw [e] at hk ⊢
    exact suf_le (h.1 z (by simp)) hk
  | w :: ws, z, h, k, hk => by
    have hz : Falls (ws ++ [z]) := ⟨fun t ht => h.1 t (List.mem_cons_of_mem _ ht), (List.pairwise_cons.mp h.2).2⟩
    rw [List.cons_append, List.flatten_cons] at hk ⊢
    by_cases c : k < w.length
    · rw [List.drop_append_of_le_length (by omega)]
      have h1 : ¬ w.drop k < w := suf_le (h.1 w List.mem_cons_self) c
      have h2 : ¬ w < z := (List.pairwise_cons.mp h.2).1 z (by simp)
      have h3 : ¬ (w.drop k ++ (ws ++ [z]).flatten) < w.drop k := pre_le (List.prefix_append _ _)
      exact le_le (le_le h2 h1) h3
    · rw [List.drop_append, List.drop_of_length_le (by omega), List.nil_append]
      rw [List.length_append] at hk
      exact last_le hz _ (by omega)
end Br
namespace Br
open PySem PySem.Spec PyProof.Rows L2 Evl SX

section
variable {K : PySem.W.Frag} {σ : L2.St} {H H' : Hp} {ta tb tc te : TE} {t : TT} {x y z v : V} {P : V → Hp → Prop}
/-- the truth of a list -/
theorem et_truL {p : Addr} {xs : List V} (h : Ev ta σ H (.ref p)) (hp : SqL K H p xs) : EvT (fun σ H Q => ta σ H fun x H' => ∃ k, TruV K x H' k ∧ Q k H') σ H (!xs.isEmpty) := fun H1 e Q q =>
  h H1 e _ fun H2 e2 => ⟨_, .inl ⟨xs, ex_l (e.trans e2) hp, rfl⟩, q H2 e2⟩
/-- a stretch of a new list -/
theorem el_slN {tl th : TO} {xs : List V} {lo hi : Option Int} (h : EvL te σ H xs) (h1 : EvO tl σ H lo) (h2 : EvO th σ H hi) : EvL (tSl (rSlL K) te tl th) σ H (cutV xs lo hi) := fun H1 e _ q =>
  h H1 e _ fun p H2 hp e2 h2' => h1 H2 (e.trans e2) _ fun H3 e3 => h2 H3 ((e.trans e2).trans e3) _ fun H4 e4 => ⟨p, xs, rfl, sq_of (e4 p _ (e3 p _ h2')), fun r hr => q r _ (fresh_back ((e2.trans e3).trans e4) hr) (((e2.trans e3).trans e4).trans (Ex.new hr)) upd_same⟩
theorem cutV_from (xs : List V) (n : Nat) : cutV xs (some (n : Int)) none = xs.drop n := by
  unfold cutV
  rw [HT.sIx_nat, HT.sIx_none]
  by_cases hn : n ≤ xs.length
  · rw [Nat.min_eq_left hn, List.take_of_length_le (by rw [List.length_drop]; omega)]
  · rw [Nat.min_eq_right (by omega), List.drop_of_length_le (Nat.le_refl _), List.drop_of_length_le (by omega)]
    simp

/-! ### lists as data -/
mutual
theorem dp_mono (e : Ex H H') : ∀ (d : PyData) (v : V), Dp K H v d → Dp K H' v d
  | .none, _, .non => .non
  | .bool _, _, .bl b => .bl b
  | .int _, _, .int i => .int i
  | .str _, _, .str x => .str x
  | .list ds, _, .lst h a => .lst (ex_l e h) (dpa_mono e ds _ a)
  | .tuple ds, _, .tup h a => .tup (ex_t e h) (dpa_mono e ds _ a)
theorem dpa_mono (e : Ex H H') : ∀ (ds : List PyData) (vs : List V), DpAll K H vs ds → DpAll K H' vs ds
  | [], _, .nil => .nil
  | d :: ds, _, .cons h a => .cons (dp_mono e d _ h) (dpa_mono e ds _ a)
end
def dS (l : List Nat) : PyData := .str (S l)
def sV (l : List Nat) : V := .str (S l)
theorem dpa_strs : ∀ ls : List (List Nat), DpAll K H (ls.map sV) (ls.map dS)
  | [] => .nil
  | l :: ls => .cons (.str (S l)) (dpa_strs ls)
theorem dpa_ints : ∀ ns : List Int, DpAll K H (ns.map V.int) (ns.map PyData.int)
  | [] => .nil
  | n :: ns => .cons (.int n) (dpa_ints ns)
def EvD (K : PySem.W.Frag) (te : TE) (σ : L2.St) (H : Hp) (d : PyData) : Prop := EvP te σ H fun v H2 => Dp K H2 v d
theorem ed_strs {ls : List (List Nat)} (h : EvL te σ H (ls.map sV)) : EvD K te σ H (.list (ls.map dS)) := ep_lst h fun p H2 _ hp => .lst (sq_of hp) (dpa_strs ls)
theorem ed_ints {ns : List Int} (h : EvL te σ H (ns.map V.int)) : EvD K te σ H (.list (ns.map PyData.int)) := ep_lst h fun p H2 _ hp => .lst (sq_of hp) (dpa_ints ns)
theorem ed_var {p : Addr} {ls : List (List Nat)} (h : Ev te σ H (.ref p)) (hp : SqL K H p (ls.map sV)) : EvD K te σ H (.list (ls.map dS)) := ep_of h fun H2 e => .lst (ex_l e hp) (dpa_strs ls)
theorem ed_nil : EvD K (tLst tNil) σ H (.list []) := ep_lst (xs := []) (el_lst ea_nil (by decide)) fun p H2 _ hp => .lst (sq_of hp) .nil
theorem ed_one {d : PyData} (h : EvD K te σ H d) : EvD K (tLst (tCons te tNil)) σ H (.list [d]) := fun H1 e Q q =>
  h H1 e _ fun v H2 e2 hv => ⟨sz_of (by show 1 ≤ 100000; decide), fun p hp => q _ _ (e2.trans (Ex.new hp)) (.lst (sq_of upd_same) (.cons (dp_mono (Ex.new hp) d v hv) .nil))⟩
theorem ev_eqD {d e : PyData} (ha : EvD K ta σ H d) (hb : ∀ H1, Ex H H1 → EvD K tb σ H1 e) (h1 : SeqAt.shaped d = true) (h2 : SeqAt.shaped e = true) : Ev (tOp (rEqD K) ta tb) σ H (.bl (PyData.eqv d e)) := fun H1 e1 Q q =>
  ha H1 e1 _ fun v H2 e2 hv => hb H2 (e1.trans e2) H2 (Ex.refl H2) _ fun u H3 e3 hu => ⟨d, e, dp_mono e3 d v hv, hu, h1, h2, q H3 (e2.trans e3)⟩
theorem ev_neD {d e : PyData} (ha : EvD K ta σ H d) (hb : ∀ H1, Ex H H1 → EvD K tb σ H1 e) (h1 : SeqAt.shaped d = true) (h2 : SeqAt.shaped e = true) : Ev (tOp (rNeD K) ta tb) σ H (.bl (!PyData.eqv d e)) := fun H1 e1 Q q =>
  ha H1 e1 _ fun v H2 e2 hv => hb H2 (e1.trans e2) H2 (Ex.refl H2) _ fun u H3 e3 hu => ⟨d, e, dp_mono e3 d v hv, hu, h1, h2, q H3 (e2.trans e3)⟩
/-- letters of a text that lies in Python -/
def Lays (l : List Nat) : Prop := ∀ c ∈ l, c < 1114112
theorem lays_word {l : List Nat} (h : ∀ c ∈ l, c ∈ abc) : Lays l := fun c hc => by
  have := h c hc
  simp only [abc, List.mem_cons, List.not_mem_nil, or_false] at this
  omega
theorem lay_str {l : List Nat} (h : Lays l) : (dS l).canLay0 = true := by
  show PySem.PyData.strOk (S l) = true
  unfold PySem.PyData.strOk
  simp only [← Array.all_toList, List.all_eq_true, decide_eq_true_eq]
  exact h
theorem lay_strs : ∀ {ls : List (List Nat)}, (∀ l ∈ ls, Lays l) → PyData.canLayAll0 (ls.map dS) = true
  | [], _ => by simp [PyData.canLayAll0]
  | l :: ls, h => by
    rw [List.map_cons]
    unfold PyData.canLayAll0
    rw [lay_str (h l List.mem_cons_self), lay_strs fun m hm => h m (List.mem_cons_of_mem _ hm)]
    rfl
theorem deep_strs : ∀ ls : List (List Nat), PyData.depthAll (ls.map dS) = 0
  | [] => by simp [PyData.depthAll]
  | l :: ls => by
    rw [List.map_cons]
    unfold PyData.depthAll
    rw [deep_strs ls]
    simp [dS, PyData.depth]
theorem shape_strs {ls : List (List Nat)} (h : ∀ l ∈ ls, Lays l) : SeqAt.shaped (.list (ls.map dS)) = true := by
  unfold SeqAt.shaped
  have e1 : (PyData.list (ls.map dS)).canLay0 = true := by
    unfold PyData.canLay0
    exact lay_strs h
  have e2 : (PyData.list (ls.map dS)).depth = 1 := by
    unfold PyData.depth
    rw [deep_strs]
  rw [e1, e2]
  rfl
theorem lay_ints : ∀ ns : List Int, PyData.canLayAll0 (ns.map PyData.int) = true
  | [] => by simp [PyData.canLayAll0]
  | n :: ns => by
    rw [List.map_cons]
    unfold PyData.canLayAll0
    rw [lay_ints ns]
    simp [PyData.canLay0]
theorem deep_ints : ∀ ns : List Int, PyData.depthAll (ns.map PyData.int) = 0
  | [] => by simp [PyData.depthAll]
  | n :: ns => by
    rw [List.map_cons]
    unfold PyData.depthAll
    rw [deep_ints ns]
    simp [PyData.depth]
theorem shape_ints (ns : List Int) : SeqAt.shaped (.list (ns.map PyData.int)) = true := by
  unfold SeqAt.shaped
  have e1 : (PyData.list (ns.map PyData.int)).canLay0 = true := by
    unfold PyData.canLay0
    exact lay_ints ns
  have e2 : (PyData.list (ns.map PyData.int)).depth = 1 := by
    unfold PyData.depth
    rw [deep_ints]
  rw [e1, e2]
  rfl
theorem shape_nil : SeqAt.shaped (.list []) = true := shape_ints []
theorem eqv_strs : ∀ ls ms : List (List Nat), PyData.eqvAll (ls.map dS) (ms.map dS) = decide (ls = ms)
  | [], [] => by simp [PyData.eqvAll]
  | [], m :: ms => by simp [PyData.eqvAll]
  | l :: ls, [] => by simp [PyData.eqvAll]
  | l :: ls, m :: ms => by
    rw [List.map_cons, List.map_cons]
    unfold PyData.eqvAll
    rw [eqv_strs ls ms]
    show ((S l == S m) && decide (ls = ms)) = _
    rw [S_beq_eq]
    simp
theorem eqv_nil (ds : List PyData) : PyData.eqv (.list ds) (.list []) = ds.isEmpty := by
  cases ds <;> simp [PyData.eqv, PyData.eqvAll]
/-- [..] == [], [..] != [] of texts, of numbers -/
theorem ev_noS {ls : List (List Nat)} (h : EvL ta σ H (ls.map sV)) (hl : ∀ l ∈ ls, Lays l) : Ev (tOp (rEqD K) ta (tLst tNil)) σ H (.bl ls.isEmpty) := by
  have e := ev_eqD (K := K) (ed_strs h) (fun H1 _ => ed_nil) (shape_strs hl) shape_nil
  rw [eqv_nil, List.isEmpty_map] at e
  exact e
theorem ev_noI {ns : List Int} (h : EvL ta σ H (ns.map V.int)) : Ev (tOp (rEqD K) ta (tLst tNil)) σ H (.bl ns.isEmpty) := by
  have e := ev_eqD (K := K) (ed_ints h) (fun H1 _ => ed_nil) (shape_ints ns) shape_nil
  rw [eqv_nil, List.isEmpty_map] at e
  exact e
theorem ev_anyS {ls : List (List Nat)} (h : EvL ta σ H (ls.map sV)) (hl : ∀ l ∈ ls, Lays l) : Ev (tOp (rNeD K) ta (tLst tNil)) σ H (.bl (!ls.isEmpty)) := by
  have e := ev_neD (K := K) (ed_strs h) (fun H1 _ => ed_nil) (shape_strs hl) shape_nil
  rw [eqv_nil, List.isEmpty_map] at e
  exact e
/-- sep.join(list that stands), the sep nothing -/
theorem ev_joinV {p : Addr} {ys : List (List Nat)} (h0 : Ev ta σ H (.str (S []))) (h : Ev te σ H (.ref p)) (hp : SqL K H p (ys.map sV)) (hl : (ys.map (·.length)).sum ≤ 100000) : Ev (tM1 (rJoin K) ta te) σ H (.str (S ys.flatten)) := fun H1 e _ q =>
  h0 H1 e _ fun H2 e2 => ⟨⟨_, rfl⟩, h H2 (e.trans e2) _ fun H3 e3 => ⟨S [], p, ys.map S, rfl, rfl, .inl (by rw [List.map_map]; exact ex_l ((e.trans e2).trans e3) hp), by
    rw [lens]
    show _ + _ * 0 ≤ _
    omega, by
    rw [join_S, joinE]
    exact q H3 (e2.trans e3)⟩⟩
/-- a comprehension over two lists at once, the first one standing, the second one new -/
theorem el_lcZ {p : Addr} {xs ys : List V} {j1 j2 : Nat} {vs : List Nat} (f : Nat → Bool) (w : Nat → V) (ha : Ev ta σ H (.ref p)) (hx : SqL K H p xs) (hb : ∀ H1, Ex H H1 → EvL tb σ H1 ys) (hn : min xs.length ys.length ≤ 40000)
    (hw : ∀ x y, wipe (((wipe σ vs).set j1 (some x)).set j2 (some y)) vs = wipe σ vs)
    (ht : ∀ (i : Nat) (x y : V) H1, Ex H H1 → xs[i]? = some x → ys[i]? = some y → EvT t (((wipe σ vs).set j1 (some x)).set j2 (some y)) H1 (f i))
    (he : ∀ (i : Nat) (x y : V) H1, Ex H H1 → xs[i]? = some x → ys[i]? = some y → f i = true → Ev te (((wipe σ vs).set j1 (some x)).set j2 (some y)) H1 (w i)) :
    EvL (tLc (iZip K (tCons ta (tCons tb tNil))) (gTup K 2 (gCons (gName j1) (gCons (gName j2) gNil))) t te vs) σ H (given (min xs.length ys.length) f w) := fun H0 e Q q =>
  ha H0 e _ fun H1 e1 => hb H1 (e.trans e1) H1 (Ex.refl H1) _ fun r H2 _ e2 h2 => ⟨p, r, xs, ys, rfl, ex_l ((e.trans e1).trans e2) hx, sq_of h2, fun Dl hD =>
    lc_it (walk_zip (K := K) (a := p) (b := r) (xs := xs) (ys := ys) rfl) (Cw H2 f w Dl) ⟨hD, Ex.new hD, upd_same⟩ (fun i H' _ c => ⟨ex_l (((e.trans e1).trans e2).trans c.2.1) hx, sq_of (c.2.1 r _ h2)⟩)
      (fun i v H3 H4 hi c y => by
        obtain ⟨T, a, b, rfl, hT, rfl, ea, eb⟩ := y
        have c' : Cw H2 f w Dl i (upd H3 T (.tup [a, b])) := ⟨c.1, c.2.1.trans (Ex.new hT), by rw [upd_ne (ne_of_none c.2.2 hT)]; exact c.2.2⟩
        refine ⟨T, _, rfl, st_of upd_same, rfl, _, _, rfl, _, _, rfl, rfl, hw a b, ?_⟩
        exact cw_turn c' (by omega) (ht i a b H2 ((e.trans e1).trans e2) ea eb) (fun hf => he i a b H2 ((e.trans e1).trans e2) ea eb hf))
      (fun H3 c => q Dl H3 (fresh_back (e1.trans e2) c.1) ((e1.trans e2).trans c.2.1) c.2.2)⟩
/-- a comprehension over numbers from lo on, below n -/
theorem el_lcR2 {t1 : TA} {j : Nat} {vs : List Nat} {lo n : Int} (f : Nat → Bool) (w : Nat → V) (h : EvA t1 σ H [.int lo, .int n]) (hn : 0 ≤ lo ∧ lo ≤ 1000 ∧ 0 ≤ n ∧ n ≤ 40000) (hw : ∀ x, wipe ((wipe σ vs).set j (some x)) vs = wipe σ vs)
    (ht : ∀ (i : Nat) H1, Ex H H1 → lo + (i : Int) < n → EvT t ((wipe σ vs).set j (some (.int (lo + (i : Int))))) H1 (f i)) (he : ∀ (i : Nat) H1, Ex H H1 → lo + (i : Int) < n → f i = true → Ev te ((wipe σ vs).set j (some (.int (lo + (i : Int))))) H1 (w i)) :
    EvL (tLc (iRng2 t1) (gName j) t te vs) σ H (given (n - lo).toNat f w) := fun H0 e Q q => h H0 e _ fun H1 e1 => ⟨lo, n, rfl, ⟨by omega, by omega, by omega, by omega⟩, fun Dl hD =>
  lc_range (lo := lo) (n := (n - lo).toNat) (Cw H1 f w Dl) ⟨hD, Ex.new hD, upd_same⟩ (fun i H' hi c => ⟨hw _, cw_turn c (by omega) (ht i H1 (e.trans e1) (by omega)) (fun hf => he i H1 (e.trans e1) (by omega) hf)⟩) (fun H' c => q Dl H' (fresh_back e1 c.1) (e1.trans c.2.1) c.2.2)⟩
end
theorem given_none {n : Nat} {f : Nat → Bool} {v : Nat → V} (h : ∀ i, i < n → f i = false) : given n f v = [] := by
  unfold given
  have : (List.range n).filter f = [] := List.filter_eq_nil_iff.mpr fun i hi => by rw [h i (List.mem_range.mp hi)]; decide
  rw [this]
  rfl
/-- prime, by trying all turnings -/
def primeB (l : List Nat) : Bool := ((turnsL l).drop 1).all fun t => decide (l < t)
theorem drop_turns (l : List Nat) : (turnsL l).drop 1 = (List.range (l.length - 1)).map fun k => turnL l (1 + k) := by
  unfold turnsL
  cases e : l.length with
  | zero => rfl
  | succ n =>
    rw [List.range_succ_eq_map, List.map_cons, List.map_map]
    show (List.range n).map _ = _
    refine List.map_congr_left fun k _ => ?_
    show turnL l (k + 1) = turnL l (1 + k)
    rw [Nat.add_comm]
theorem primeB_iff {l : List Nat} (hl : 0 < l.length) : primeB l = true ↔ Lyn l := by
  unfold primeB
  rw [drop_turns, List.all_map, List.all_eq_true]
  constructor
  · intro h
    refine ⟨hl, fun k k1 k2 => ?_⟩
    have := h (k - 1) (List.mem_range.mpr (by omega))
    have e : 1 + (k - 1) = k := by omega
    simp only [Function.comp, e] at this
    exact of_decide_eq_true this
  · intro h k hk
    have := List.mem_range.mp hk
    exact decide_eq_true (h.2 (1 + k) (by omega) (by omega))
theorem primeB_suf {l : List Nat} (h : Suf l) : primeB l = true := (primeB_iff h.1).mpr (lyn_of_suf h)
theorem suf_primeB {l : List Nat} (hl : 0 < l.length) (h : primeB l = true) : Suf l := suf_of_lyn ((primeB_iff hl).mp h)
theorem parts_word {l w : List Nat} (h : okS l = true) (hw : w ∈ partsL l) : okS w = true := by
  obtain ⟨h1, h2⟩ := partsL_ok l
  obtain ⟨w1, w2, w3⟩ := word_ok h
  have hp := (h1.1 w hw).1
  have hle := part_len hw
  rw [h2] at hle
  refine ok_word hp (by omega) fun c hc => w3 c ?_
  rw [← h2]
  exact List.mem_flatten.mpr ⟨w, hw, hc⟩
theorem parts_many {l : List Nat} (h : okS l = true) : (partsL l).length ≤ 60 := by
  obtain ⟨h1, h2⟩ := partsL_ok l
  have := many_len h1.1
  rw [h2] at this
  have := (word_ok h).2.1
  omega
theorem sum_lens : ∀ ws : List (List Nat), (ws.map (·.length)).sum = ws.flatten.length
  | [] => rfl
  | w :: ws => by
    rw [List.map_cons, List.sum_cons, sum_lens ws, List.flatten_cons, List.length_append]
end Br
namespace Br
open PySem PySem.Spec PyProof.Rows L2 Evl SX

/-! ### lists of lists of texts -/
def LLs (H : Hp) (xs : List V) (lss : List (List (List Nat))) : Prop := xs.length = lss.length ∧ ∀ (i : Nat) (x : V) (ws : List (List Nat)), xs[i]? = some x → lss[i]? = some ws → ∃ q, x = .ref q ∧ H q = some (.lst (ws.map sV))
def IsLL (H : Hp) (v : V) (lss : List (List (List Nat))) : Prop := ∃ p xs, v = .ref p ∧ H p = some (.lst xs) ∧ LLs H xs lss
theorem LLs.mono {H H' : Hp} {xs : List V} {lss : List (List (List Nat))} (e : Ex H H') (h : LLs H xs lss) : LLs H' xs lss := ⟨h.1, fun i x ws hx hw => by
  obtain ⟨q, e1, e2⟩ := h.2 i x ws hx hw
  exact ⟨q, e1, e q _ e2⟩⟩
theorem LLs.nil {H : Hp} : LLs H [] [] := ⟨rfl, fun i x ws hx _ => by cases hx⟩
theorem LLs.app {H : Hp} {xs ys : List V} {ls ms : List (List (List Nat))} (h1 : LLs H xs ls) (h2 : LLs H ys ms) : LLs H (xs ++ ys) (ls ++ ms) := by
  refine ⟨by rw [List.length_append, List.length_append, h1.1, h2.1], fun i x ws hx hw => ?_⟩
  by_cases hi : i < xs.length
  · rw [List.getElem?_append_left hi] at hx
    rw [List.getElem?_append_left (by rw [← h1.1]; exact hi)] at hw
    exact h1.2 i x ws hx hw
  · rw [List.getElem?_append_right (by omega)] at hx
    rw [List.getElem?_append_right (by rw [← h1.1]; omega), ← h1.1] at hw
    exact h2.2 _ x ws hx hw
theorem LLs.one {H : Hp} {q : Addr} {ws : List (List Nat)} (h : H q = some (.lst (ws.map sV))) : LLs H [.ref q] [ws] := ⟨rfl, fun i x ws' hx hw => by
  match i, hx, hw with
  | 0, hx, hw => exact ⟨q, (Option.some.inj hx).symm, by rw [← Option.some.inj hw]; exact h⟩
  | i + 1, hx, _ => cases hx⟩
section
variable {K : PySem.W.Frag} {σ : L2.St} {H H' : Hp} {ta tb tc te tx : TE} {t : TT} {x y z v : V}
theorem dp_ll : ∀ (xs : List V) (lss : List (List (List Nat))), LLs H xs lss → DpAll K H xs (lss.map fun ws => PyData.list (ws.map dS))
  | [], [], _ => .nil
  | [], _ :: _, h => by cases h.1
  | _ :: _, [], h => by cases h.1
  | x :: xs, ws :: lss, h => by
    obtain ⟨q, rfl, hq⟩ := h.2 0 x ws rfl rfl
    exact .cons (.lst (sq_of hq) (dpa_strs ws)) (dp_ll xs lss ⟨Nat.succ.inj h.1, fun i x ws hx hw => h.2 (i + 1) x ws hx hw⟩)
theorem ed_ll {lss : List (List (List Nat))} (h : EvP te σ H fun v H2 => IsLL H2 v lss) : EvD K te σ H (.list (lss.map fun ws => PyData.list (ws.map dS))) := fun H1 e Q q =>
  h H1 e Q fun v H2 e2 hv => by
    obtain ⟨p, xs, rfl, hp, hl⟩ := hv
    exact q _ H2 e2 (.lst (sq_of hp) (dp_ll xs lss hl))
/-- a comprehension over a new list of lists of texts, that hands on lists of texts -/
theorem ep_lcLL {lss : List (List (List Nat))} {j : Nat} {vs : List Nat} (f : List (List Nat) → Bool) (g : List (List Nat) → List (List Nat)) (h : EvP tx σ H fun v H2 => IsLL H2 v lss) (hz : lss.length ≤ 10000) (hw : ∀ x, wipe ((wipe σ vs).set j (some x)) vs = wipe σ vs)
    (ht : ∀ ws q H1, ws ∈ lss → Ex H H1 → H1 q = some (.lst (ws.map sV)) → EvT t ((wipe σ vs).set j (some (.ref q))) H1 (f ws))
    (he : ∀ ws q H1, ws ∈ lss → Ex H H1 → H1 q = some (.lst (ws.map sV)) → f ws = true → EvP te ((wipe σ vs).set j (some (.ref q))) H1 fun v H2 => ∃ r, v = .ref r ∧ (H1 r = none ∨ r = q) ∧ H2 r = some (.lst ((g ws).map sV))) :
    EvP (tLc (iList K tx) (gName j) t te vs) σ H fun v H2 => IsLL H2 v ((lss.filter f).map g) := fun H0 e0 Q q =>
  h H0 e0 _ fun v H1 e1 hv => by
    obtain ⟨p, xs, rfl, hp, hl⟩ := hv
    have hlen := hl.1
    refine ⟨p, rfl, ⟨xs, sq_of hp⟩, fun Dl hD => lc_list (xs := xs) (fun i H' => ∃ acc, H' Dl = some (.lst acc) ∧ Ex H1 H' ∧ LLs H' acc (((lss.take i).filter f).map g) ∧ ∀ x, x ∈ acc → x ≠ .ref Dl) ⟨[], upd_same, Ex.new hD, LLs.nil, fun x hx => by cases hx⟩ (fun i H' _ c => ex_l (let ⟨_, _, c, _⟩ := c; c) (sq_of hp)) ?_ ?_⟩
    · rintro i x H2 hx ⟨acc, h2, e2, hacc, hnD⟩
      have hi : i < lss.length := by
        rw [← hlen]
        exact (List.getElem?_eq_some_iff.mp hx).1
      have hws : lss[i]? = some lss[i] := List.getElem?_eq_getElem hi
      obtain ⟨r, rfl, hr⟩ := hl.2 i x lss[i] hx hws
      have hmem : lss[i] ∈ lss := List.getElem_mem hi
      have e02 := (e0.trans e1).trans e2
      have hr2 := e2 r _ hr
      have hD0 : H1 Dl = none := hD
      have hrD : r ≠ Dl := fun z => by
        rw [z, hD0] at hr
        cases hr
      have htake : lss.take (i + 1) = lss.take i ++ [lss[i]] := by rw [List.take_succ, hws]; rfl
      refine ⟨hw _, ht lss[i] r H2 hmem e02 hr2 H2 (Ex.refl H2) _ fun H3 e3 => ?_⟩
      cases hf : f lss[i] with
      | true =>
        refine (show (if true = true then _ else _) from iteT ?_)
        refine he lss[i] r H3 hmem (e02.trans e3) (e3 r _ hr2) hf H3 (Ex.refl H3) _ fun u H4 e4 hu => ?_
        obtain ⟨r2, rfl, hfr, hr2'⟩ := hu
        have hacc4 := hacc.mono (e3.trans e4)
        have e14 : Ex H1 (upd H4 Dl (.lst (acc ++ [.ref r2]))) := Ex.mut ((e2.trans e3).trans e4) hD0
        have hlz : acc.length ≤ 10000 := by
          have z1 := hacc.1
          have z2 := List.length_filter_le f (lss.take i)
          rw [List.length_map] at z1
          rw [List.length_take] at z2
          omega
        have hr2D : r2 ≠ Dl := fun z => by
          rcases hfr with hfr | hfr
          · rw [z, e3 Dl _ h2] at hfr
            cases hfr
          · exact hrD (hfr ▸ z)
        refine ⟨acc, e4 Dl _ (e3 Dl _ h2), sz_lt (by omega), acc ++ [.ref r2], upd_same, e14, ?_, ?_⟩
        · rw [htake, List.filter_append, List.map_append]
          have hone : ([lss[i]].filter f).map g = [g lss[i]] := by
            rw [List.filter_cons, if_pos hf]
            rfl
          rw [hone]
          refine LLs.app ⟨hacc4.1, fun k x ws hx hw => ?_⟩ (LLs.one (by rw [upd_ne hr2D]; exact hr2'))
          obtain ⟨r', e1', e2'⟩ := hacc4.2 k x ws hx hw
          have hne : r' ≠ Dl := fun z => hnD x (List.mem_of_getElem? hx) (by rw [e1', z])
          exact ⟨r', e1', by rw [upd_ne hne]; exact e2'⟩
        · intro x hx
          rcases List.mem_append.mp hx with hx | hx
          · exact hnD x hx
          · rw [List.mem_singleton.mp hx]
            exact fun z => hr2D (by injection z)
      | false =>
        refine (show (if false = true then _ else _) from iteF ?_)
        refine ⟨acc, e3 Dl _ h2, e2.trans e3, ?_, hnD⟩
        rw [htake, List.filter_append, List.map_append]
        have hone : ([lss[i]].filter f).map g = [] := by
          rw [List.filter_cons, if_neg (by rw [hf]; decide)]
          rfl
        rw [hone, List.append_nil]
        exact hacc.mono e3
    · rintro H2 ⟨acc, h2, e2, hacc, _⟩
      rw [List.take_of_length_le (by omega)] at hacc
      exact q _ H2 (e1.trans e2) ⟨Dl, acc, rfl, h2, hacc⟩
end
end Br
namespace Br
open PySem PySem.Spec PyProof.Rows L2 Evl SX

/-! ### all ways to part a word -/
def waysTo (W : List Nat → List (List (List Nat))) (l : List Nat) (i : Nat) : List (List (List Nat)) := (List.range i).flatMap fun k => (W (l.drop (k + 1))).map (l.take (k + 1) :: ·)
def waysN : Nat → List Nat → List (List (List Nat))
  | 0, _ => []
  | n + 1, l => if l = [] then [[]] else waysTo (waysN n) l l.length
theorem waysTo_succ (W : List Nat → List (List (List Nat))) (l : List Nat) (i : Nat) : waysTo W l (i + 1) = waysTo W l i ++ (W (l.drop (i + 1))).map (l.take (i + 1) :: ·) := by
  unfold waysTo
  rw [List.range_succ, List.flatMap_append]
  simp
theorem ways_many : ∀ (n : Nat) (l : List Nat), l.length < n → (waysN n l).length ≤ 2 ^ l.length ∧ ∀ i, i ≤ l.length → (waysTo (waysN (n - 1)) l i).length + 2 ^ (l.length - i) ≤ 2 ^ l.length
  | 0, _, h => absurd h (Nat.not_lt_zero _)
  | n + 1, l, h => by
    have part : ∀ i, i ≤ l.length → (waysTo (waysN n) l i).length + 2 ^ (l.length - i) ≤ 2 ^ l.length := by
      intro i
      induction i with
      | zero =>
        intro _
        simp [waysTo]
      | succ i ih =>
        intro hi
        have h1 := ih (by omega)
        have h2 := (ways_many n (l.drop (i + 1)) (by rw [List.length_drop]; omega)).1
        rw [List.length_drop] at h2
        rw [waysTo_succ, List.length_append, List.length_map]
        have e : l.length - i = (l.length - (i + 1)) + 1 := by omega
        rw [e, Nat.pow_succ] at h1
        omega
    refine ⟨?_, part⟩
    show (if l = [] then [[]] else waysTo (waysN n) l l.length).length ≤ _
    by_cases c : l = []
    · rw [if_pos c]
      exact Nat.one_le_two_pow
    · rw [if_neg c]
      exact Nat.le_trans (Nat.le_add_right _ _) (part l.length (Nat.le_refl _))
theorem ways_mem : ∀ (n : Nat) (l : List Nat) (ws : List (List Nat)), l.length < n → (ws ∈ waysN n l ↔ ws.flatten = l ∧ ∀ w ∈ ws, w ≠ [])
  | 0, _, _, h => absurd h (Nat.not_lt_zero _)
  | n + 1, l, ws, h => by
    show ws ∈ (if l = [] then [[]] else waysTo (waysN n) l l.length) ↔ _
    by_cases c : l = []
    · rw [if_pos c, List.mem_singleton]
      constructor
      · rintro rfl
        exact ⟨c.symm, fun w hw => by cases hw⟩
      · rintro ⟨h1, h2⟩
        cases ws with
        | nil => rfl
        | cons w ws =>
          rw [c, List.flatten_cons] at h1
          exact absurd (List.append_eq_nil_iff.mp h1).1 (h2 w List.mem_cons_self)
    · rw [if_neg c]
      have hpos : 0 < l.length := List.length_pos_iff.mpr c
      unfold waysTo
      rw [List.mem_flatMap]
      constructor
      · rintro ⟨k, hk, hm⟩
        obtain ⟨v, hv, rfl⟩ := List.mem_map.mp hm
        have hk := List.mem_range.mp hk
        obtain ⟨h1, h2⟩ := (ways_mem n _ v (by rw [List.length_drop]; omega)).mp hv
        refine ⟨by rw [List.flatten_cons, h1, List.take_append_drop], fun w hw => ?_⟩
        rcases List.mem_cons.mp hw with e | hw
        · rw [e]
          intro z
          have := congrArg List.length z
          rw [List.length_take, List.length_nil] at this
          omega
        · exact h2 w hw
      · rintro ⟨h1, h2⟩
        cases ws with
        | nil => exact absurd h1.symm c
        | cons w v =>
          have hw := List.length_pos_iff.mpr (h2 w List.mem_cons_self)
          rw [List.flatten_cons] at h1
          have hl : w.length + v.flatten.length = l.length := by rw [← h1, List.length_append]
          refine ⟨w.length - 1, List.mem_range.mpr (by omega), List.mem_map.mpr ⟨v, ?_, ?_⟩⟩
          · rw [show w.length - 1 + 1 = w.length by omega]
            refine (ways_mem n _ v (by rw [List.length_drop]; omega)).mpr ⟨?_, fun u hu => h2 u (List.mem_cons_of_mem _ hu)⟩
            rw [← h1, List.drop_left]
          · rw [show w.length - 1 + 1 = w.length by omega, ← h1, List.take_left]
theorem ways_once : ∀ (n : Nat) (l : List Nat), (waysN n l).Pairwise (· ≠ ·)
  | 0, _ => List.Pairwise.nil
  | n + 1, l => by
    show (if l = [] then [[]] else waysTo (waysN n) l l.length).Pairwise _
    by_cases c : l = []
    · rw [if_pos c]
      exact List.pairwise_singleton _ _
    · rw [if_neg c]
      unfold waysTo
      rw [List.pairwise_flatMap]
      refine ⟨fun k _ => ?_, ?_⟩
      · rw [List.pairwise_map]
        exact (ways_once n _).imp fun h z => h (List.cons.inj z).2
      · refine List.Pairwise.imp_of_mem (fun {a b} ha hb hab => ?_) (List.pairwise_lt_range (n := l.length))
        intro x hx y hy
        have ha := List.mem_range.mp ha
        have hb := List.mem_range.mp hb
        obtain ⟨u, _, rfl⟩ := List.mem_map.mp hx
        obtain ⟨v, _, rfl⟩ := List.mem_map.mp hy
        intro z
        have z1 := congrArg List.length (List.cons.inj z).1
        rw [List.length_take, List.length_take] at z1
        omega
theorem filter_one {α : Type} {f : α → Bool} {x : α} : ∀ {xs : List α}, xs.Pairwise (· ≠ ·) → x ∈ xs → (∀ y ∈ xs, f y = true ↔ y = x) → xs.filter f = [x]
  | [], _, h, _ => by cases h
  | y :: ys, hp, h, hf => by
    obtain ⟨h1, h2⟩ := List.pairwise_cons.mp hp
    by_cases e : y = x
    · have hn : ys.filter f = [] := List.filter_eq_nil_iff.mpr fun z hz hfz => h1 z hz (e.trans ((hf z (List.mem_cons_of_mem _ hz)).mp hfz).symm)
      rw [List.filter_cons, if_pos ((hf y List.mem_cons_self).mpr e), hn, e]
    · have hm : x ∈ ys := by
        rcases List.mem_cons.mp h with z | z
        · exact absurd z.symm e
        · exact z
      rw [List.filter_cons, if_neg fun z => e ((hf y List.mem_cons_self).mp z)]
      exact filter_one h2 hm fun z hz => hf z (List.mem_cons_of_mem _ hz)
/-- a way that has primes alone that don't rise -/
def risesAt (ws : List (List Nat)) (i : Nat) : Bool := decide (ws.getD i [] < ws.getD (i + 1) [])
def noRise (ws : List (List Nat)) : Bool := ((List.range (ws.length - 1)).filter (risesAt ws)).isEmpty
def goodB (ws : List (List Nat)) : Bool := noRise ws && ws.all primeB
theorem falls_of {ws : List (List Nat)} (h : ∀ i, i + 1 < ws.length → ¬ ws.getD i [] < ws.getD (i + 1) []) : ws.Pairwise fun a b => ¬ a < b := by
  have chain : ∀ (d i : Nat), i + d < ws.length → ¬ ws.getD i [] < ws.getD (i + d) [] := by
    intro d
    induction d with
    | zero =>
      intro i _ z
      exact absurd z (List.lt_irrefl _)
    | succ d ih =>
      intro i hi
      exact le_le (h (i + d) (by omega)) (ih i (by omega))
  rw [List.pairwise_iff_getElem]
  intro i j hi hj hij
  have := chain (j - i) i (by omega)
  rw [show i + (j - i) = j by omega] at this
  rw [List.getD_eq_getElem?_getD, List.getD_eq_getElem?_getD, List.getElem?_eq_getElem hi, List.getElem?_eq_getElem hj] at this
  exact this
theorem good_falls {ws : List (List Nat)} (hn : ∀ w ∈ ws, w ≠ []) : goodB ws = true ↔ Falls ws := by
  unfold goodB noRise
  rw [Bool.and_eq_true, List.isEmpty_iff, List.filter_eq_nil_iff, List.all_eq_true]
  constructor
  · rintro ⟨h1, h2⟩
    refine ⟨fun w hw => suf_primeB (List.length_pos_iff.mpr (hn w hw)) (h2 w hw), falls_of fun i hi z => h1 i (List.mem_range.mpr (by omega)) (decide_eq_true z)⟩
  · rintro ⟨h1, h2⟩
    refine ⟨fun i hi z => ?_, fun w hw => primeB_suf (h1 w hw)⟩
    have hi := List.mem_range.mp hi
    have z := of_decide_eq_true z
    rw [List.getD_eq_getElem?_getD, List.getD_eq_getElem?_getD, List.getElem?_eq_getElem (show i < ws.length by omega), List.getElem?_eq_getElem (show i + 1 < ws.length by omega)] at z
    exact (List.pairwise_iff_getElem.mp h2) i (i + 1) (by omega) (by omega) (by omega) z
theorem ways_good {l : List Nat} {n : Nat} (h : l.length < n) : (waysN n l).filter goodB = [partsL l] := by
  obtain ⟨h1, h2⟩ := partsL_ok l
  have hne : ∀ w ∈ partsL l, w ≠ [] := fun w hw z => by
    have := (h1.1 w hw).1
    rw [z] at this
    exact absurd this (Nat.lt_irrefl _)
  refine filter_one (ways_once n l) ((ways_mem n l _ h).mpr ⟨h2, hne⟩) fun ws hws => ?_
  obtain ⟨e1, e2⟩ := (ways_mem n l ws h).mp hws
  rw [good_falls e2]
  constructor
  · intro hf
    exact parts_uniq hf e1
  · rintro rfl
    exact h1
section
variable {K : PySem.W.Frag} {σ : L2.St} {H H' : Hp} {ta tb tc te tx : TE} {t : TT} {x y z v : V}
theorem el_catR {p : Addr} {xs ys : List V} (ha : EvL ta σ H xs) (hb : Ev tb σ H (.ref p)) (hp : H p = some (.lst ys)) (hl : xs.length + ys.length ≤ 100000) : EvL (tOp rCat ta tb) σ H (xs ++ ys) := fun H1 e Q q =>
  ha H1 e _ fun r H2 hr e2 h2 => hb H2 (e.trans e2) _ fun H3 e3 => ⟨r, p, xs, ys, rfl, rfl, e3 r _ h2, e3 p _ (e2 p _ (e p _ hp)), sz_of hl, fun s hs => q s _ (fresh_back (e2.trans e3) hs) ((e2.trans e3).trans (Ex.new hs)) upd_same⟩
/-- a list of lists of texts and another one, the first one standing -/
theorem ep_catLL {p : Addr} {xs : List V} {ls ms : List (List (List Nat))} (ha : Ev ta σ H (.ref p)) (hp : H p = some (.lst xs)) (hl : LLs H xs ls) (hb : EvP tb σ H fun v H2 => IsLL H2 v ms) (hz : ls.length + ms.length ≤ 100000) : EvP (tOp rCat ta tb) σ H fun v H2 => IsLL H2 v (ls ++ ms) := fun H1 e Q q =>
  ha H1 e _ fun H2 e2 => hb H2 (e.trans e2) _ fun v H3 e3 hv => by
    obtain ⟨r, ys, rfl, h3, hy⟩ := hv
    refine ⟨p, r, xs, ys, rfl, rfl, e3 p _ (e2 p _ (e p _ hp)), h3, sz_of (by rw [hl.1, hy.1]; exact hz), fun s hs => q _ _ ((e2.trans e3).trans (Ex.new hs)) ⟨s, xs ++ ys, rfl, upd_same, LLs.app (hl.mono (((e.trans e2).trans e3).trans (Ex.new hs))) (hy.mono (Ex.new hs))⟩⟩
/-- [[]] -/
theorem ep_oneLL : EvP (tLst (tCons (tLst tNil) tNil)) σ H fun v H2 => IsLL H2 v [[]] := fun H1 e Q q =>
  ⟨sz_of (by show 0 ≤ 100000; decide), fun p hp => ⟨sz_of (by show 1 ≤ 100000; decide), fun r hr => q _ _ ((Ex.new hp).trans (Ex.new hr)) ⟨r, [.ref p], rfl, upd_same, LLs.one (Ex.new hr p _ upd_same)⟩⟩⟩
end
end Br
namespace Br
open PySem PySem.Spec PyProof.Rows L2 Evl SX
def topS (i : Nat) : Stmt := PySem.Challenge.pw_beadrings_k05_whole_one_way.main.body.getD i (.Pass ⟨0, 0, 0, 0⟩)
abbrev s_is_word : Stmt := topS 6
abbrev N_is_word : List Str := ["thing", "letter"]
theorem sc_is_word : FnScope N_is_word ["thing"] (defScope s_is_word) := ⟨rfl, rfl, rfl, by decide +kernel, rfl, by decide +kernel, by decide +kernel⟩
abbrev s_need_word : Stmt := topS 7
abbrev N_need_word : List Str := ["thing"]
theorem sc_need_word : FnScope N_need_word ["thing"] (defScope s_need_word) := ⟨rfl, rfl, rfl, by decide +kernel, rfl, by decide +kernel, by decide +kernel⟩
abbrev s_parts_of : Stmt := topS 9
abbrev N_parts_of : List Str := ["word", "parts", "letter", "part"]
theorem sc_parts_of : FnScope N_parts_of ["word"] (defScope s_parts_of) := ⟨rfl, rfl, rfl, by decide +kernel, rfl, by decide +kernel, by decide +kernel⟩
abbrev s__law_mixed : Stmt := topS 11
abbrev N__law_mixed : List Str := ["_law_cell", "_law_k", "_law_number_here"]
theorem sc__law_mixed : FnScope N__law_mixed ["_law_cell", "_law_k"] (defScope s__law_mixed) := ⟨rfl, rfl, rfl, by decide +kernel, rfl, by decide +kernel, by decide +kernel⟩
abbrev s__law_number : Stmt := topS 12
abbrev N__law_number : List Str := ["_law_script", "_law_k", "_law_cell"]
theorem sc__law_number : FnScope N__law_number ["_law_script", "_law_k"] (defScope s__law_number) := ⟨rfl, rfl, rfl, by decide +kernel, rfl, by decide +kernel, by decide +kernel⟩
abbrev s__law_word : Stmt := topS 13
abbrev N__law_word : List Str := ["_law_script", "_law_at", "_law_number_here", "_law_few", "_law_size", "_law_k", "_law_word_here", "_law_again", "_law_place"]
theorem sc__law_word : FnScope N__law_word ["_law_script", "_law_at"] (defScope s__law_word) := ⟨rfl, rfl, rfl, by decide +kernel, rfl, by decide +kernel, by decide +kernel⟩
abbrev s__law_is_prime : Stmt := topS 14
abbrev N__law_is_prime : List Str := ["_law_word_here", "_law_k"]
theorem sc__law_is_prime : FnScope N__law_is_prime ["_law_word_here"] (defScope s__law_is_prime) := ⟨rfl, rfl, rfl, by decide +kernel, rfl, by decide +kernel, by decide +kernel⟩
abbrev s__law_ways : Stmt := topS 15
abbrev N__law_ways : List Str := ["_law_word_here", "_law_found", "_law_size", "_law_others"]
theorem sc__law_ways : FnScope N__law_ways ["_law_word_here"] (defScope s__law_ways) := ⟨rfl, rfl, rfl, by decide +kernel, rfl, by decide +kernel, by decide +kernel⟩
abbrev s__law_good : Stmt := topS 16
abbrev N__law_good : List Str := ["_law_way", "_law_one", "_law_two"]
theorem sc__law_good : FnScope N__law_good ["_law_way"] (defScope s__law_good) := ⟨rfl, rfl, rfl, by decide +kernel, rfl, by decide +kernel, by decide +kernel⟩
abbrev s_law : Stmt := topS 17
abbrev N_law : List Str := ["_law_script", "_law_k", "_law_word_here", "_law_few", "_law_way", "_law_found", "_law_whole", "_law_one", "_law_place"]
theorem sc_law : FnScope N_law ["_law_script"] (defScope s_law) := ⟨rfl, rfl, rfl, by decide +kernel, rfl, by decide +kernel, by decide +kernel⟩
structure Txt (K : PySem.W.Frag) (mg : Str → Option Value) (cE cW : Addr) : Prop where
  b_all : mg "all" = none
  b_isinstance : mg "isinstance" = none
  b_len : mg "len" = none
  b_min : mg "min" = none
  b_range : mg "range" = none
  b_str : mg "str" = none
  b_zip : mg "zip" = none
  c_MOST_LETTERS : ∃ u, mg "MOST_LETTERS" = some u ∧ RelV (.int 60) u
  c_LETTERS : ∃ u, mg "LETTERS" = some u ∧ RelV (.str "abcdefgh") u
  k_BeadError : mg "BeadError" = some (.ref cE)
  k_BadWord : mg "BadWord" = some (.ref cW)
  x_BadWord : PySem.W.excIn K cW [.type "ValueError", .type "Exception", .type "BaseException", .type "object"] "ValueError.__new__" = true
  p_BadWord : PySem.W.keepIn K (.ref cW) = true
  s_BadWord : PySem.W.subIn K (.ref cW) (.type "BaseException") = some true
  y_BadWord : PySem.W.typeIn K (.ref cW) = some (.type "type")
section
variable {P : Program} {w : World} {K : PySem.W.Frag} {mg : Str → Option Value} {base : Heap} {cE cW : Addr}

local macro_rules | `(tactic| walk_at "br_rv") => `(tactic| first
  | exact rv_I0
  | exact rv_I (show (0 : Int) < _ by omega)
  | exact rv_I (show CDiv _ _ from ⟨by omega, by omega⟩)
  | exact rv_I (show CMul _ _ from Or.inl ⟨by omega, by omega⟩)
  | exact rv_I (show CMul _ _ from Or.inr ⟨by omega, by omega⟩)
  | exact rv_eqI
  | exact rv_neI
  | exact rv_eqS
  | exact rv_neS
  | exact rv_ltS
  | exact rv_leS)
local macro_rules | `(tactic| walk_at "br_ev") => `(tactic| first
  | exact ev_c
  | exact ev_var rfl
  | (apply ev_op; walk_at "br_ev"; walk_at "br_ev"; walk_at "br_rv"))

theorem has__law_mixed (T : Txt K mg cE cW) (S0 : Src K mg "_law_mixed" s__law_mixed ["_law_cell", "_law_k"]) : Has P w K mg base CX0 1 "_law_mixed" ["_law_cell", "_law_k"] sp_mixed := by
  obtain ⟨f, fd, gm, F, b⟩ := S0
  refine ⟨f, fd, gm, F.kp, b, F.ok sc__law_mixed (fun vs H Q E h => ?_) (fun cdv A outer s H vs Q E hr h => ⟨_, (pss_cons (ps_set (i := 2) sc__law_mixed.nd rfl (Or.inl rfl) (pe_op op_mod (pe_op op_mul (pe_op op_add (pe_op op_add (pe_op op_add (pe_op op_mod (pv 0) pe_int) (pe_op op_mul (pe_op op_mul pe_int (pv 1)) (pv 1))) (pe_op op_mul pe_int (pv 1))) pe_int) pe_int) pe_int)) (pss_one (ps_ret (pe_op op_fdiv (pe_op op_mod (pe_op op_mul (pv 2) (pe_op op_add (pe_op op_mod (pv 2) pe_int) pe_int)) pe_int) pe_int)))), ?_⟩)⟩
  · obtain ⟨c, k, rfl, _⟩ := h
    rfl
  · obtain ⟨c, k, rfl, k0, k1, q⟩ := h
    have hk : 0 ≤ k * k ∧ k * k ≤ 100000 * 100000 := ⟨Int.mul_nonneg k0 k0, Int.mul_le_mul k1 k1 k0 (by decide)⟩
    have e1 : 7919 * k * k = 7919 * (k * k) := Int.mul_assoc _ _ _
    have hc : 0 ≤ c % 1000000007 ∧ c % 1000000007 < 1000000007 := ⟨Int.emod_nonneg _ (by decide), Int.emod_lt_of_pos _ (by decide)⟩
    have hn : 0 ≤ mixN c k ∧ mixN c k < 2147483647 := ⟨Int.emod_nonneg _ (by decide), Int.emod_lt_of_pos _ (by decide)⟩
    refine q_asg (v := .int (mixN c k)) (ev_is (v := .int ((c % 1000000007 + 7919 * k * k + 31 * k + 17) * 48271 % 2147483647)) (by walk_at "br_ev") rfl) fun H1 e1' => ?_
    refine s_ret (v := .int (mixed c k)) (ev_is (v := .int (mixN c k * (mixN c k % 65521 + 16807) % 2147483629 / 4)) (by walk_at "br_ev") rfl) fun H2 e2' => ?_
    exact q H2 (e1'.trans e2')

theorem has__law_number (T : Txt K mg cE cW) (S0 : Src K mg "_law_number" s__law_number ["_law_script", "_law_k"]) (D__law_mixed : Has P w K mg base CX0 1 "_law_mixed" ["_law_cell", "_law_k"] sp_mixed) :
    Has P w K mg base CX0 2 "_law_number" ["_law_script", "_law_k"] (sp_number K) := by
  obtain ⟨f, fd, gm, F, b⟩ := S0
  refine ⟨f, fd, gm, F.kp, b, F.ok sc__law_number (fun vs H Q E h => ?_) (fun cdv A outer s H vs Q E hr h => ⟨_, (pss_cons (ps_set (i := 2) sc__law_number.nd rfl (Or.inl rfl) pe_int) (pss_cons (ps_if (pt_cmpR op_gt (pe_callB (id := "len") call_len_seq (by rfl) T.b_len PySem.boot_len (pa_cons (pv 0) pa_nil)) pe_int (nomark _)) (pss_one (ps_set (i := 2) sc__law_number.nd rfl (Or.inl rfl) (pe_ix ix_list (pv 0) (pe_op op_mod (pv 1) (pe_callB (id := "len") call_len_seq (by rfl) T.b_len PySem.boot_len (pa_cons (pv 0) pa_nil))) (fun _ _ => rfl)))) pss_nil) (pss_one (ps_ret (pe_has D__law_mixed (hr.mono (by decide)) rfl pass0 (pa_cons (pv 2) (pa_cons (pv 1) pa_nil))))))), ?_⟩)⟩
  · obtain ⟨a, ns, k, rfl, _⟩ := h
    rfl
  · obtain ⟨a, ns, k, rfl, hs, k0, k1, q⟩ := h
    refine q_asg (v := .int 0) ev_c fun H1 e1 => ?_
    have hs1 := ex_l e1 hs
    have last : ∀ (c : Int) (H2 : Hp), Ex H H2 → c = (if 0 < ns.length then ns.getD (k % ns.length).toNat 0 else 0) →
        tRet (tCall sp_mixed [] E0 (tCons (tVar 2) (tCons (tVar 1) tNil))) { nx := fun _ H' => Q .non H', rt := Q } [some (.ref a), some (.int k), some (.int c)] H2 := by
      intro c H2 e2 ec
      refine s_ret (v := .int (number ns k)) (ev_call (ea_cons (ev_var rfl) (ea_cons (ev_var rfl) ea_nil)) fun H3 e3 Q3 q3 E3 => ⟨c, k, rfl, k0, k1, ?_⟩) fun H3 e3 => q H3 (e2.trans e3)
      have en : mixed c k = number ns k := by
        rw [ec]
        rfl
      rw [en]
      exact q3
    have hlen : Ev (tCB (rLenS K) (tCons (tVar 0) tNil)) [some (.ref a), some (.int k), some (.int 0)] H1 (.int (ns.length : Int)) := ev_lenI (ev_var rfl) hs1
    refine q_when (b := decide ((0 : Int) < ns.length)) (et_test (ev_op hlen ev_c rv_I0)) (fun hb H2 e2 => ?_) (fun hb H2 e2 => ?_)
    · have hpos : (0 : Int) < ns.length := of_decide_eq_true hb
      have hm0 : 0 ≤ k % (ns.length : Int) := Int.emod_nonneg _ (by omega)
      have hm1 : k % (ns.length : Int) < (ns.length : Int) := Int.emod_lt_of_pos _ hpos
      have hlt : (k % (ns.length : Int)).toNat < ns.length := by omega
      refine s_asg (v := .int ns[(k % (ns.length : Int)).toNat]) (ev_op (ev_var rfl) (ev_op (ev_var rfl) (hlen.mono e2) (rv_I hpos)) (rv_ixI (ex_l e2 hs1) (atI_get hm0 hm1))) fun H3 e3 => ?_
      refine last _ H3 ((e1.trans e2).trans e3) ?_
      rw [if_pos (by omega), List.getD_eq_getElem?_getD, List.getElem?_eq_getElem hlt]
      rfl
    · have hz : ¬ 0 < ns.length := by
        have := of_decide_eq_false hb
        omega
      exact last 0 H2 (e1.trans e2) (by rw [if_neg hz])

theorem all_in {l : List Nat} : (l.map fun c => decide (c ∈ ((PySem.Str.ofString "abcdefgh" : Str)).cps.toList)).all id = l.all fun c => decide (c ∈ [97, 98, 99, 100, 101, 102, 103, 104]) := by
  have e : ((PySem.Str.ofString "abcdefgh" : Str)).cps.toList = [97, 98, 99, 100, 101, 102, 103, 104] := by decide +kernel
  rw [e, List.all_map]
  rfl
theorem has_is_word (T : Txt K mg cE cW) (S0 : Src K mg "is_word" s_is_word ["thing"]) : Has P w K mg base CX0 1 "is_word" ["thing"] (sp_is_word K) := by
  obtain ⟨f, fd, gm, F, b⟩ := S0
  refine ⟨f, fd, gm, F.kp, b, F.ok sc_is_word (fun vs H Q E h => ?_) (fun cdv A outer s H vs Q E hr h => ⟨_, (pss_cons (ps_if (pt_not (pt_val (pe_callB (id := "isinstance") call_isi (by rfl) T.b_isinstance (by decide +kernel) (pa_cons (pv 0) (pa_cons (pe_bltn (v := .ty "str") (u := .type "str") (by rfl) T.b_str (by decide +kernel) rfl) pa_nil))))) (pss_one (ps_ret pe_bl)) pss_nil) (pss_cons (ps_if (pt_not (pt_chain op_le op_le pe_int (pe_callB (id := "len") call_len_str (by rfl) T.b_len PySem.boot_len (pa_cons (pv 0) pa_nil)) (pe_globC rfl T.c_MOST_LETTERS))) (pss_one (ps_ret pe_bl)) pss_nil) (pss_one (ps_ret (pe_callB (id := "all") (cr_all rfl) (by rfl) T.b_all (by decide +kernel) (pa_cons (pe_lc (own := [("letter", 1)]) (g := gName 1) rfl sc_is_word.nd (pi_str (pv 0)) (blkOk_by (own := [("letter", 1)]) (N := N_is_word) (sc := defScope s_is_word) (by decide +kernel)) (fun _ _ _ _ _ => (pg_name (i := 1) sc_is_word.nd rfl (Or.inl rfl))) (fun _ _ _ _ _ => pts_nil) (fun _ _ _ _ _ => (pe_cmpR op_in_sign (pv 1) (pe_globC rfl T.c_LETTERS) rfl))) pa_nil)))))), ?_⟩)⟩
  · obtain ⟨v, rfl, _⟩ := h
    rfl
  · obtain ⟨v, rfl, th, q⟩ := h
    rcases th with ⟨l, rfl, hl⟩ | ⟨Ty, ht, hk, hn⟩
    · have q : RetV (.bl (okS l)) H Q := q
      refine q_when (b := false) (et_not (et_B (ev_isi (b := true) (ev_var rfl) (.base (.str _)) (by decide +kernel)))) (fun hb => nomatch hb) (fun _ H1 e1 => ?_)
      refine q_when (b := !(decide ((1 : Int) ≤ l.length) && decide ((l.length : Int) ≤ 60))) (et_not (et_chain ev_c (ev_lenS (ev_var rfl) hl) rv_I0 (fun _ => ev_c) (fun _ => rv_I0))) (fun hb H2 e2 => ?_) (fun hb H2 e2 => ?_)
      · refine s_ret (v := .bl false) ev_c fun H3 e3 => ?_
        have e : okS l = false := by
          cases c : okS l with
          | false => rfl
          | true =>
            obtain ⟨h1, h2, _⟩ := word_ok c
            rw [decide_eq_true (by omega : (1 : Int) ≤ l.length), decide_eq_true (by omega : (l.length : Int) ≤ 60)] at hb
            cases hb
        rw [e] at q
        exact q H3 ((e1.trans e2).trans e3)
      · rw [Bool.not_eq_false', Bool.and_eq_true, decide_eq_true_eq, decide_eq_true_eq] at hb
        refine s_ret (v := .bl (okS l)) (ev_is (v := .bl ((l.map fun c => decide (c ∈ ((PySem.Str.ofString "abcdefgh" : Str)).cps.toList)).all id)) (ev_all ?_) ?_) fun H3 e3 => q H3 ((e1.trans e2).trans e3)
        · -- the signs, one by one
          intro H3 e3 Q3 q3
          refine ⟨_, rfl, S l, rfl, fun Dl hD => ?_⟩
          refine lc_it (walk_str (z := S l)) (fun i H' => Ex H3 H' ∧ H' Dl = some (.lst ((l.take i).map fun c => V.bl (decide (c ∈ ((PySem.Str.ofString "abcdefgh" : Str)).cps.toList))))) ⟨Ex.new hD, upd_same⟩ (fun _ _ _ _ => True.intro) ?_ ?_
          · rintro i v H4 H5 hi ⟨p1, p2⟩ ⟨rfl, c, hc, rfl⟩
            have hc' : l[i]? = some c := by simpa using hc
            have hlt : i < l.length := (List.getElem?_eq_some_iff.mp hc').1
            refine ⟨rfl, tYes_if ?_⟩
            refine ⟨.str ⟨#[c]⟩, rfl, c, "abcdefgh", rfl, rfl, _, p2, sz_lt (by rw [List.length_map, List.length_take]; omega), Ex.mut p1 hD, ?_⟩
            rw [upd_same, List.take_succ, hc']
            simp
          · rintro H4 ⟨p1, p2⟩
            have hs : (S l).cps.size = l.length := by simp
            rw [hs, List.take_length] at p2
            exact q3 Dl H4 hD p1 (by rw [p2, List.map_map]; rfl)
        · unfold okS
          rw [all_in, decide_eq_true (by omega : 1 ≤ l.length), decide_eq_true (by omega : l.length ≤ 60)]
          rfl
    · have e : isWordV v = false := by
        cases v with
        | str z => exact absurd rfl (hn z)
        | _ => rfl
      rw [e] at q
      refine q_when (b := true) (et_not (et_B (ev_isi (b := false) (ev_var rfl) ht hk))) (fun _ H1 e1 => ?_) (fun hb => nomatch hb)
      exact s_ret (v := .bl false) ev_c fun H2 e2 => q H2 (e1.trans e2)

theorem has_need_word (T : Txt K mg cE cW) (S0 : Src K mg "need_word" s_need_word ["thing"]) (D_is_word : Has P w K mg base CX0 1 "is_word" ["thing"] (sp_is_word K)) :
    Has P w K mg base (L2.CX P w) 2 "need_word" ["thing"] (sp_need_word K cW) := by
  obtain ⟨f, fd, gm, F, b⟩ := S0
  refine ⟨f, fd, gm, F.kp, b, F.okX sc_need_word (fun vs H Q E h => ?_) (fun cdv A outer s H vs Q E hr h => ⟨_, (pss_one (ps_if (pt_not (pt_val (pe_has D_is_word (hr.mono (by decide)) rfl pass0 (pa_cons (pv 0) pa_nil)))) (pss_one (ps_raise rfl (takes_of rfl rfl rfl rfl) (pmk_own PySem.F.excBase_ValueError T.x_BadWord T.k_BadWord T.p_BadWord (raises_own T.s_BadWord T.y_BadWord) rfl))) pss_nil)), ?_⟩)⟩
  · obtain ⟨v, rfl, _⟩ := h
    rfl
  · obtain ⟨v, rfl, th, q1, q2⟩ := h
    refine s_when (b := !isWordV v) (et_not (et_B (ev_call (ea_cons (ev_var rfl) ea_nil) fun H3 e3 Q3 q3 E3 => ⟨v, rfl, th.mono e3, q3⟩))) (fun hb H1 e1 => ?_) (fun hb H1 e1 => ?_)
    · exact q2 (by rw [Bool.not_eq_true'] at hb; exact hb) H1 e1
    · exact q1 (by rw [Bool.not_eq_false'] at hb; exact hb) H1 e1

theorem has__law_word (T : Txt K mg cE cW) (S0 : Src K mg "_law_word" s__law_word ["_law_script", "_law_at"]) (D__law_number : Has P w K mg base CX0 2 "_law_number" ["_law_script", "_law_k"] (sp_number K)) :
    Has P w K mg base CX0 3 "_law_word" ["_law_script", "_law_at"] (sp_word K) := by
  obtain ⟨f, fd, gm, F, b⟩ := S0
  refine ⟨f, fd, gm, F.kp, b, F.ok sc__law_word (fun vs H Q E h => ?_) (fun cdv A outer s H vs Q E hr h => ⟨_, (pss_cons (ps_set (i := 2) sc__law_word.nd rfl (Or.inl rfl) (pe_has D__law_number (hr.mono (by decide)) rfl pass0 (pa_cons (pv 0) (pa_cons (pv 1) pa_nil)))) (pss_cons (ps_set (i := 3) sc__law_word.nd rfl (Or.inr rfl) (pe_op op_add pe_int (pe_op op_mod (pe_op op_fdiv (pv 2) pe_int) pe_int))) (pss_cons (ps_set (i := 4) sc__law_word.nd rfl (Or.inl rfl) (pe_ix ix_list (pe_lst (pa_cons (pe_op op_add pe_int (pe_op op_mod (pe_op op_fdiv (pv 2) pe_int) pe_int)) (pa_cons (pe_op op_add pe_int (pe_op op_mod (pe_op op_fdiv (pv 2) pe_int) pe_int)) (pa_cons pe_int (pa_cons (pe_op op_add pe_int (pe_op op_mod (pe_op op_fdiv (pv 2) pe_int) pe_int)) pa_nil))))) (pe_op op_mod (pe_op op_fdiv (pv 2) pe_int) pe_int) (fun _ _ => rfl))) (pss_cons (ps_set (i := 6) sc__law_word.nd rfl (Or.inl rfl) (pe_join pe_str (pe_lc (own := [("_law_k", 5)]) (g := gName 5) rfl sc__law_word.nd (pi_range1 rfl T.b_range (pa_cons (pv 4) pa_nil)) (blkOk_by (own := [("_law_k", 5)]) (N := N__law_word) (sc := defScope s__law_word) (by decide +kernel)) (fun _ _ _ _ _ => (pg_name (i := 5) sc__law_word.nd rfl (Or.inl rfl))) (fun _ _ _ _ _ => pts_nil) (fun _ _ _ _ _ => (pe_ix ix_str pe_str (pe_op op_mod (pe_op op_fdiv (pe_has D__law_number (hr.mono (by decide)) rfl pass0 (pa_cons (pv 0) (pa_cons (pe_op op_add (pe_op op_add (pv 1) pe_int) (pv 5)) pa_nil))) pe_int) (pv 3)) (fun _ _ => rfl)))))) (pss_cons (ps_if (pt_cmpR op_eq (pe_op op_mod (pv 2) pe_int) pe_int (nomark _)) (pss_one (ps_set (i := 6) sc__law_word.nd rfl (Or.inl rfl) (pe_slice sl_str (pe_op op_mulS (pe_slice sl_str (pv 6) po_none (po_some (pe_op op_add pe_int (pe_op op_mod (pe_op op_fdiv (pv 2) pe_int) pe_int)))) pe_int) po_none (po_some (pv 4))))) pss_nil) (pss_cons (ps_if (pt_cmpR op_eq (pe_op op_mod (pv 2) pe_int) pe_int (nomark _)) (pss_cons (ps_set (i := 7) sc__law_word.nd rfl (Or.inl rfl) (pe_slice sl_str (pe_op op_mulS (pe_slice sl_str (pv 6) po_none (po_some (pe_op op_add pe_int (pe_op op_mod (pe_op op_fdiv (pv 2) pe_int) pe_int)))) pe_int) po_none (po_some (pv 4)))) (pss_cons (ps_set (i := 8) sc__law_word.nd rfl (Or.inl rfl) (pe_op op_mod (pe_op op_fdiv (pv 2) pe_int) (pv 4))) (pss_one (ps_set (i := 6) sc__law_word.nd rfl (Or.inl rfl) (pe_op op_add_str (pe_op op_add_str (pe_slice sl_str (pv 7) po_none (po_some (pv 8))) (pe_ix ix_str pe_str (pe_op op_mod (pe_op op_fdiv (pv 2) pe_int) pe_int) (fun _ _ => rfl))) (pe_slice sl_str (pv 7) (po_some (pe_op op_add (pv 8) pe_int)) po_none)))))) pss_nil) (pss_one (ps_ret (pv 6))))))))), ?_⟩)⟩
  · obtain ⟨a, ns, k, rfl, _⟩ := h
    rfl
  · obtain ⟨a, ns, k, rfl, hs, k0, k1, q⟩ := h
    obtain ⟨n0, n1⟩ := number_bd ns k
    obtain ⟨z0, z1, z2⟩ := wsize_at (number ns k)
    have num : ∀ (σ : L2.St) (H1 : Hp) (tx : TE) (j : Int), σ[0]? = some (some (.ref a)) → Ex H H1 → 0 ≤ j → j ≤ 100000 → Ev tx σ H1 (.int j) → Ev (tCall (sp_number K) [] E0 (tCons (tVar 0) (tCons tx tNil))) σ H1 (.int (number ns j)) := by
      intro σ H1 tx j h0 e1 j0 j1 hx
      exact ev_call (ea_cons (ev_var h0) (ea_cons hx ea_nil)) fun H3 e3 Q3 q3 E3 => ⟨a, ns, j, rfl, ex_l (e1.trans e3) hs, j0, j1, q3⟩
    refine q_asg (num _ H (tVar 1) k rfl (Ex.refl H) k0 (by omega) (ev_var rfl)) fun H1 e1 => ?_
    refine q_asg (v := .int (1 + number ns k / 4 % 8)) (by walk_at "br_ev") fun H2 e2 => ?_
    refine q_asg (v := .int (wsize (number ns k))) (ev_pick (el_lst (ea_cons (by walk_at "br_ev") (ea_cons (by walk_at "br_ev") (ea_cons (by walk_at "br_ev") (ea_cons (by walk_at "br_ev") ea_nil)))) (by show 4 ≤ 100000; decide)) (by walk_at "br_ev") z0) fun H3 e3 => ?_
    have e13 := (e1.trans e2).trans e3
    have len0 := lword0_ok ns k
    have len1 := lword1_ok ns k
    have lenA := lwordA_ok ns k
    obtain ⟨pp0, pp1⟩ := lwordP_bd ns k
    refine q_asg (v := .str (S (lword0 ns k))) ?_ fun H4 e4 => ?_
    · -- the signs, drawn
      have e := el_lcR1 (ta := tCons (tVar 4) tNil) (t := tYes) (j := 5) (vs := [5]) (σ := [some (.ref a), some (.int k), some (.int (number ns k)), some (.int (1 + number ns k / 4 % 8)), some (.int (wsize (number ns k))), none, none, none, none]) (H := H3) (n := wsize (number ns k))
        (te := tOp rIxS (tC (.str "abcdefgh")) (tOp (rI (fun _ j => 0 < j) fun i j => .int (i % j)) (tOp (rI CDiv fun i j => .int (i / j)) (tCall (sp_number K) [] E0 (tCons (tVar 0) (tCons (tOp (rI0 fun i j => .int (i + j)) (tOp (rI0 fun i j => .int (i + j)) (tVar 1) (tC (.int 1))) (tVar 5)) tNil))) (tC (.int 3))) (tVar 3)))
        (fun _ => true) (fun j => V.str (S [letter (number ns (k + 1 + (j : Int)) / 3 % (1 + number ns k / 4 % 8))]))
        (ea_cons (ev_var rfl) ea_nil) (by omega) (fun _ => rfl) (fun _ _ _ _ => et_yes) (fun j H5 e5 hj _ => by
          have hf : (0 : Int) < 1 + number ns k / 4 % 8 := by omega
          have m0 : 0 ≤ number ns (k + 1 + (j : Int)) / 3 % (1 + number ns k / 4 % 8) := Int.emod_nonneg _ (by omega)
          have m1 : number ns (k + 1 + (j : Int)) / 3 % (1 + number ns k / 4 % 8) < 1 + number ns k / 4 % 8 := Int.emod_lt_of_pos _ hf
          refine ev_op (ev_cS abc_S) (ev_op (ev_op (num _ H5 _ (k + 1 + (j : Int)) rfl (e13.trans e5) (by omega) (by omega) (ev_op (ev_op (ev_var rfl) ev_c rv_I0) (ev_var rfl) rv_I0)) ev_c (rv_I (show CDiv _ _ from ⟨by omega, by omega⟩))) (ev_var rfl) (rv_I hf)) ?_
          exact rv_ixW (by decide) (letter_at m0 (by omega)))
      rw [given_all] at e
      have e' := ev_joinE (K := K) (ta := tC (.str "")) (ys := (List.range (wsize (number ns k)).toNat).map fun (j : Nat) => [letter (number ns (k + 1 + (j : Int)) / 3 % (1 + number ns k / 4 % 8))]) (ev_cS (by decide +kernel)) (by rw [List.map_map]; exact e) (by
        rw [List.map_map]
        have : ((List.range (wsize (number ns k)).toNat).map ((fun x => x.length) ∘ fun (j : Nat) => [letter (number ns (k + 1 + (j : Int)) / 3 % (1 + number ns k / 4 % 8))])).sum = (wsize (number ns k)).toNat := by
          rw [show ((fun x => x.length) ∘ fun (j : Nat) => [letter (number ns (k + 1 + (j : Int)) / 3 % (1 + number ns k / 4 % 8))]) = fun _ => 1 from rfl, sum_ones, List.length_range]
        omega)
      have e2' : ((List.range (wsize (number ns k)).toNat).map fun (j : Nat) => [letter (number ns (k + 1 + (j : Int)) / 3 % (1 + number ns k / 4 % 8))]).flatten = lword0 ns k := by
        unfold lword0 drawn
        rw [← List.flatMap_def, ← List.map_eq_flatMap]
      rw [e2'] at e'
      exact e'
    have e14 := e13.trans e4
    -- a stretch that comes again
    have cut : ∀ (σ : L2.St) (H5 : Hp) (i : Nat) (l : List Nat) (m : Int) (tx : TE), σ[i]? = some (some (.str (S l))) → σ[4]? = some (some (.int (wsize (number ns k)))) → l.length = (wsize (number ns k)).toNat → 1 ≤ m → Ev tx σ H5 (.int m) →
        Ev (tSl rSlS (tOp rMulS (tSl rSlS (tVar i) tNoPart (tPart tx)) (tC (.int 60))) tNoPart (tPart (tVar 4))) σ H5 (.str (S (again l m (wsize (number ns k)).toNat))) := by
      intro σ H5 i l m tx h0 h4 hl hm hx
      refine ev_to (ev_op (ev_to (ev_var h0) (by omega) hx (by omega)) ev_c (rv_mulS (n := 60) rfl (by decide) ?_)) ?_ (ev_var h4) (by omega)
      · rw [List.length_take]
        omega
      · rw [flat_len, List.length_take]
        omega
    refine q_ifAsg (b := decide (number ns k % 4 = 1)) (v := .str (S (lword1 ns k))) (et_test (ev_op (ev_op (ev_var rfl) ev_c (rv_I (by decide))) ev_c rv_eqI)) (fun hb => ?_) (fun hb => ?_) fun H5 e5 => ?_
    · have e : lword1 ns k = again (lword0 ns k) (1 + number ns k / 9000 % 9) (wsize (number ns k)).toNat := by
        unfold lword1
        rw [if_pos (of_decide_eq_true hb)]
      rw [e]
      exact cut _ H4 6 (lword0 ns k) (1 + number ns k / 9000 % 9) _ rfl rfl len0.1 (by omega) (by walk_at "br_ev")
    · have e : lword1 ns k = lword0 ns k := by
        unfold lword1
        rw [if_neg (of_decide_eq_false hb)]
      rw [e]
      rfl
    have e15 := e14.trans e5
    refine q_when (b := decide (number ns k % 4 = 2)) (et_test (ev_op (ev_op (ev_var rfl) ev_c (rv_I (by decide))) ev_c rv_eqI)) (fun hb H6 e6 => ?_) (fun hb H6 e6 => ?_)
    · refine q_asg (v := .str (S (lwordA ns k))) (cut _ H6 6 (lword1 ns k) (1 + number ns k / 9000 % 4) _ rfl rfl len1.1 (by omega) (by walk_at "br_ev")) fun H7 e7 => ?_
      refine q_asg (v := .int (lwordP ns k)) (ev_op (ev_op (ev_var rfl) ev_c (rv_I (show CDiv _ _ from ⟨by omega, by omega⟩))) (ev_var rfl) (rv_I (show (0 : Int) < _ by omega))) fun H8 e8 => ?_
      refine s_asg (v := .str (S (lword ns k))) ?_ fun H9 e9 => ?_
      · have e : lword ns k = (lwordA ns k).take (lwordP ns k).toNat ++ [letter (number ns k / 7 % 8)] ++ (lwordA ns k).drop (lwordP ns k + 1).toNat := by
          unfold lword
          rw [if_pos (of_decide_eq_true hb)]
        rw [e]
        refine ev_op (ev_op (ev_to (ev_var rfl) (by omega) (ev_var rfl) pp0) (ev_op (ev_cS abc_S) (by walk_at "br_ev") (rv_ixW (by decide) (letter_at (by omega) (by omega)))) (rv_catS ?_)) (ev_from (ev_var rfl) (by omega) (ev_op (ev_var rfl) ev_c rv_I0) (by omega)) (rv_catS ?_)
        · rw [List.length_take, List.length_singleton]
          omega
        · rw [List.length_append, List.length_take, List.length_singleton, List.length_drop]
          omega
      · exact s_ret (ev_var rfl) fun H10 e10 => q H10 (((((e15.trans e6).trans e7).trans e8).trans e9).trans e10)
    · refine s_ret (v := .str (S (lword ns k))) ?_ fun H10 e10 => q H10 ((e15.trans e6).trans e10)
      have e : lword ns k = lword1 ns k := by
        unfold lword
        rw [if_neg (of_decide_eq_false hb)]
      rw [e]
      exact ev_var rfl

def sp_parts_of (K : PySem.W.Frag) (CW : Addr) : Sp := fun vs H Q E => ∃ v, vs = [v] ∧ ThS K H v ∧ (isWordV v = false → Ref E CW H) ∧ ∀ l : List Nat, v = .str (S l) → okS l = true → RetL ((partsL l).map sV) H Q
theorem has_parts_of (T : Txt K mg cE cW) (S0 : Src K mg "parts_of" s_parts_of ["word"]) (D_need_word : Has P w K mg base (L2.CX P w) 2 "need_word" ["thing"] (sp_need_word K cW)) :
    Has P w K mg base (L2.CX P w) 3 "parts_of" ["word"] (sp_parts_of K cW) := by
  obtain ⟨f, fd, gm, F, b⟩ := S0
  refine ⟨f, fd, gm, F.kp, b, F.okX sc_parts_of (fun vs H Q E h => ?_) (fun cdv A outer s H vs Q E hr h => ⟨_, (pss_cons (ps_expr (pe_has D_need_word (hr.mono (by decide)) rfl (passes_call (takes_of rfl rfl rfl rfl) fun _ _ _ _ z => z) (pa_cons (pv 0) pa_nil))) (PSs.nox (pss_cons (ps_set (i := 1) sc_parts_of.nd rfl (Or.inl rfl) (pe_lst pa_nil)) (pss_cons (ps_for PassesOwn.never rfl (pi_str (pv 0)) (pg_name (i := 2) sc_parts_of.nd rfl (Or.inl rfl)) (pss_cons (ps_set (i := 3) sc_parts_of.nd rfl (Or.inl rfl) (pv 2)) (pss_cons (ps_while PassesOwn.never (PW.pt (pw_and (pt_truth (pv 1) (by intro _; rfl)) (pw_and1 (pt_cmpR op_lt_str (pe_ix ix_list (pv 1) (pe_un un_neg pe_int) (fun _ _ => rfl)) (pv 3) (nomark _))))) (pss_one (ps_set (i := 3) sc_parts_of.nd rfl (Or.inl rfl) (pe_op op_add_str (pe_bm0 PySem.F.plainAttrs_list PySem.F.slot_list_pop PySem.F.type_list_pop mt_pop (pv 1)) (pv 3))))) (pss_one (ps_expr (pe_bm PySem.F.plainAttrs_list PySem.F.slot_list_append PySem.F.type_list_append mt_append (pv 1) (pa_cons (pv 3) pa_nil))))))) (pss_one (ps_ret (pv 1))))))), ?_⟩)⟩
  · obtain ⟨v, rfl, _⟩ := h
    rfl
  · obtain ⟨v, rfl, th, q1, q2⟩ := h
    cases hv : isWordV v with
    | false => exact ⟨v, rfl, v, rfl, th, fun z => absurd (hv.symm.trans z) Bool.false_ne_true, fun _ => q1 hv⟩
    | true =>
      refine q_drop (ev_call (z := .non) (ea_cons (ev_var rfl) ea_nil) fun H3 e3 Q3 q4 E3 => ⟨v, rfl, th.mono e3, fun _ => q4, fun z => absurd (hv.symm.trans z) (fun y => nomatch y)⟩) fun H1 e1 => ?_
      rcases th with ⟨l, rfl, hl⟩ | ⟨_, _, _, hn⟩
      · have ok : okS l = true := hv
        obtain ⟨w1, w2, _⟩ := word_ok ok
        refine q_asgL (xs := []) (el_lst ea_nil (by decide)) fun p H2 hp e2 h2 => ?_
        have he0 : ∀ n, (partsL (l.take n)).flatten = l.take n := fun n => (partsR_ok (l.take n)).2
        refine ⟨_, rfl, S l, rfl, for_it (walk_str (z := S l)) (fun i σ' H' => (∃ a b, σ' = [some (.str (S l)), some (.ref p), a, b]) ∧ Ex H1 H' ∧ H' p = some (.lst ((partsL (l.take i)).map sV))) ⟨⟨_, _, rfl⟩, e2, h2⟩ (fun _ _ _ _ _ => True.intro) ?_ ?_⟩
        · rintro i v σ' H3 H4 hi ⟨⟨a, b', rfl⟩, e3, h3⟩ ⟨rfl, c, hc, rfl⟩
          have hc' : l[i]? = some c := by simpa using hc
          have next : partsR (l.take (i + 1)) = push (partsR (l.take i)) [c] := by
            unfold partsR
            rw [List.take_succ, hc', List.foldl_append]
            rfl
          refine q_asg (v := sV [c]) (ev_var rfl) fun H5 e5 => ?_
          have h5 := e5 p _ h3
          have size0 : ((partsR (l.take i)).reverse.flatten ++ [c]).length ≤ 60 := by
            have e := he0 i
            unfold partsL at e
            have : i < l.length := (List.getElem?_eq_some_iff.mp hc').1
            rw [e, List.length_append, List.length_take, List.length_singleton]
            omega
          refine q_while (fun m σ' H' => ∃ (rs : List (List Nat)) (w : List Nat), σ' = [some (.str (S l)), some (.ref p), some (sV [c]), some (sV w)] ∧ Ex H1 H' ∧ H' p = some (.lst (rs.reverse.map sV)) ∧ push rs w = push (partsR (l.take i)) [c] ∧ (rs.reverse.flatten ++ w).length ≤ 60 ∧ rs.length ≤ m)
            (partsR (l.take i)).length ⟨_, [c], rfl, e3.trans e5, h5, rfl, size0, Nat.le_refl _⟩ ?_
          rintro m σ' H6 ⟨rs, w, rfl, e6, h6, hpu, hz, hm⟩
          rw [List.length_append] at hz
          have done : push rs w = w :: rs → ∀ H7, Ex H6 H7 → tDrop (tBM K "list" rAppend (tVar 1) (tCons (tVar 3) tNil)) { nx := fun σ' H' => (∃ a b, σ' = [some (.str (S l)), some (.ref p), a, b]) ∧ Ex H1 H' ∧ H' p = some (.lst ((partsL (l.take (i + 1))).map sV)), rt := Q, bk := fun σ H => (tRet (tVar 1) { nx := fun _ H' => Q .non H', rt := Q }) σ H, ct := fun σ' H' => (∃ a b, σ' = [some (.str (S l)), some (.ref p), a, b]) ∧ Ex H1 H' ∧ H' p = some (.lst ((partsL (l.take (i + 1))).map sV)) } [some (.str (S l)), some (.ref p), some (sV [c]), some (sV w)] H7 := by
            intro hd H7 e7
            have hrl : rs.length ≤ 60 := by
              have z := push_len (partsR (l.take i)) [c]
              rw [← hpu, hd, List.length_cons] at z
              have z2 := many_len (ws := partsL (l.take i)) (partsL_ok _).1.1
              rw [he0 i, List.length_take] at z2
              unfold partsL at z2
              rw [List.length_reverse] at z2
              omega
            refine s_app (e7 p _ h6) (ev_var rfl) (ev_var rfl) (by rw [List.length_map, List.length_reverse]; omega) fun H8 e8 => ⟨⟨_, _, rfl⟩, Ex.mut ((e6.trans e7).trans e8) hp, ?_⟩
            rw [upd_same]
            unfold partsL
            rw [next, ← hpu, hd, List.reverse_cons, List.map_append]
            rfl
          cases rs with
          | nil =>
            refine ⟨false, et_and (a := false) (b := true) (et_truL (xs := []) (ev_var rfl) (sq_of h6)) (fun z => nomatch z), (fun z => nomatch z), fun _ H7 e7 => done rfl H7 e7⟩
          | cons t rs =>
            have hx : ((t :: rs).reverse.map sV) = rs.reverse.map sV ++ [sV t] := by
              rw [List.reverse_cons, List.map_append]
              rfl
            rw [hx] at h6
            have htl : t.length + w.length ≤ 60 := by
              rw [List.reverse_cons, List.flatten_append, List.length_append] at hz
              simp at hz
              omega
            refine ⟨decide (t < w), ?_, fun hb H7 e7 => ?_, fun hb H7 e7 => ?_⟩
            · have e := et_and (a := true) (b := decide (t < w)) (et_is (et_truL (K := K) (ta := tVar 1) (σ := [some (.str (S l)), some (.ref p), some (sV [c]), some (sV w)]) (H := H6) (ev_var rfl) (sq_of h6)) (by cases rs.reverse <;> rfl)) (fun _ => et_test (ev_op (r := rLtS) (tb := tVar 3) (ev_op (r := rIxL K) (ta := tVar 1) (tb := tUn (rU fun i => .int (-i)) (tC (.int 1))) (ev_var rfl) (ev_un ev_c ru_neg) (rv_ixL (sq_of h6) (atI_last _ _))) (ev_var rfl) rv_ltS))
              rw [Bool.true_and] at e
              exact e
            · have h7 := e7 p _ h6
              refine ⟨fun σ2 H2 => ∃ m', m' < m ∧ ∃ (rs : List (List Nat)) (w : List Nat), σ2 = [some (.str (S l)), some (.ref p), some (sV [c]), some (sV w)] ∧ Ex H1 H2 ∧ H2 p = some (.lst (rs.reverse.map sV)) ∧ push rs w = push (partsR (l.take i)) [c] ∧ (rs.reverse.flatten ++ w).length ≤ 60 ∧ rs.length ≤ m', fun _ _ h => h, ?_⟩
              refine ⟨.ref p, rfl, .inl ⟨rfl, _, sq_of h7⟩, p, _, sV t, rfl, rfl, h7, by simp, sV w, rfl, S t, S w, rfl, rfl, by rw [S_len, S_len]; exact sz_of (by omega), ?_⟩
              rw [S_cat]
              refine ⟨m - 1, by rw [List.length_cons] at hm; omega, rs, t ++ w, rfl, Ex.mut (e6.trans e7) hp, by rw [upd_same, List.dropLast_concat], ?_, ?_, by rw [List.length_cons] at hm; omega⟩
              · rw [← hpu]
                show _ = push (t :: rs) w
                conv => rhs; unfold push
                rw [if_pos (of_decide_eq_true hb)]
              · rw [List.reverse_cons, List.flatten_append] at hz
                rw [List.length_append, List.length_append]
                simp at hz ⊢
                omega
            · have hd : push (t :: rs) w = w :: t :: rs := by
                conv => lhs; unfold push
                rw [if_neg (of_decide_eq_false hb)]
              exact done hd H7 e7
        · rintro σ' H3 ⟨⟨a, b', rfl⟩, e3, h3⟩
          have hs : (S l).cps.size = l.length := by simp
          rw [hs, List.take_length] at h3
          dsimp only
          exact s_ret (v := .ref p) (ev_var rfl) fun H4 e4 => q2 l rfl ok p H4 (fresh_back e1 hp) ((e1.trans e3).trans e4) (e4 p _ h3)
      · cases v with
        | str z => exact absurd rfl (hn z)
        | _ => cases hv

theorem empty_app {α : Type} (a b : List α) : (a ++ b).isEmpty = (a.isEmpty && b.isEmpty) := by
  cases a <;> rfl
theorem none_fits (l : List Nat) : ((List.range (l.length - 1)).filter fun k => !decide (l < turnL l (1 + k))).isEmpty = primeB l := by
  unfold primeB
  rw [drop_turns, List.all_map]
  generalize l.length - 1 = n
  induction n with
  | zero => rfl
  | succ n ih =>
    rw [List.range_succ, List.filter_append, List.all_append, ← ih, empty_app]
    congr 1
    by_cases c : l < turnL l (1 + n)
    · simp [c]
    · simp [c]
def sp_lprime : Sp := fun vs H Q _ => ∃ l : List Nat, vs = [.str (S l)] ∧ l.length ≤ 1000 ∧ RetV (.bl (primeB l)) H Q
theorem has__law_is_prime (T : Txt K mg cE cW) (S0 : Src K mg "_law_is_prime" s__law_is_prime ["_law_word_here"]) : Has P w K mg base CX0 1 "_law_is_prime" ["_law_word_here"] sp_lprime := by
  obtain ⟨f, fd, gm, F, b⟩ := S0
  refine ⟨f, fd, gm, F.kp, b, F.ok sc__law_is_prime (fun vs H Q E h => ?_) (fun cdv A outer s H vs Q E hr h => ⟨_, (pss_one (ps_ret (pe_cmpR (op_eqD hr.units) (pe_lc (own := [("_law_k", 1)]) (g := gName 1) rfl sc__law_is_prime.nd (pi_range2 rfl T.b_range (pa_cons pe_int (pa_cons (pe_callB (id := "len") call_len_str (by rfl) T.b_len PySem.boot_len (pa_cons (pv 0) pa_nil)) pa_nil))) (blkOk_by (own := [("_law_k", 1)]) (N := N__law_is_prime) (sc := defScope s__law_is_prime) (by decide +kernel)) (fun _ _ _ _ _ => (pg_name (i := 1) sc__law_is_prime.nd rfl (Or.inl rfl))) (fun _ _ _ _ _ => (pts_one (pt_cmpR op_le_str (pe_op op_add_str (pe_slice sl_str (pv 0) (po_some (pv 1)) po_none) (pe_slice sl_str (pv 0) po_none (po_some (pv 1)))) (pv 0) (nomark _)))) (fun _ _ _ _ _ => (pv 1))) (pe_lst pa_nil) (nomark _)))), ?_⟩)⟩
  · obtain ⟨l, rfl, _⟩ := h
    rfl
  · obtain ⟨l, rfl, hl, q⟩ := h
    have e := el_lcR2 (t1 := tCons (tC (.int 1)) (tCons (tCB rLenT (tCons (tVar 0) tNil)) tNil)) (σ := [some (.str (S l)), none]) (H := H) (j := 1) (vs := [1]) (lo := 1) (n := (l.length : Int)) (t := tTest (tOp rLeS (tOp rCatS (tSl rSlS (tVar 0) (tPart (tVar 1)) tNoPart) (tSl rSlS (tVar 0) tNoPart (tPart (tVar 1)))) (tVar 0))) (te := tVar 1)
      (fun k => !decide (l < turnL l (1 + k))) (fun k => V.int (1 + (k : Int))) (ea_cons ev_c (ea_cons (ev_lenS (ev_var rfl) (by omega)) ea_nil)) (by omega) (fun _ => rfl) (fun k H1 e1 hk => by
        have e := ev_op (r := rCatS) (ev_from (te := tVar 0) (ta := tVar 1) (σ := [some (.str (S l)), some (.int (1 + (k : Int)))]) (H := H1) (l := l) (i := 1 + (k : Int)) (ev_var rfl) (by omega) (ev_var rfl) (by omega)) (ev_to (te := tVar 0) (ta := tVar 1) (l := l) (i := 1 + (k : Int)) (ev_var rfl) (by omega) (ev_var rfl) (by omega)) (rv_catS (by rw [List.length_drop, List.length_take]; omega))
        rw [show (1 + (k : Int)).toNat = 1 + k by omega] at e
        exact et_test (ev_op e (ev_var rfl) rv_leS)) (fun k H1 e1 hk _ => ev_var rfl)
    rw [show ((l.length : Int) - 1).toNat = l.length - 1 by omega] at e
    have e2 := ev_noI (K := K) (ns := ((List.range (l.length - 1)).filter fun k => !decide (l < turnL l (1 + k))).map fun (k : Nat) => 1 + (k : Int)) (by rw [List.map_map]; exact e)
    rw [List.isEmpty_map, none_fits] at e2
    exact s_ret e2 fun H1 e1 => q H1 e1

def sp_ways (n : Nat) : Sp := fun vs H Q _ => ∃ l : List Nat, vs = [.str (S l)] ∧ l.length < n ∧ l.length ≤ 9 ∧ ∀ v H2, Ex H H2 → IsLL H2 v (waysN n l) → Q v H2
theorem has__law_ways (T : Txt K mg cE cW) (S0 : Src K mg "_law_ways" s__law_ways ["_law_word_here"]) : ∀ n : Nat, Has P w K mg base CX0 (n + 1) "_law_ways" ["_law_word_here"] (sp_ways n)
  | 0 => by
    obtain ⟨f, fd, gm, F, b⟩ := S0
    refine ⟨f, fd, gm, F.kp, b, F.ok sc__law_ways (fun vs H Q E h => ?_) (fun cdv A outer s H vs Q E hr h => ?_)⟩
    · obtain ⟨l, rfl, _⟩ := h
      rfl
    · obtain ⟨l, _, hn, _⟩ := h
      exact absurd hn (Nat.not_lt_zero _)
  | n + 1 => by
    have D__law_ways := has__law_ways T S0 n
    obtain ⟨f, fd, gm, F, b⟩ := S0
    refine ⟨f, fd, gm, F.kp, b, F.ok sc__law_ways (fun vs H Q E h => ?_) (fun cdv A outer s H vs Q E hr h => ⟨_, (pss_cons (ps_if (pt_cmpR op_eq (pv 0) pe_str (nomark _)) (pss_one (ps_ret (pe_lst (pa_cons (pe_lst pa_nil) pa_nil)))) pss_nil) (pss_cons (ps_set (i := 1) sc__law_ways.nd rfl (Or.inl rfl) (pe_lst pa_nil)) (pss_cons (ps_for PassesOwn.never rfl (pi_range2 rfl T.b_range (pa_cons pe_int (pa_cons (pe_op op_add (pe_callB (id := "len") call_len_str (by rfl) T.b_len PySem.boot_len (pa_cons (pv 0) pa_nil)) pe_int) pa_nil))) (pg_name (i := 2) sc__law_ways.nd rfl (Or.inr rfl)) (pss_one (ps_set (i := 1) sc__law_ways.nd rfl (Or.inl rfl) (pe_op op_cat (pv 1) (pe_lc (own := [("_law_others", 3)]) (g := gName 3) rfl sc__law_ways.nd (pi_list (pe_has D__law_ways (hr.mono (Nat.le_refl _)) rfl pass0 (pa_cons (pe_slice sl_str (pv 0) (po_some (pv 2)) po_none) pa_nil))) (blkOk_by (own := [("_law_others", 3)]) (N := N__law_ways) (sc := defScope s__law_ways) (by decide +kernel)) (fun _ _ _ _ _ => (pg_name (i := 3) sc__law_ways.nd rfl (Or.inl rfl))) (fun _ _ _ _ _ => pts_nil) (fun _ _ _ _ _ => (pe_op op_cat (pe_lst (pa_cons (pe_slice sl_str (pv 0) po_none (po_some (pv 2))) pa_nil)) (pv 3)))))))) (pss_one (ps_ret (pv 1)))))), ?_⟩)⟩
    · obtain ⟨l, rfl, _⟩ := h
      rfl
    · obtain ⟨l, rfl, hn, h9, q⟩ := h
      refine q_when (b := decide (l = [])) (et_test (ev_op (ev_var rfl) (ev_cS (l := []) (by decide +kernel)) rv_eqS)) (fun hb H1 e1 => ?_) (fun hb H1 e1 => ?_)
      · have z : waysN (n + 1) l = [[]] := if_pos (of_decide_eq_true hb)
        exact ep_oneLL H1 (Ex.refl H1) _ fun v H2 e2 hv => q v H2 (e1.trans e2) (by rw [z]; exact hv)
      · have z : waysN (n + 1) l = waysTo (waysN n) l l.length := if_neg (of_decide_eq_false hb)
        have many := (ways_many (n + 1) l hn).2
        have p2 : 2 ^ l.length ≤ 2 ^ 9 := Nat.pow_le_pow_right (by decide) h9
        refine q_asgL (xs := []) (el_lst ea_nil (by decide)) fun p H2 hp e2 h2 => ?_
        refine q_forR2 (lo := 1) (n := (l.length : Int) + 1) (ea_cons ev_c (ea_cons (ev_op (ev_lenS (ev_var rfl) (by omega)) ev_c rv_I0) ea_nil)) (by omega)
          (fun i σ' H' => (∃ p xs a b, σ' = [some (.str (S l)), some (.ref p), a, b] ∧ H' p = some (.lst xs) ∧ LLs H' xs (waysTo (waysN n) l i)) ∧ Ex H H')
          (fun H3 e3 => ⟨⟨p, [], _, _, rfl, e3 p _ h2, LLs.nil⟩, (e1.trans e2).trans e3⟩) ?_ ?_
        · rintro i σ' H3 hi ⟨⟨p, xs, a, b, rfl, h3, hl⟩, e3⟩
          have hi' : i < l.length := by omega
          have m1 := many (i + 1) (by omega)
          have hd : (l.drop (i + 1)).length < n := by
            rw [List.length_drop]
            omega
          have m2 : (waysN n (l.drop (i + 1))).length ≤ 1000 := by
            have m3 := (ways_many n (l.drop (i + 1)) hd).1
            have m4 : 2 ^ (l.drop (i + 1)).length ≤ 2 ^ 9 := Nat.pow_le_pow_right (by decide) (by rw [List.length_drop]; omega)
            omega
          have m5 : (waysTo (waysN n) l i).length ≤ 1000 := by
            have m3 : (waysTo (waysN n) l i).length ≤ 2 ^ l.length := Nat.le_trans (Nat.le_add_right _ _) (many i (by omega))
            omega
          have e4 := ep_lcLL (K := K) (H := H3) (σ := [some (.str (S l)), some (.ref p), some (.int (1 + (i : Int))), b]) (lss := waysN n (l.drop (i + 1))) (j := 3) (vs := [3]) (tx := tCall (sp_ways n) [] E0 (tCons (tSl rSlS (tVar 0) (tPart (tVar 2)) tNoPart) tNil)) (t := tYes) (te := tOp rCat (tLst (tCons (tSl rSlS (tVar 0) tNoPart (tPart (tVar 2))) tNil)) (tVar 3)) (fun _ => true) (fun ws => l.take (i + 1) :: ws)
            (ep_call (vs := [.str (S (l.drop (1 + (i : Int)).toNat))]) (ea_cons (ev_from (ev_var rfl) (by omega) (ev_var rfl) (by omega)) ea_nil) fun H4 e4 Q4 q4 => ⟨l.drop (1 + (i : Int)).toNat, rfl, by rw [show (1 + (i : Int)).toNat = i + 1 by omega]; exact hd, by rw [List.length_drop]; omega, fun v H5 e5 hv => q4 v H5 e5 (by
              rw [show (1 + (i : Int)).toNat = i + 1 by omega] at hv
              exact hv)⟩) (by omega) (fun _ => rfl) (fun _ _ _ _ _ _ => et_yes) (fun ws r H4 hm e4 hr4 _ => by
              have hws : ws.length ≤ 60 := by
                obtain ⟨f1, f2⟩ := (ways_mem n _ ws hd).mp hm
                have f3 : ∀ ws : List (List Nat), (∀ w ∈ ws, w ≠ []) → ws.length ≤ ws.flatten.length := by
                  intro ws
                  induction ws with
                  | nil => intro _; exact Nat.zero_le _
                  | cons w ws ih =>
                    intro h
                    have h1 := List.length_pos_iff.mpr (h w List.mem_cons_self)
                    have h2 := ih fun u hu => h u (List.mem_cons_of_mem _ hu)
                    rw [List.flatten_cons, List.length_append, List.length_cons]
                    omega
                have f4 := f3 ws f2
                rw [f1, List.length_drop] at f4
                omega
              have e5 := el_catR (σ := [some (.str (S l)), some (.ref p), some (.int (1 + (i : Int))), some (.ref r)]) (H := H4) (ta := tLst (tCons (tSl rSlS (tVar 0) tNoPart (tPart (tVar 2))) tNil)) (tb := tVar 3) (p := r) (ys := ws.map sV) (el_lst (ea_cons (ev_to (ev_var rfl) (by omega) (ev_var rfl) (by omega)) ea_nil) (by show 1 ≤ 100000; decide)) (ev_var rfl) hr4 (by rw [List.length_map]; show 1 + ws.length ≤ _; omega)
              rw [show (1 + (i : Int)).toNat = i + 1 by omega] at e5
              intro H5 e6 Q5 q5
              exact e5 H5 e6 _ fun r2 H6 hr6 e7 h7 => q5 _ H6 e7 ⟨r2, rfl, .inl (fresh_back e6 hr6), h7⟩)
          rw [show (waysN n (l.drop (i + 1))).filter (fun _ => true) = waysN n (l.drop (i + 1)) from List.filter_eq_self.mpr fun _ _ => rfl] at e4
          refine ep_catLL (ev_var rfl) h3 hl e4 (by rw [List.length_map]; omega) H3 (Ex.refl H3) _ fun v H4 e5 hv => ?_
          obtain ⟨p', xs', rfl, h4, hl'⟩ := hv
          refine ⟨⟨p', xs', _, _, rfl, h4, ?_⟩, e3.trans e5⟩
          rw [waysTo_succ]
          exact hl'
        · rintro σ' H3 ⟨⟨p, xs, a, b, rfl, h3, hl⟩, e3⟩
          rw [show ((l.length : Int) + 1 - 1).toNat = l.length by omega] at hl
          exact s_ret (v := .ref p) (ev_var rfl) fun H4 e4 => q _ H4 (e3.trans e4) (by rw [z]; exact ⟨p, xs, rfl, e4 p _ h3, hl.mono e4⟩)

theorem all_good (ws : List (List Nat)) : ((List.range ws.length).filter fun i => !primeB (ws.getD i [])).isEmpty = ws.all primeB := by
  rw [Bool.eq_iff_iff, List.isEmpty_iff, List.filter_eq_nil_iff, List.all_eq_true]
  constructor
  · intro h w hw
    obtain ⟨i, hi, rfl⟩ := List.getElem_of_mem hw
    have := h i (List.mem_range.mpr hi)
    rw [List.getD_eq_getElem?_getD, List.getElem?_eq_getElem hi] at this
    cases e : primeB ws[i] with
    | true => rfl
    | false => exact absurd (by show (!primeB ws[i]) = true; rw [e]; rfl) this
  · intro h i hi
    have hi := List.mem_range.mp hi
    rw [List.getD_eq_getElem?_getD, List.getElem?_eq_getElem hi]
    show ¬ (!primeB ws[i]) = true
    rw [h _ (List.getElem_mem hi)]
    decide
def sp_good (K : PySem.W.Frag) : Sp := fun vs H Q _ => ∃ (p : Addr) (ws : List (List Nat)), vs = [.ref p] ∧ SqL K H p (ws.map sV) ∧ ws.length ≤ 60 ∧ (∀ w ∈ ws, w.length ≤ 60 ∧ Lays w) ∧ RetV (.bl (goodB ws)) H Q
theorem has__law_good (T : Txt K mg cE cW) (S0 : Src K mg "_law_good" s__law_good ["_law_way"]) (D__law_is_prime : Has P w K mg base CX0 1 "_law_is_prime" ["_law_word_here"] sp_lprime) : Has P w K mg base CX0 2 "_law_good" ["_law_way"] (sp_good K) := by
  obtain ⟨f, fd, gm, F, b⟩ := S0
  refine ⟨f, fd, gm, F.kp, b, F.ok sc__law_good (fun vs H Q E h => ?_) (fun cdv A outer s H vs Q E hr h => ⟨_, (pss_cons (ps_if (pt_cmpR (op_neD hr.units) (pe_lc (own := [("_law_one", 1), ("_law_two", 2)]) (g := gTup K 2 (gCons (gName 1) (gCons (gName 2) gNil))) rfl sc__law_good.nd (pi_zip (by rfl) T.b_zip (pa_cons (pv 0) (pa_cons (pe_slice sl_list (pv 0) (po_some pe_int) po_none) pa_nil))) (blkOk_by (own := [("_law_one", 1), ("_law_two", 2)]) (N := N__law_good) (sc := defScope s__law_good) (by decide +kernel)) (fun _ _ _ _ _ => by exact (pg_tup rfl (pgs_cons (pg_name (i := 1) sc__law_good.nd rfl (Or.inl rfl)) (pgs_cons (pg_name (i := 2) sc__law_good.nd rfl (Or.inl rfl)) pgs_nil)))) (fun _ _ _ _ _ => (pts_one (pt_cmpR op_lt_str (pv 1) (pv 2) (nomark _)))) (fun _ _ _ _ _ => (pv 1))) (pe_lst pa_nil) (nomark _)) (pss_one (ps_ret pe_bl)) pss_nil) (pss_one (ps_ret (pe_cmpR (op_eqD hr.units) (pe_lc (own := [("_law_one", 1)]) (g := gName 1) rfl sc__law_good.nd (pi_list (pv 0)) (blkOk_by (own := [("_law_one", 1)]) (N := N__law_good) (sc := defScope s__law_good) (by decide +kernel)) (fun _ _ _ _ _ => (pg_name (i := 1) sc__law_good.nd rfl (Or.inl rfl))) (fun _ _ _ _ _ => (pts_one (pt_not (pt_val (pe_has D__law_is_prime (hr.mono (by decide)) rfl pass0 (pa_cons (pv 1) pa_nil)))))) (fun _ _ _ _ _ => (pv 1))) (pe_lst pa_nil) (nomark _))))), ?_⟩)⟩
  · obtain ⟨p, ws, rfl, _⟩ := h
    rfl
  · obtain ⟨p, ws, rfl, hs, hz, hw, q⟩ := h
    have hx : ∀ {i : Nat} {x : V}, (ws.map sV)[i]? = some x → x = .str (S (ws.getD i [])) ∧ ws.getD i [] ∈ ws := fun {i x} h => by
      rw [List.getElem?_map] at h
      obtain ⟨u, hu, rfl⟩ := Option.map_eq_some_iff.mp h
      rw [List.getD_eq_getElem?_getD, hu]
      exact ⟨rfl, List.mem_of_getElem? hu⟩
    have hgetD : ∀ (f : Nat → Bool) (n : Nat), ∀ l ∈ ((List.range n).filter f).map (fun i => ws.getD i []), Lays l := fun f n l hl => by
      obtain ⟨i, _, rfl⟩ := List.mem_map.mp hl
      rw [List.getD_eq_getElem?_getD]
      cases e : ws[i]? with
      | none => exact fun c hc => by cases hc
      | some u => exact (hw u (List.mem_of_getElem? e)).2
    have hys : cutV (ws.map sV) (some 1) none = (ws.drop 1).map sV := by
      have := cutV_from (ws.map sV) 1
      rw [List.map_drop]
      exact this
    have e := el_lcZ (K := K) (σ := L2.start N__law_good [.ref p]) (H := H) (p := p) (xs := ws.map sV) (ys := (ws.drop 1).map sV) (j1 := 1) (j2 := 2) (vs := [1, 2]) (ta := tVar 0) (tb := tSl (rSlL K) (tVar 0) (tPart (tC (.int 1))) tNoPart) (t := tTest (tOp rLtS (tVar 1) (tVar 2))) (te := tVar 1) (risesAt ws) (fun i => sV (ws.getD i []))
      (ev_var rfl) hs (fun H1 e1 => by
        have := el_sl (K := K) (σ := L2.start N__law_good [.ref p]) (H := H1) (te := tVar 0) (tl := tPart (tC (.int 1))) (th := tNoPart) (a := p) (xs := ws.map sV) (ev_var rfl) (eo_some ev_c) eo_none (ex_l e1 hs)
        rw [hys] at this
        exact this) (by rw [List.length_map, List.length_map]; omega) (fun _ _ => rfl) (fun i x y H1 e1 h1 h2 => by
        obtain ⟨rfl, _⟩ := hx h1
        rw [List.getElem?_map, List.getElem?_drop] at h2
        obtain ⟨u, hu, rfl⟩ := Option.map_eq_some_iff.mp h2
        have hg : ws.getD (i + 1) [] = u := by rw [List.getD_eq_getElem?_getD, Nat.add_comm, hu]; rfl
        unfold risesAt
        rw [hg]
        exact et_test (ev_op (ev_var rfl) (ev_var rfl) rv_ltS)) (fun i x y H1 e1 h1 h2 _ => by
        obtain ⟨rfl, _⟩ := hx h1
        exact ev_var rfl)
    rw [show min (ws.map sV).length ((ws.drop 1).map sV).length = ws.length - 1 by rw [List.length_map, List.length_map, List.length_drop]; omega] at e
    have e2 := ev_anyS (K := K) (ls := ((List.range (ws.length - 1)).filter (risesAt ws)).map fun i => ws.getD i []) (by rw [List.map_map]; exact e) (hgetD _ _)
    rw [List.isEmpty_map] at e2
    refine q_when (b := !noRise ws) (et_test e2) (fun hb H1 e1 => ?_) (fun hb H1 e1 => ?_)
    · have z : noRise ws = false := by
        cases c : noRise ws with
        | true => rw [c] at hb; cases hb
        | false => rfl
      refine s_ret (v := .bl false) ev_c fun H2 e2 => ?_
      have g := q H2 (e1.trans e2)
      unfold goodB at g
      rw [z] at g
      exact g
    · have z : noRise ws = true := by
        cases c : noRise ws with
        | true => rfl
        | false => rw [c] at hb; cases hb
      have e3 := el_lcL (K := K) (σ := L2.start N__law_good [.ref p]) (H := H1) (a := p) (xs := ws.map sV) (tl := tVar 0) (j := 1) (vs := [1]) (t := tNot (tB (tCall sp_lprime [] E0 (tCons (tVar 1) tNil)))) (te := tVar 1) (fun i => !primeB (ws.getD i [])) (fun i => sV (ws.getD i []))
        (ev_var rfl) (ex_l e1 hs) (by rw [List.length_map]; omega) (fun _ => rfl) (fun i x H2 e2 h => by
          obtain ⟨rfl, hm⟩ := hx h
          exact et_not (et_B (ev_call (ea_cons (ev_var rfl) ea_nil) fun H3 e3 Q3 q3 E3 => ⟨_, rfl, Nat.le_trans (hw _ hm).1 (by decide), q3⟩))) (fun i x H2 e2 h _ => by
          obtain ⟨rfl, _⟩ := hx h
          exact ev_var rfl)
      rw [List.length_map] at e3
      have e4 := ev_noS (K := K) (ls := ((List.range ws.length).filter fun i => !primeB (ws.getD i [])).map fun i => ws.getD i []) (by rw [List.map_map]; exact e3) (hgetD _ _)
      rw [List.isEmpty_map, all_good] at e4
      refine s_ret e4 fun H2 e2 => ?_
      have g := q H2 (e1.trans e2)
      unfold goodB at g
      rw [z] at g
      exact g

theorem min12 (n : Nat) : 1 ≤ 1 + (if (n : Int) < 12 then (n : Int) else 12) ∧ 1 + (if (n : Int) < 12 then (n : Int) else 12) ≤ 13 := by
  split <;> omega
theorem shape_one {ls : List (List Nat)} (h : ∀ l ∈ ls, Lays l) : SeqAt.shaped (.list [.list (ls.map dS)]) = true := by
  unfold SeqAt.shaped
  have e1 : (PyData.list [.list (ls.map dS)]).canLay0 = true := by
    simp [PyData.canLay0, PyData.canLayAll0, lay_strs h]
  have e2 : (PyData.list [.list (ls.map dS)]).depth = 2 := by
    simp [PyData.depth, PyData.depthAll, deep_strs]
  rw [e1, e2]
  rfl
theorem eqv_one (ls : List (List Nat)) : PyData.eqv (.list [.list (ls.map dS)]) (.list [.list (ls.map dS)]) = true := by
  simp [PyData.eqv, PyData.eqvAll, eqv_strs]
theorem eqv_self (ls : List (List Nat)) : PyData.eqv (.list (ls.map dS)) (.list (ls.map dS)) = true := by
  simp [PyData.eqv, eqv_strs]
theorem ok_law (T : Txt K mg cE cW) {f : Addr} {fd : FuncData} (F : Fun K "law" "law" s_law f fd) (D__law_number : Has P w K mg base CX0 2 "_law_number" ["_law_script", "_law_k"] (sp_number K)) (D__law_word : Has P w K mg base CX0 3 "_law_word" ["_law_script", "_law_at"] (sp_word K))
    (D__law_ways : Has P w K mg base CX0 11 "_law_ways" ["_law_word_here"] (sp_ways 10)) (D__law_good : Has P w K mg base CX0 2 "_law_good" ["_law_way"] (sp_good K)) (D_parts_of : Has P w K mg base (L2.CX P w) 3 "parts_of" ["word"] (sp_parts_of K cW)) : FnOk P w K mg base CX0 12 f fd ["_law_script"] (sp_law K) := by
  refine F.ok sc_law (fun vs H Q E h => ?_) (fun cdv A outer s H vs Q E hr h => ⟨_, (pss_cons (ps_for PassesOwn.never rfl (pi_range1 rfl T.b_range (pa_cons (pe_op op_add pe_int (pe_callB (id := "min") (call_min2 rfl) (by rfl) T.b_min (by decide +kernel) (pa_cons pe_int (pa_cons (pe_callB (id := "len") call_len_seq (by rfl) T.b_len PySem.boot_len (pa_cons (pv 0) pa_nil)) pa_nil)))) pa_nil)) (pg_name (i := 1) sc_law.nd rfl (Or.inl rfl)) (pss_cons (ps_set (i := 2) sc_law.nd rfl (Or.inr rfl) (pe_has D__law_word (hr.mono (by decide)) rfl pass0 (pa_cons (pv 0) (pa_cons (pe_op op_mul pe_int (pv 1)) pa_nil)))) (pss_cons (ps_set (i := 3) sc_law.nd rfl (Or.inl rfl) (pe_slice sl_str (pv 2) po_none (po_some (pe_op op_add pe_int (pe_op op_mod (pe_has D__law_number (hr.mono (by decide)) rfl pass0 (pa_cons (pv 0) (pa_cons (pe_op op_add (pe_op op_mul pe_int (pv 1)) pe_int) pa_nil))) pe_int))))) (pss_cons (ps_if (pt_cmpR (op_neD hr.units) (pe_lc (own := [("_law_way", 4)]) (g := gName 4) rfl sc_law.nd (pi_list (pe_has D__law_ways (hr.mono (by decide)) rfl pass0 (pa_cons (pv 3) pa_nil))) (blkOk_by (own := [("_law_way", 4)]) (N := N_law) (sc := defScope s_law) (by decide +kernel)) (fun _ _ _ _ _ => (pg_name (i := 4) sc_law.nd rfl (Or.inl rfl))) (fun _ _ _ _ _ => (pts_one (pt_val (pe_has D__law_good (hr.mono (by decide)) rfl pass0 (pa_cons (pv 4) pa_nil))))) (fun _ _ _ _ _ => (pv 4))) (pe_lst (pa_cons (pe_has D_parts_of (hr.mono (by decide)) rfl passL (pa_cons (pv 3) pa_nil)) pa_nil)) (nomark _)) (pss_one (ps_ret pe_bl)) pss_nil) (pss_cons (ps_set (i := 5) sc_law.nd rfl (Or.inl rfl) (pe_has D_parts_of (hr.mono (by decide)) rfl passL (pa_cons (pv 2) pa_nil))) (pss_cons (ps_set (i := 6) sc_law.nd rfl (Or.inl rfl) (pe_lst pa_nil)) (pss_cons (ps_for PassesOwn.never rfl (pi_list (pv 5)) (pg_name (i := 7) sc_law.nd rfl (Or.inl rfl)) (pss_one (ps_set (i := 6) sc_law.nd rfl (Or.inl rfl) (pe_op op_cat (pv 6) (pe_has D_parts_of (hr.mono (by decide)) rfl passL (pa_cons (pv 7) pa_nil)))))) (pss_one (ps_if (PW.pt (pw_or (pt_cmpR (op_neD hr.units) (pv 6) (pv 5) (nomark _)) (pw_or1 (pt_cmpR op_ne (pe_ix ix_list (pv 5) (pe_un un_neg pe_int) (fun _ _ => rfl)) (pe_callB (id := "min") (cr_minS rfl) (by rfl) T.b_min (by decide +kernel) (pa_cons (pe_lc (own := [("_law_place", 8)]) (g := gName 8) rfl sc_law.nd (pi_range1 rfl T.b_range (pa_cons (pe_callB (id := "len") call_len_str (by rfl) T.b_len PySem.boot_len (pa_cons (pv 2) pa_nil)) pa_nil)) (blkOk_by (own := [("_law_place", 8)]) (N := N_law) (sc := defScope s_law) (by decide +kernel)) (fun _ _ _ _ _ => (pg_name (i := 8) sc_law.nd rfl (Or.inl rfl))) (fun _ _ _ _ _ => pts_nil) (fun _ _ _ _ _ => (pe_slice sl_str (pv 2) (po_some (pv 8)) po_none))) pa_nil)) (nomark _))))) (pss_one (ps_ret pe_bl)) pss_nil))))))))) (pss_one (ps_ret pe_bl))), ?_⟩)
  · obtain ⟨a, ns, rfl, _⟩ := h
    rfl
  · obtain ⟨a, ns, rfl, hs, hl, q⟩ := h
    obtain ⟨n0, n1⟩ := min12 ns.length
    refine q_forR1 (n := 1 + (if (ns.length : Int) < 12 then (ns.length : Int) else 12)) (ea_cons (ev_op ev_c (ev_minI ev_c (ev_lenI (ev_var rfl) hs)) rv_I0) ea_nil) ⟨by omega, by omega⟩
      (fun i σ' H' => (∃ a1 a2 a3 a4 a5 a6 a7 a8, σ' = [some (.ref a), a1, a2, a3, a4, a5, a6, a7, a8]) ∧ Ex H H') (fun H2 e2 => ⟨⟨_, _, _, _, _, _, _, _, rfl⟩, e2⟩) ?_ ?_
    · rintro i σ' H1 hi ⟨⟨a1, a2, a3, a4, a5, a6, a7, a8, rfl⟩, e1⟩
      have hi31 : (i : Int) ≤ 31 := by omega
      refine q_asg (v := .str (S (lword ns (80 * (i : Int))))) (ev_call (ea_cons (ev_var rfl) (ea_cons (by walk_at "br_ev") ea_nil)) fun H3 e3 Q3 q3 E3 => ⟨a, ns, _, rfl, ex_l (e1.trans e3) hs, by omega, by omega, q3⟩) fun H3 e3 => ?_
      have ok := lword_ok ns (80 * (i : Int))
      generalize lword ns (80 * (i : Int)) = wd at ok ⊢
      obtain ⟨w1, w2, w3⟩ := word_ok ok
      have e13 := e1.trans e3
      obtain ⟨b0, b1⟩ := number_bd ns (80 * (i : Int) + 70)
      generalize hnum : number ns (80 * (i : Int) + 70) = num at b0 b1
      have m0 : 0 ≤ num % 9 := Int.emod_nonneg _ (by decide)
      have m1 : num % 9 < 9 := Int.emod_lt_of_pos _ (by decide)
      refine q_asg (v := .str (S (wd.take (1 + num % 9).toNat))) (ev_to (ev_var rfl) (by omega) (ev_op ev_c (ev_op (ev_call (ea_cons (ev_var rfl) (ea_cons (by walk_at "br_ev") ea_nil)) fun H5 e5 Q5 q5 E5 => ⟨a, ns, _, rfl, ex_l (e13.trans e5) hs, by omega, by omega, by rw [hnum]; exact q5⟩) ev_c (rv_I (by decide))) rv_I0) (by omega)) fun H4 e4 => ?_
      have okf : okS (wd.take (1 + num % 9).toNat) = true := ok_word (by rw [List.length_take]; omega) (by rw [List.length_take]; omega) fun c hc => w3 c (List.mem_of_mem_take hc)
      have lf : (wd.take (1 + num % 9).toNat).length ≤ 9 := by rw [List.length_take]; omega
      generalize wd.take (1 + num % 9).toNat = few at okf lf ⊢
      have e14 := e13.trans e4
      have told : ∀ (l : List Nat), okS l = true → ∀ (k : Nat) (σ : L2.St) (H1 : Hp), σ[k]? = some (some (.str (S l))) → EvL (tCall (sp_parts_of K cW) [] E0 (tCons (tVar k) tNil)) σ H1 ((partsL l).map sV) := fun l okl k σ H1 h0 => el_call (ea_cons (ev_var h0) ea_nil) fun H3 e3 Q3 q4 E3 => ⟨.str (S l), rfl, ths_word okl, fun z => absurd (z.symm.trans (show isWordV (.str (S l)) = true from okl)) Bool.false_ne_true, fun l' e _ => by
        have e' : l = l' := S_inj (V.str.inj e)
        subst e'
        exact q4⟩
      have layW : ∀ {l : List Nat}, okS l = true → ∀ w ∈ partsL l, Lays w := fun okl w hw => lays_word (word_ok (parts_word okl hw)).2.2
      have many := ways_many 10 few (by omega)
      have p2 : 2 ^ few.length ≤ 2 ^ 9 := Nat.pow_le_pow_right (by decide) lf
      have eW := ep_lcLL (K := K) (H := H4) (σ := [some (.ref a), some (.int (i : Int)), some (.str (S wd)), some (.str (S few)), a4, a5, a6, a7, a8]) (lss := waysN 10 few) (j := 4) (vs := [4]) (tx := tCall (sp_ways 10) [] E0 (tCons (tVar 3) tNil)) (t := tB (tCall (sp_good K) [] E0 (tCons (tVar 4) tNil))) (te := tVar 4) goodB id
        (ep_call (vs := [.str (S few)]) (ea_cons (ev_var rfl) ea_nil) fun H5 e5 Q5 q5 => ⟨few, rfl, by omega, lf, fun v H6 e6 hv => q5 v H6 e6 hv⟩) (by omega) (fun _ => rfl) (fun ws r H5 hm e5 hr5 => by
          obtain ⟨f1, f2⟩ := (ways_mem 10 few ws (by omega)).mp hm
          refine et_B (ev_call (ea_cons (ev_var rfl) ea_nil) fun H6 e6 Q6 q6 E6 => ⟨r, ws, rfl, sq_of (e6 r _ hr5), ?_, fun w hw => ?_, q6⟩)
          · have f3 : ∀ ws : List (List Nat), (∀ w ∈ ws, w ≠ []) → ws.length ≤ ws.flatten.length := by
              intro ws
              induction ws with
              | nil => intro _; exact Nat.zero_le _
              | cons w ws ih =>
                intro h
                have h1 := List.length_pos_iff.mpr (h w List.mem_cons_self)
                have h2 := ih fun u hu => h u (List.mem_cons_of_mem _ hu)
                rw [List.flatten_cons, List.length_append, List.length_cons]
                omega
            have f4 := f3 ws f2
            rw [f1] at f4
            omega
          · have f5 := part_len hw
            rw [f1] at f5
            refine ⟨by omega, lays_word fun c hc => (word_ok okf).2.2 c ?_⟩
            rw [← f1]
            exact List.mem_flatten.mpr ⟨w, hw, hc⟩) (fun ws r H5 hm e5 hr5 _ => fun H6 e6 Q6 q6 => ev_var rfl H6 e6 _ fun H7 e7 => q6 _ H7 e7 ⟨r, rfl, .inr rfl, e7 r _ (e6 r _ hr5)⟩)
      rw [ways_good (show few.length < 10 by omega)] at eW
      have eN := ev_neD (ed_ll (K := K) eW) (fun H5 e5 => ed_one (ed_strs (told few okf 3 _ H5 rfl))) (shape_one (layW okf)) (shape_one (layW okf))
      rw [show ((List.map id [partsL few]).map fun ws => PyData.list (ws.map dS)) = [.list ((partsL few).map dS)] from rfl, eqv_one] at eN
      refine q_when (b := false) (et_test eN) (fun z => nomatch z) fun _ H5 e5 => ?_
      have e15 := e14.trans e5
      refine q_asgL (told wd ok 2 _ H5 rfl) fun p H6 hp e6 h6 => ?_
      refine q_asgL (xs := []) (el_lst ea_nil (by decide)) fun p2' H7 hp2 e7 h7 => ?_
      have e17 := (e15.trans e6).trans e7
      obtain ⟨⟨hsuf, hfall⟩, hflat⟩ := partsL_ok wd
      have many60 := parts_many ok
      refine q_forLn (a := p) (xs := (partsL wd).map sV) (ev_var rfl) (sq_of (e7 p _ h6)) (fun j σ' H' => (∃ r b7, σ' = [some (.ref a), some (.int (i : Int)), some (.str (S wd)), some (.str (S few)), a4, some (.ref p), some (.ref r), b7, a8] ∧ H' r = some (.lst (((partsL wd).take j).map sV))) ∧ Ex H7 H') (fun H8 e8 => ⟨⟨p2', _, rfl, e8 p2' _ h7⟩, e8⟩) (fun j σ' H' _ ⟨_, e8⟩ => sq_of (e8 p _ (e7 p _ h6))) ?_ ?_
      · rintro j x σ' H8 hx ⟨⟨r, b7, rfl, h8⟩, e8⟩
        rw [List.getElem?_map] at hx
        obtain ⟨u, hu, rfl⟩ := Option.map_eq_some_iff.mp hx
        have hum := List.mem_of_getElem? hu
        have t1 := told u (parts_word ok hum) 7 [some (.ref a), some (.int (i : Int)), some (.str (S wd)), some (.str (S few)), a4, some (.ref p), some (.ref r), some (sV u), a8] H8 rfl
        rw [parts_one (hsuf u hum)] at t1
        refine s_asgL (el_catV (ev_var rfl) h8 t1 (by rw [List.length_map, List.length_take]; show _ + 1 ≤ _; omega)) fun r' H9 hr9 e9 h9 => ⟨⟨r', _, rfl, ?_⟩, e8.trans e9⟩
        rw [h9, List.take_succ, hu, List.map_append]
        rfl
      · rintro σ' H8 ⟨⟨r, b7, rfl, h8⟩, e8⟩
        rw [List.length_map, List.take_length] at h8
        have hp8 := e8 p _ (e7 p _ h6)
        have ne : partsL wd ≠ [] := fun z => by
          rw [z] at hflat
          rw [← hflat] at w1
          exact absurd w1 (by decide)
        obtain ⟨init, zl, hz⟩ : ∃ init zl, partsL wd = init ++ [zl] := ⟨(partsL wd).dropLast, (partsL wd).getLast ne, (List.dropLast_concat_getLast ne).symm⟩
        have eN2 := ev_neD (K := K) (ta := tVar 6) (tb := tVar 5) (σ := [some (.ref a), some (.int (i : Int)), some (.str (S wd)), some (.str (S few)), a4, some (.ref p), some (.ref r), b7, a8]) (H := H8) (ed_var (ev_var rfl) (sq_of h8)) (fun H9 e9 => ed_var (ev_var rfl) (sq_of (e9 p _ hp8))) (shape_strs (layW ok)) (shape_strs (layW ok))
        rw [eqv_self] at eN2
        have eL : Ev (tOp (rIxL K) (tVar 5) (tUn (rU fun i => .int (-i)) (tC (.int 1)))) [some (.ref a), some (.int (i : Int)), some (.str (S wd)), some (.str (S few)), a4, some (.ref p), some (.ref r), b7, a8] H8 (sV zl) := by
          rw [hz, List.map_append] at hp8
          exact ev_op (ev_var rfl) (ev_un ev_c ru_neg) (rv_ixL (sq_of hp8) (atI_last _ _))
        have e9 := el_lcR1 (σ := [some (.ref a), some (.int (i : Int)), some (.str (S wd)), some (.str (S few)), a4, some (.ref p), some (.ref r), b7, a8]) (H := H8) (ta := tCons (tCB rLenT (tCons (tVar 2) tNil)) tNil) (j := 8) (vs := [8]) (n := (wd.length : Int)) (t := tYes) (te := tSl rSlS (tVar 2) (tPart (tVar 8)) tNoPart) (fun _ => true) (fun k => V.str (S (wd.drop k))) (ea_cons (ev_lenS (ev_var rfl) (by omega)) ea_nil) (by omega) (fun _ => rfl) (fun _ _ _ _ => et_yes) (fun k H9 e9 hk _ => by
          have e := ev_from (te := tVar 2) (ta := tVar 8) (σ := [some (.ref a), some (.int (i : Int)), some (.str (S wd)), some (.str (S few)), a4, some (.ref p), some (.ref r), b7, some (.int (k : Int))]) (H := H9) (l := wd) (i := (k : Int)) (ev_var rfl) (by omega) (ev_var rfl) (by omega)
          rw [Int.toNat_natCast] at e
          exact e)
        rw [given_all, Int.toNat_natCast] at e9
        rw [hz, List.flatten_append] at hflat
        simp only [List.flatten_cons, List.flatten_nil, List.append_nil] at hflat
        have zpos : 0 < zl.length := (hsuf zl (by rw [hz]; exact List.mem_append_right _ (List.mem_singleton.mpr rfl))).1
        have eM := ev_minS (K := K) (ys := (List.range wd.length).map fun k => wd.drop k) (m := zl) (by rw [List.map_map]; exact e9) (List.mem_map.mpr ⟨init.flatten.length, List.mem_range.mpr (by rw [← hflat, List.length_append]; omega), by rw [← hflat, List.drop_left]⟩) (fun y hy => by
          obtain ⟨k, hk, rfl⟩ := List.mem_map.mp hy
          have hk := List.mem_range.mp hk
          have g := last_le (ws := init) (z := zl) (by rw [← hz]; exact ⟨hsuf, hfall⟩) k
          rw [List.flatten_append] at g
          simp only [List.flatten_cons, List.flatten_nil, List.append_nil] at g
          rw [hflat] at g
          exact g hk)
        refine s_when (b := false) (et_or (a := false) (b := false) (et_test eN2) fun _ => et_same eL eM (by rfl)) (fun z => nomatch z) (fun _ H9 e9 => ⟨⟨_, _, _, _, _, _, _, _, rfl⟩, (e17.trans e8).trans e9⟩)
    · rintro σ' H1 ⟨⟨a1, a2, a3, a4, a5, a6, a7, a8, rfl⟩, e1⟩
      exact s_ret (v := .bl true) ev_c fun H2 e2 => q H2 (e1.trans e2)
end
theorem all_mk {l : PySem.W.OpenLaw} {w : World} {K : PySem.W.Frag} {h : Heap} {mg : Str → Option Value} {fa cE cW : Addr} (X : K.In h) (G : h.Ns mainGlobals mg) (hfa : mg "law" = some (.ref fa))
    {u_MOST_LETTERS : Value}
    {u_LETTERS : Value}
    {f_is_word : Addr} {od_is_word an_is_word : Option Addr} {sl_is_word : Array (Option Value)} {oc_is_word kV_is_word dc_is_word pm_is_word cd_is_word ct_is_word : Value}
    {f_need_word : Addr} {od_need_word an_need_word : Option Addr} {sl_need_word : Array (Option Value)} {oc_need_word kV_need_word dc_need_word pm_need_word cd_need_word ct_need_word : Value}
    {f_parts_of : Addr} {od_parts_of an_parts_of : Option Addr} {sl_parts_of : Array (Option Value)} {oc_parts_of kV_parts_of dc_parts_of pm_parts_of cd_parts_of ct_parts_of : Value}
    {f__law_mixed : Addr} {od__law_mixed an__law_mixed : Option Addr} {sl__law_mixed : Array (Option Value)} {oc__law_mixed kV__law_mixed dc__law_mixed pm__law_mixed cd__law_mixed ct__law_mixed : Value}
    {f__law_number : Addr} {od__law_number an__law_number : Option Addr} {sl__law_number : Array (Option Value)} {oc__law_number kV__law_number dc__law_number pm__law_number cd__law_number ct__law_number : Value}
    {f__law_word : Addr} {od__law_word an__law_word : Option Addr} {sl__law_word : Array (Option Value)} {oc__law_word kV__law_word dc__law_word pm__law_word cd__law_word ct__law_word : Value}
    {f__law_is_prime : Addr} {od__law_is_prime an__law_is_prime : Option Addr} {sl__law_is_prime : Array (Option Value)} {oc__law_is_prime kV__law_is_prime dc__law_is_prime pm__law_is_prime cd__law_is_prime ct__law_is_prime : Value}
    {f__law_ways : Addr} {od__law_ways an__law_ways : Option Addr} {sl__law_ways : Array (Option Value)} {oc__law_ways kV__law_ways dc__law_ways pm__law_ways cd__law_ways ct__law_ways : Value}
    {f__law_good : Addr} {od__law_good an__law_good : Option Addr} {sl__law_good : Array (Option Value)} {oc__law_good kV__law_good dc__law_good pm__law_good cd__law_good ct__law_good : Value}
    {f_law : Addr} {od_law an_law : Option Addr} {sl_law : Array (Option Value)} {oc_law kV_law dc_law pm_law cd_law ct_law : Value}
    (h_b_all : PySem.W.nsIn K mainGlobals "all" = some none)
    (h_b_isinstance : PySem.W.nsIn K mainGlobals "isinstance" = some none)
    (h_b_len : PySem.W.nsIn K mainGlobals "len" = some none)
    (h_b_min : PySem.W.nsIn K mainGlobals "min" = some none)
    (h_b_range : PySem.W.nsIn K mainGlobals "range" = some none)
    (h_b_str : PySem.W.nsIn K mainGlobals "str" = some none)
    (h_b_zip : PySem.W.nsIn K mainGlobals "zip" = some none)
    (h_c_MOST_LETTERS : PySem.W.nsIn K mainGlobals "MOST_LETTERS" = some (some u_MOST_LETTERS)) (r_c_MOST_LETTERS : RelV (.int 60) u_MOST_LETTERS)
    (h_c_LETTERS : PySem.W.nsIn K mainGlobals "LETTERS" = some (some u_LETTERS)) (r_c_LETTERS : RelV (.str "abcdefgh") u_LETTERS)
    (h_k_BeadError : PySem.W.nsIn K mainGlobals "BeadError" = some (some (.ref cE)))
    (h_k_BadWord : PySem.W.nsIn K mainGlobals "BadWord" = some (some (.ref cW)))
    (h_x_BadWord : PySem.W.excIn K cW [.type "ValueError", .type "Exception", .type "BaseException", .type "object"] "ValueError.__new__" = true)
    (h_p_BadWord : PySem.W.keepIn K (.ref cW) = true)
    (h_s_BadWord : PySem.W.subIn K (.ref cW) (.type "BaseException") = some true)
    (h_y_BadWord : PySem.W.typeIn K (.ref cW) = some (.type "type"))
    (g_is_word : PySem.W.nsIn K mainGlobals "is_word" = some (some (.ref f_is_word))) (l_is_word : K.lookup f_is_word = some ⟨oc_is_word, od_is_word, .func (PySem.W.fnOf "is_word" "is_word" (defArgs s_is_word) (defBody s_is_word) (defScope s_is_word) .none kV_is_word dc_is_word pm_is_word an_is_word cd_is_word ct_is_word), sl_is_word⟩) (d_is_word : PySem.W.codeIn K cd_is_word "is_word" = true) (p_is_word : PySem.W.keepIn K (.ref f_is_word) = true)
    (g_need_word : PySem.W.nsIn K mainGlobals "need_word" = some (some (.ref f_need_word))) (l_need_word : K.lookup f_need_word = some ⟨oc_need_word, od_need_word, .func (PySem.W.fnOf "need_word" "need_word" (defArgs s_need_word) (defBody s_need_word) (defScope s_need_word) .none kV_need_word dc_need_word pm_need_word an_need_word cd_need_word ct_need_word), sl_need_word⟩) (d_need_word : PySem.W.codeIn K cd_need_word "need_word" = true) (p_need_word : PySem.W.keepIn K (.ref f_need_word) = true)
    (g_parts_of : PySem.W.nsIn K mainGlobals "parts_of" = some (some (.ref f_parts_of))) (l_parts_of : K.lookup f_parts_of = some ⟨oc_parts_of, od_parts_of, .func (PySem.W.fnOf "parts_of" "parts_of" (defArgs s_parts_of) (defBody s_parts_of) (defScope s_parts_of) .none kV_parts_of dc_parts_of pm_parts_of an_parts_of cd_parts_of ct_parts_of), sl_parts_of⟩) (d_parts_of : PySem.W.codeIn K cd_parts_of "parts_of" = true) (p_parts_of : PySem.W.keepIn K (.ref f_parts_of) = true)
    (g__law_mixed : PySem.W.nsIn K mainGlobals "_law_mixed" = some (some (.ref f__law_mixed))) (l__law_mixed : K.lookup f__law_mixed = some ⟨oc__law_mixed, od__law_mixed, .func (PySem.W.fnOf "_law_mixed" "_law_mixed" (defArgs s__law_mixed) (defBody s__law_mixed) (defScope s__law_mixed) .none kV__law_mixed dc__law_mixed pm__law_mixed an__law_mixed cd__law_mixed ct__law_mixed), sl__law_mixed⟩) (d__law_mixed : PySem.W.codeIn K cd__law_mixed "_law_mixed" = true) (p__law_mixed : PySem.W.keepIn K (.ref f__law_mixed) = true)
    (g__law_number : PySem.W.nsIn K mainGlobals "_law_number" = some (some (.ref f__law_number))) (l__law_number : K.lookup f__law_number = some ⟨oc__law_number, od__law_number, .func (PySem.W.fnOf "_law_number" "_law_number" (defArgs s__law_number) (defBody s__law_number) (defScope s__law_number) .none kV__law_number dc__law_number pm__law_number an__law_number cd__law_number ct__law_number), sl__law_number⟩) (d__law_number : PySem.W.codeIn K cd__law_number "_law_number" = true) (p__law_number : PySem.W.keepIn K (.ref f__law_number) = true)
    (g__law_word : PySem.W.nsIn K mainGlobals "_law_word" = some (some (.ref f__law_word))) (l__law_word : K.lookup f__law_word = some ⟨oc__law_word, od__law_word, .func (PySem.W.fnOf "_law_word" "_law_word" (defArgs s__law_word) (defBody s__law_word) (defScope s__law_word) .none kV__law_word dc__law_word pm__law_word an__law_word cd__law_word ct__law_word), sl__law_word⟩) (d__law_word : PySem.W.codeIn K cd__law_word "_law_word" = true) (p__law_word : PySem.W.keepIn K (.ref f__law_word) = true)
    (g__law_is_prime : PySem.W.nsIn K mainGlobals "_law_is_prime" = some (some (.ref f__law_is_prime))) (l__law_is_prime : K.lookup f__law_is_prime = some ⟨oc__law_is_prime, od__law_is_prime, .func (PySem.W.fnOf "_law_is_prime" "_law_is_prime" (defArgs s__law_is_prime) (defBody s__law_is_prime) (defScope s__law_is_prime) .none kV__law_is_prime dc__law_is_prime pm__law_is_prime an__law_is_prime cd__law_is_prime ct__law_is_prime), sl__law_is_prime⟩) (d__law_is_prime : PySem.W.codeIn K cd__law_is_prime "_law_is_prime" = true) (p__law_is_prime : PySem.W.keepIn K (.ref f__law_is_prime) = true)
    (g__law_ways : PySem.W.nsIn K mainGlobals "_law_ways" = some (some (.ref f__law_ways))) (l__law_ways : K.lookup f__law_ways = some ⟨oc__law_ways, od__law_ways, .func (PySem.W.fnOf "_law_ways" "_law_ways" (defArgs s__law_ways) (defBody s__law_ways) (defScope s__law_ways) .none kV__law_ways dc__law_ways pm__law_ways an__law_ways cd__law_ways ct__law_ways), sl__law_ways⟩) (d__law_ways : PySem.W.codeIn K cd__law_ways "_law_ways" = true) (p__law_ways : PySem.W.keepIn K (.ref f__law_ways) = true)
    (g__law_good : PySem.W.nsIn K mainGlobals "_law_good" = some (some (.ref f__law_good))) (l__law_good : K.lookup f__law_good = some ⟨oc__law_good, od__law_good, .func (PySem.W.fnOf "_law_good" "_law_good" (defArgs s__law_good) (defBody s__law_good) (defScope s__law_good) .none kV__law_good dc__law_good pm__law_good an__law_good cd__law_good ct__law_good), sl__law_good⟩) (d__law_good : PySem.W.codeIn K cd__law_good "_law_good" = true) (p__law_good : PySem.W.keepIn K (.ref f__law_good) = true)
    (g_law : PySem.W.nsIn K mainGlobals "law" = some (some (.ref f_law))) (l_law : K.lookup f_law = some ⟨oc_law, od_law, .func (PySem.W.fnOf "law" "law" (defArgs s_law) (defBody s_law) (defScope s_law) .none kV_law dc_law pm_law an_law cd_law ct_law), sl_law⟩) (d_law : PySem.W.codeIn K cd_law "law" = true) (p_law : PySem.W.keepIn K (.ref f_law) = true)
    : ∃ fd : FuncData, (∀ (s : Shared) (v : Value), BindsTo s fd ⟨[v], []⟩ [("_law_script", v)]) ∧ ∀ base : Heap, K.In base → base.Ns mainGlobals mg → FnOk l.prog w K mg base CX0 12 fa fd ["_law_script"] (sp_law K) := by
  have e := hfa.symm.trans (PySem.W.mg_of X G g_law)
  cases e
  have T : Txt K mg cE cW := { b_all := PySem.W.mg_none_of X G h_b_all, b_isinstance := PySem.W.mg_none_of X G h_b_isinstance, b_len := PySem.W.mg_none_of X G h_b_len, b_min := PySem.W.mg_none_of X G h_b_min, b_range := PySem.W.mg_none_of X G h_b_range, b_str := PySem.W.mg_none_of X G h_b_str, b_zip := PySem.W.mg_none_of X G h_b_zip, c_MOST_LETTERS := ⟨_, PySem.W.mg_of X G h_c_MOST_LETTERS, r_c_MOST_LETTERS⟩, c_LETTERS := ⟨_, PySem.W.mg_of X G h_c_LETTERS, r_c_LETTERS⟩, k_BeadError := PySem.W.mg_of X G h_k_BeadError, k_BadWord := PySem.W.mg_of X G h_k_BadWord, x_BadWord := h_x_BadWord, p_BadWord := h_p_BadWord, s_BadWord := h_s_BadWord, y_BadWord := h_y_BadWord }
  have S_is_word : Src K mg "is_word" s_is_word ["thing"] := ⟨f_is_word, _, PySem.W.mg_of X G g_is_word, fun_mk (st := s_is_word) l_is_word d_is_word p_is_word, (fun_mk (st := s_is_word) l_is_word d_is_word p_is_word).binds (ps := ["thing"]) fun _ _ _ _ _ _ us hl => match us, hl with | [_], _ => rfl⟩
  have S_need_word : Src K mg "need_word" s_need_word ["thing"] := ⟨f_need_word, _, PySem.W.mg_of X G g_need_word, fun_mk (st := s_need_word) l_need_word d_need_word p_need_word, (fun_mk (st := s_need_word) l_need_word d_need_word p_need_word).binds (ps := ["thing"]) fun _ _ _ _ _ _ us hl => match us, hl with | [_], _ => rfl⟩
  have S_parts_of : Src K mg "parts_of" s_parts_of ["word"] := ⟨f_parts_of, _, PySem.W.mg_of X G g_parts_of, fun_mk (st := s_parts_of) l_parts_of d_parts_of p_parts_of, (fun_mk (st := s_parts_of) l_parts_of d_parts_of p_parts_of).binds (ps := ["word"]) fun _ _ _ _ _ _ us hl => match us, hl with | [_], _ => rfl⟩
  have S__law_mixed : Src K mg "_law_mixed" s__law_mixed ["_law_cell", "_law_k"] := ⟨f__law_mixed, _, PySem.W.mg_of X G g__law_mixed, fun_mk (st := s__law_mixed) l__law_mixed d__law_mixed p__law_mixed, (fun_mk (st := s__law_mixed) l__law_mixed d__law_mixed p__law_mixed).binds (ps := ["_law_cell", "_law_k"]) fun _ _ _ _ _ _ us hl => match us, hl with | [_, _], _ => rfl⟩
  have S__law_number : Src K mg "_law_number" s__law_number ["_law_script", "_law_k"] := ⟨f__law_number, _, PySem.W.mg_of X G g__law_number, fun_mk (st := s__law_number) l__law_number d__law_number p__law_number, (fun_mk (st := s__law_number) l__law_number d__law_number p__law_number).binds (ps := ["_law_script", "_law_k"]) fun _ _ _ _ _ _ us hl => match us, hl with | [_, _], _ => rfl⟩
  have S__law_word : Src K mg "_law_word" s__law_word ["_law_script", "_law_at"] := ⟨f__law_word, _, PySem.W.mg_of X G g__law_word, fun_mk (st := s__law_word) l__law_word d__law_word p__law_word, (fun_mk (st := s__law_word) l__law_word d__law_word p__law_word).binds (ps := ["_law_script", "_law_at"]) fun _ _ _ _ _ _ us hl => match us, hl with | [_, _], _ => rfl⟩
  have S__law_is_prime : Src K mg "_law_is_prime" s__law_is_prime ["_law_word_here"] := ⟨f__law_is_prime, _, PySem.W.mg_of X G g__law_is_prime, fun_mk (st := s__law_is_prime) l__law_is_prime d__law_is_prime p__law_is_prime, (fun_mk (st := s__law_is_prime) l__law_is_prime d__law_is_prime p__law_is_prime).binds (ps := ["_law_word_here"]) fun _ _ _ _ _ _ us hl => match us, hl with | [_], _ => rfl⟩
  have S__law_ways : Src K mg "_law_ways" s__law_ways ["_law_word_here"] := ⟨f__law_ways, _, PySem.W.mg_of X G g__law_ways, fun_mk (st := s__law_ways) l__law_ways d__law_ways p__law_ways, (fun_mk (st := s__law_ways) l__law_ways d__law_ways p__law_ways).binds (ps := ["_law_word_here"]) fun _ _ _ _ _ _ us hl => match us, hl with | [_], _ => rfl⟩
  have S__law_good : Src K mg "_law_good" s__law_good ["_law_way"] := ⟨f__law_good, _, PySem.W.mg_of X G g__law_good, fun_mk (st := s__law_good) l__law_good d__law_good p__law_good, (fun_mk (st := s__law_good) l__law_good d__law_good p__law_good).binds (ps := ["_law_way"]) fun _ _ _ _ _ _ us hl => match us, hl with | [_], _ => rfl⟩
  refine ⟨PySem.W.fnOf "law" "law" (defArgs s_law) (defBody s_law) (defScope s_law) .none kV_law dc_law pm_law an_law cd_law ct_law, fun s v => .of_eq rfl, fun base _ _ => ?_⟩
  have D__law_mixed := has__law_mixed (P := l.prog) (w := w) (base := base) T S__law_mixed
  have D__law_number := has__law_number (P := l.prog) (w := w) (base := base) T S__law_number D__law_mixed
  have D_is_word := has_is_word (P := l.prog) (w := w) (base := base) T S_is_word
  have D_need_word := has_need_word (P := l.prog) (w := w) (base := base) T S_need_word D_is_word
  have D__law_word := has__law_word (P := l.prog) (w := w) (base := base) T S__law_word D__law_number
  have D_parts_of := has_parts_of (P := l.prog) (w := w) (base := base) T S_parts_of D_need_word
  have D__law_is_prime := has__law_is_prime (P := l.prog) (w := w) (base := base) T S__law_is_prime
  have D__law_ways := has__law_ways (P := l.prog) (w := w) (base := base) T S__law_ways 10
  have D__law_good := has__law_good (P := l.prog) (w := w) (base := base) T S__law_good D__law_is_prime
  exact ok_law T (fun_mk (st := s_law) l_law d_law p_law) D__law_number D__law_word D__law_ways D__law_good D_parts_of
end Br
open PySem PySem.W PyProof.Rows
set_option maxRecDepth 100000 in
set_option maxHeartbeats 0 in
theorem PySem.Challenge.cw_beadrings_k05_whole_one_way_holds : PySem.Challenge.rw_beadrings_k05_whole_one_way.Holds := by
  w_on; o_law; k_head; (case hw => w_witness2)
  k_fill
  refine L2.walk_ofK (l := PySem.Challenge.rw_beadrings_k05_whole_one_way) (n := 63) (k := 12) (x := "_law_script") (CX := L2.CX0) (sp := Br.sp_law) rfl (by decide) rfl ⟨rfl, by decide, by decide⟩ (fun w h Y => PySem.W.kIn_of Y) ?F Br.law_asked (fun _ _ _ _ z => z)
  case F =>
    intro w mg fa h KX G hmg
    refine' Br.all_mk KX G hmg ?h_b_all ?h_b_isinstance ?h_b_len ?h_b_min ?h_b_range ?h_b_str ?h_b_zip ?h_c_MOST_LETTERS ?r_c_MOST_LETTERS ?h_c_LETTERS ?r_c_LETTERS ?h_k_BeadError ?h_k_BadWord ?h_x_BadWord ?h_p_BadWord ?h_s_BadWord ?h_y_BadWord ?g_is_word ?l_is_word ?d_is_word ?p_is_word ?g_need_word ?l_need_word ?d_need_word ?p_need_word ?g_parts_of ?l_parts_of ?d_parts_of ?p_parts_of ?g__law_mixed ?l__law_mixed ?d__law_mixed ?p__law_mixed ?g__law_number ?l__law_number ?d__law_number ?p__law_number ?g__law_word ?l__law_word ?d__law_word ?p__law_word ?g__law_is_prime ?l__law_is_prime ?d__law_is_prime ?p__law_is_prime ?g__law_ways ?l__law_ways ?d__law_ways ?p__law_ways ?g__law_good ?l__law_good ?d__law_good ?p__law_good ?g_law ?l_law ?d_law ?p_law
    (case h_b_all => k_is)
    (case h_b_isinstance => k_is)
    (case h_b_len => k_is)
    (case h_b_min => k_is)
    (case h_b_range => k_is)
    (case h_b_str => k_is)
    (case h_b_zip => k_is)
    (case h_c_MOST_LETTERS => k_is)
    (case r_c_MOST_LETTERS => exact ⟨_, rfl⟩)
    (case h_c_LETTERS => k_is)
    (case r_c_LETTERS => exact ⟨_, rfl⟩)
    (case h_k_BeadError => k_is)
    (case h_k_BadWord => k_is)
    (case h_x_BadWord => k_exc)
    (case h_p_BadWord => k_is)
    (case h_s_BadWord => k_is)
    (case h_y_BadWord => k_is)
    (case g_is_word => k_is)
    (case l_is_word => k_is)
    (case d_is_word => k_is)
    (case p_is_word => k_is)
    (case g_need_word => k_is)
    (case l_need_word => k_is)
    (case d_need_word => k_is)
    (case p_need_word => k_is)
    (case g_parts_of => k_is)
    (case l_parts_of => k_is)
    (case d_parts_of => k_is)
    (case p_parts_of => k_is)
    (case g__law_mixed => k_is)
    (case l__law_mixed => k_is)
    (case d__law_mixed => k_is)
    (case p__law_mixed => k_is)
    (case g__law_number => k_is)
    (case l__law_number => k_is)
    (case d__law_number => k_is)
    (case p__law_number => k_is)
    (case g__law_word => k_is)
    (case l__law_word => k_is)
    (case d__law_word => k_is)
    (case p__law_word => k_is)
    (case g__law_is_prime => k_is)
    (case l__law_is_prime => k_is)
    (case d__law_is_prime => k_is)
    (case p__law_is_prime => k_is)
    (case g__law_ways => k_is)
    (case l__law_ways => k_is)
    (case d__law_ways => k_is)
    (case p__law_ways => k_is)
    (case g__law_good => k_is)
    (case l__law_good => k_is)
    (case d__law_good => k_is)
    (case p__law_good => k_is)
    (case g_law => k_is)
    (case l_law => k_is)
    (case d_law => k_is)
    (case p_law => k_is)

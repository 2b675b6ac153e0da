import PyProof.Rows.All
import Wide.All
import OpenK.AllK
import Wide.FinOn
import HandS.ForMost
import HandS.ForExc
import HandS.Evl
import HandS.Codes
import HandS.IsInst
import HandS.ExcIs
import HandS.ExcValue
import HandS.Style
import HandS.StrMore
import HandS.Walk
import HandS.RevTup
import HandS.MapJoin
import PyProof.Rows.StrRev
import KE.RegKIsAll
import HandS.Gcd
import HandS.Replace
import HandS.SortInts
import HandS.SortOrd
import HandS.SortRule
import HandS.SetKeys
import HandS.WordsDict
import HandS.Set
import PyProof.Rows.SortShellAny
import PySem.Challenge.RW_beadrings_k11_refused
set_option Elab.async false
set_option linter.all false
set_option maxRecDepth 100000
set_option maxHeartbeats 2000000
set_option Elab.async false
set_option linter.all false
set_option maxRecDepth 100000
set_option maxHeartbeats 2000000
namespace Br
open PySem PySem.Spec PyProof.Rows L2 Evl SX

/-! ### a def of the text, and what it keeps -/
def Src (K : PySem.W.Frag) (mg : Str → Option Value) (x : Str) (st : Stmt) (ps : List Str) : Prop :=
  ∃ (f : Addr) (fd : FuncData), mg x = some (.ref f) ∧ Fun K x x st f fd ∧ Binds K fd ps []
def Has (P : Program) (w : World) (K : PySem.W.Frag) (mg : Str → Option Value) (base : Heap) (C : CXT) (k : Nat) (x : Str) (ps : List Str) (sp : Sp) : Prop :=
  ∃ (f : Addr) (fd : FuncData), mg x = some (.ref f) ∧ PySem.W.keepIn K (.ref f) = true ∧ Binds K fd ps [] ∧ FnOk P w K mg base C k f fd ps sp
section
variable {X : Cx} {C : CXT} {k : Nat} {ps : List Str} {sp : Sp} {E : XK} {x : Str} {p pos : Pos} {e : Expr} {es : List Expr} {t : TA}
theorem pe_has (D : Has X.prog X.w X.K X.mg X.base C k x ps sp) (hr : Room k X.A) (hg : Gl X x) (hx : Passes C X E) (ha : PA X (e :: es) t)
    (hdb : (x == ("__debug__" : Str)) = false := by decide) (he : starEach (e :: es) X.env = (false, eval e X.env) :: starEach es X.env := by rfl) (hpl : (backTo pos (starEach es X.env)).any (·.1) = false := by rfl) :
    PE X (.Call (.Name x p) (e :: es) [] pos) (tCall sp [] E t) := by
  obtain ⟨f, fd, gm, kp, b, F⟩ := D
  exact pe_call F hr hg gm kp b .nil hx ha hdb he hpl
theorem pe_hasS {E : L2.St → XK} (D : Has X.prog X.w X.K X.mg X.base C k x ps sp) (hr : Room k X.A) (hg : Gl X x) (hx : ∀ σ, PassesAt C X σ (E σ)) (ha : PA X (e :: es) t)
    (hdb : (x == ("__debug__" : Str)) = false := by decide) (he : starEach (e :: es) X.env = (false, eval e X.env) :: starEach es X.env := by rfl) (hpl : (backTo pos (starEach es X.env)).any (·.1) = false := by rfl) :
    PE X (.Call (.Name x p) (e :: es) [] pos) (tCallS sp E t) := by
  obtain ⟨f, fd, gm, kp, b, F⟩ := D
  exact pe_callS F hr hg gm kp b hx ha hdb he hpl
end

/-! ### texts as lists of signs -/
theorem flat_fold : ∀ (n : Nat) (l : List Nat) (acc : Array Nat), ((List.replicate n l.toArray).foldl (fun a b => a ++ b) acc).toList = acc.toList ++ (List.replicate n l).flatten
  | 0, l, acc => by simp
  | n + 1, l, acc => by
    rw [List.replicate_succ, List.replicate_succ, List.foldl_cons, flat_fold n l (acc ++ l.toArray)]
    simp
theorem mul_S {l : List Nat} {n : Nat} : Txt.mul (S l) (n : Int) = S (List.replicate n l).flatten := by
  unfold Txt.mul
  cases n with
  | zero =>
    rw [if_pos (by decide)]
    rfl
  | succ m =>
    rw [if_neg (by omega)]
    by_cases c : (((m + 1 : Nat) : Int) == 1 || (S l).length == 0) = true
    · rw [if_pos c]
      rcases Bool.or_eq_true _ _ ▸ c with c | c
      · have e : m = 0 := by
          have := eq_of_beq c
          omega
        subst e
        simp
      · have e : l = [] := by
          have := eq_of_beq c
          rw [S_len] at this
          exact List.length_eq_zero_iff.mp this
        subst e
        simp
    · rw [if_neg c]
      refine TL.ext_tl ?_
      show ((List.replicate ((m + 1 : Nat) : Int).toNat l.toArray).foldl (fun a b => a ++ b) #[]).toList = _
      rw [Int.toNat_natCast, flat_fold]
      rfl
/-- a text times a number -/
def rMulS : R2 := fun x y H Q => ∃ (l : List Nat) (n : Nat), x = .str (S l) ∧ y = .int (n : Int) ∧ n ≤ 1000 ∧ l.length ≤ 1000 ∧ Q (.str (S (List.replicate n l).flatten)) H
theorem op_mulS {X : Cx} : OpR X (binaryOp .Mult) rMulS := by
  intro pins s σ H x y v u Q I rx ry h
  obtain ⟨l, n, rfl, rfl, h1, h2, q⟩ := h
  obtain ⟨t, rfl⟩ := rx
  obtain ⟨t', rfl⟩ := ry
  have hl : (S l).length = l.length := S_len l
  have hp : l.length * n ≤ 1000 * 1000 := Nat.mul_le_mul h2 h1
  refine SB.mul ⟨?_, fun a _ => ?_, fun a _ => ?_⟩ fun t2 k => ⟨.str (S (List.replicate n l).flatten), H, I.tok _, ⟨t2, by rw [mul_S]⟩, q⟩
  · rw [decide_eq_false (by omega : ¬ (n : Int) < -(2 ^ 63 : Int)), decide_eq_false (by omega : ¬ (n : Int) ≥ 2 ^ 63)]
    rfl
  · rw [hl]
    have : (1000 : Int) ≤ (2 ^ 63 - 1) / (n : Int) := (Int.le_ediv_iff_mul_le (by omega)).mpr (by omega)
    omega
  · rw [hl, Int.toNat_natCast]
    unfold Builtin.Str.tooLong
    rw [sizeLine_eq]
    exact decide_eq_false (by omega)

/-- z[::-1] -/
def tRevS (te : TE) : TE := fun σ H Q => te σ H fun x H1 => ∃ l : List Nat, x = .str (S l) ∧ l.length ≤ 100000 ∧ Q (.str (S l.reverse)) H1
theorem rev_get (l : List Nat) : (List.range l.length).map (fun k => l.toArray.getD (l.length - 1 - k) 0) = l.reverse := by
  refine List.ext_getElem (by simp) fun i h1 h2 => ?_
  simp at h1 h2
  have h3 : l.length - 1 - i < l.length := by omega
  simp [h3]
theorem picked_S (l : List Nat) : (⟨((Builtin.Str.strSliceIndices none none (-1) (S l).length).filterMap ((S l).cps[·]?)).toArray⟩ : Str) = S l.reverse := by
  refine TL.ext_tl ?_
  show ((Builtin.Str.strSliceIndices none none (-1) (S l).length).filterMap (l.toArray[·]?)) = l.reverse
  rw [S_len, PyProof.Rows.picked_rev, PyProof.Rows.filterMap_get, List.map_map]
  · exact rev_get l
  · intro i hi
    obtain ⟨k, hk, rfl⟩ := List.mem_map.mp hi
    have := List.mem_range.mp hk
    show l.length - 1 - k < l.toArray.size
    rw [List.size_toArray]
    omega
theorem pe_revS {X : Cx} {e : Expr} {te : TE} {k : Nat} {p1 p2 p3 pos : Pos} (he : PE X e te) : PE X (.Subscript e (.Slice none none (some (.UnaryOp .USub (.Constant (.int 1) k p1) p2)) p3) pos) (tRevS te) := by
  constructor
  intro pins s σ H Q I h
  refine Subscript_ (thn (he.run pins s σ H _ I h) ?_)
  rintro v s1 ⟨x, H1, I1, r1, l, rfl, hl, q⟩
  obtain ⟨t, rfl⟩ := r1
  have hst : PO X (some (.UnaryOp .USub (.Constant (.int 1) k p1) p2)) (tPart (tUn (rU fun i => .int (-i)) (tC (.int 1)))) := po_some (pe_un un_neg pe_int)
  refine wpAny_Slice (thn (po_none.run pins s1 σ H1 (fun o G => o = none ∧ G = H1) I1 ⟨rfl, rfl⟩) ?_)
  rintro vl s2 ⟨_, _, I2, pl, rfl, rfl⟩
  refine thn (po_none.run pins s2 σ _ (fun o G => o = none ∧ G = _) I2 ⟨rfl, rfl⟩) ?_
  rintro vu s3 ⟨_, _, I3, pu, rfl, rfl⟩
  refine thn (hst.run pins s3 σ _ (fun o G => o = some (-1) ∧ G = _) I3 ⟨1, rfl, -1, rfl, rfl, rfl⟩) ?_
  rintro vs s4 ⟨_, _, I4, pz, rfl, rfl⟩
  obtain ⟨a1, rfl, e1⟩ := IsPart.raw pl
  obtain ⟨a2, rfl, e2⟩ := IsPart.raw pu
  obtain ⟨a3, rfl, e3⟩ := IsPart.raw pz
  have I5 : Inv X pins σ _ { s4 with heap := s4.heap.push { cls := .type "slice", data := .fields #[partValue a1, partValue a2, partValue a3] } } := I4.kept (t' := s4.toks) fun b ob z => Heap.get?_push_of_some _ z
  refine tail_any (ops := [.str (S l) t, .ref s4.heap.objs.size]) (typeIs_str _ _ _) (F.slot_str_getitem.lookup) ?_ (by with_unfolding_all rfl)
  refine wpAny_getItem_str_slice (l := a1) (u := a2) (st := a3) ⟨_, Heap.get?_push_size _ rfl, rfl, rfl⟩ (by rw [e3]; rfl) ?_
  unfold sliceMade slicePicked
  rw [e1, e2, e3]
  rw [if_neg (by simp)]
  show Made.post (Made.str ⟨((Builtin.Str.strSliceIndices none none (-1) (S l).length).filterMap ((S l).cps[·]?)).toArray⟩) _ _
  rw [picked_S]
  exact ⟨by rw [S_len, List.length_reverse, sizeLine_eq]; omega, .str _, _, I5.tok _, ⟨_, rfl⟩, q⟩

/-! ### repr of plain values -/
def reprV : V → Str
  | .non => "None"
  | .bl b => if b then "True" else "False"
  | .int i => toString i
  | .str z => reprText z
  | _ => ""
def plainR : V → Prop
  | .non => True
  | .bl _ => True
  | .int i => i.natAbs.log2 < 1920
  | .str z => (reprText z).length ≤ sizeLine
  | _ => False
def rRepr : List V → Hp → VK → Prop := fun xs H Q => ∃ v, xs = [v] ∧ plainR v ∧ Q (.str (reprV v)) H
theorem call_repr {X : Cx} : CallR X (.builtin "repr") rRepr := by
  intro pins s σ H xs us Q I r h
  obtain ⟨v, rfl, hv, q⟩ := h
  obtain ⟨u, rfl, ru⟩ := vals1 r
  cases v with
  | non =>
    cases ru
    exact PySem.P.repr_of_none ⟨.str _, H, I.tok _, ⟨_, rfl⟩, q⟩
  | bl b =>
    cases ru
    exact PySem.P.repr_of_bool ⟨.str _, H, I.tok _, ⟨_, rfl⟩, q⟩
  | int i =>
    obtain ⟨t, rfl⟩ := ru
    exact PySem.P.repr_of_int hv ⟨.str _, H, I.tok _, ⟨_, rfl⟩, q⟩
  | str z =>
    obtain ⟨t, rfl⟩ := ru
    exact PySem.P.repr_of_str ⟨.str _, H, I.tok _, ⟨_, rfl⟩, q⟩ hv
  | byt _ => exact hv.elim
  | flt _ => exact hv.elim
  | ref _ => exact hv.elim
  | ty _ => exact hv.elim

/-! ### the least of a list of texts -/
theorem best_lt (val : Nat → List Nat) : ∀ n, argBest (fun i j => decide (val i < val j)) n ≤ n ∧ ∀ j, j ≤ n → ¬ val j < val (argBest (fun i j => decide (val i < val j)) n)
  | 0 => ⟨Nat.le_refl _, fun j hj => by
    have e : j = 0 := by omega
    subst e
    exact List.lt_irrefl _⟩
  | n + 1 => by
    obtain ⟨h1, h2⟩ := best_lt val n
    unfold argBest
    by_cases c : val (n + 1) < val (argBest (fun i j => decide (val i < val j)) n)
    · rw [if_pos (decide_eq_true c)]
      refine ⟨Nat.le_refl _, fun j hj => ?_⟩
      by_cases hn : j ≤ n
      · exact fun z => h2 j hn (List.lt_trans z c)
      · have e : j = n + 1 := by omega
        subst e
        exact List.lt_irrefl _
    · rw [if_neg (by rw [decide_eq_false c]; decide)]
      refine ⟨by omega, fun j hj => ?_⟩
      by_cases hn : j ≤ n
      · exact h2 j hn
      · have e : j = n + 1 := by omega
        subst e
        exact c
def rMinS (K : PySem.W.Frag) : List V → Hp → VK → Prop := fun vs H Q => ∃ (a : Addr) (ys : List (List Nat)), vs = [.ref a] ∧ SqL K H a (ys.map fun l => V.str (S l)) ∧ ys ≠ [] ∧
  ∀ m, m ∈ ys → (∀ y ∈ ys, ¬ y < m) → Q (.str (S m)) H
theorem cr_minS {X : Cx} (hc : X.calm = true) : CallR X (.builtin "min") (rMinS X.K) := by
  intro pins s σ H vs us Q I r h
  obtain ⟨a, ys, rfl, hs, hne, q⟩ := h
  obtain ⟨its, rv, hl, _⟩ := I.list hs
  rw [Vals.ref1 r]
  have hlen : its.length = ys.length := by rw [← rv.length, List.length_map]
  have hpos : 0 < ys.length := List.length_pos_iff.mpr hne
  have hlI := hl.isList
  have hlt : a < s.heap.objs.size := by
    obtain ⟨_, e, _⟩ := hlI
    exact Heap.lt_size e
  have at_ : ∀ (i : Nat) (v : Value), its.toArray[i]? = some v → ∃ t, v = .str (S (ys.getD i [])) t := by
    intro i v hv
    have hv' : its[i]? = some v := by simpa using hv
    have hi : i < ys.length := by
      rw [← hlen]
      exact (List.getElem?_eq_some_iff.mp hv').1
    obtain ⟨u, e1, e2⟩ := rv.get (i := i) (x := .str (S ys[i])) (by simp [hi])
    rw [hv'] at e1
    cases e1
    obtain ⟨t, rfl⟩ := e2
    exact ⟨t, by simp [hi]⟩
  refine call_min_walk (wpAny_pyIter_list hlI ?_)
  refine ⟨_, _, _, _, _, _, (fun i j => decide (ys.getD i [] < ys.getD j [])), rfl, Walks.list (A := X.A.in1) (I.ok.hd hc) s.heap.objs.size a (Nat.ne_of_lt hlt) its.toArray, ⟨⟨_, Heap.get?_push_size _ rfl, rfl, rfl⟩, hlI.push _⟩, ?_, by simpa [hlen] using hpos, ?_, ?_⟩
  · intro b hb
    show b < (s.heap.push _).objs.size
    rw [Heap.size_push]
    rcases List.mem_cons.mp hb with rfl | hb
    · exact Nat.lt_succ_self _
    · rcases List.mem_cons.mp hb with rfl | hb
      · exact Nat.lt_succ_of_lt hlt
      · cases hb
  · intro i j vi vj s2 Q2 E2 hi hj hq
    obtain ⟨t, rfl⟩ := at_ i vi hi
    obtain ⟨u, rfl⟩ := at_ j vj hj
    exact richCompare_gives (op := .Lt) (typeIs_str s2 _ t) (typeIs_str s2 _ u) F.slot_str_lt F.entry_str_lt (F.args_str_lt_2 _ _) (gives_str_lt _ _ t u) (fun x => nomatch x) hq
  · intro v h' tk hv hk
    obtain ⟨b1, b2⟩ := best_lt (fun i => ys.getD i []) (its.toArray.size - 1)
    have hsz : its.toArray.size = ys.length := by rw [List.size_toArray, hlen]
    obtain ⟨t, rfl⟩ := at_ _ v hv
    refine ⟨.str _, H, I.kept (t' := tk) fun b o e => hk b o (fun z => ?_) (Heap.get?_push_of_some _ e), ⟨t, rfl⟩, q _ ?_ fun y hy => ?_⟩
    · have z' : b = s.heap.objs.size := by simpa using z
      subst z'
      exact absurd (Heap.lt_size e) (Nat.lt_irrefl _)
    · have : argBest (fun i j => decide (ys.getD i [] < ys.getD j [])) (its.toArray.size - 1) < ys.length := by omega
      rw [List.getD_eq_getElem?_getD, List.getElem?_eq_getElem this]
      exact List.getElem_mem _
    · obtain ⟨j, hj, rfl⟩ := List.mem_iff_getElem.mp hy
      have e := b2 j (by omega)
      rw [List.getD_eq_getElem?_getD, List.getElem?_eq_getElem hj] at e
      exact e
end Br
namespace Br
open PySem PySem.Spec PyProof.Rows L2 Evl SX

/-! ### an exception that was caught and is held by a name behind the suite -/
def exH (cls : Value) (d : Option Addr) (a : Addr) : HO := .ext fun h => ∃ (oe : Obj) (vs : Array Value), h.get? a = some oe ∧ Zc cls d oe ∧ oe.data = .fields vs
section
variable {X : Cx} {pins : List (Addr × Obj)} {σ : L2.St} {H : Hp} {s : Shared}
/-- an object that nobody tracked, younger than the entry, is tracked from now on -/
theorem track_one {a : Addr} {o : HO} (I : Inv X pins σ H s) (na : H a = none) (young : X.s_0.heap.get? a = none) (nL : a ≠ X.env.locals) (np : ∀ p ∈ X.pn ++ pins, p.1 ≠ a) (nc : ∀ v, ¬ s.heap.IsCell a v)
    (new : ObjOk X.prog X.w (upd H a o) s.heap a o) : Inv X pins σ (upd H a o) s := by
  have far : ∀ b ob, X.s_0.heap.get? b = some ob → b ≠ a := fun b ob e z => by
    rw [z, young] at e
    cases e
  refine ⟨I.ok, I.os, I.bare, ⟨I.base.keep, I.base.slot, fun b ob e n hx => ?_, I.base.there, fun b xs e => ?_, fun b ob u e => ?_, fun b q e => ?_⟩, I.loc, I.cell, ?_, fun x c e => ?_, fun p hp => ?_, I.hok.laidN (fun _ _ z => z) na new, I.len⟩
  · rw [upd_ne (far b ob e)]
    exact I.base.free b ob e n hx
  · rw [upd_ne (ne_of_none (I.base.tups b xs e) na)]
    exact I.base.tups b xs e
  · rw [upd_ne (ne_of_none (I.base.frzs b ob u e) na)]
    exact I.base.frzs b ob u e
  · obtain ⟨m, z⟩ := I.base.tbls b q e
    exact ⟨m, by rw [upd_ne (ne_of_none z na)]; exact z⟩
  · rw [upd_ne (Ne.symm nL)]
    exact I.free
  · have hca : c ≠ a := fun z => by
      obtain ⟨v, hv⟩ := I.cell x c e
      rw [z] at hv
      exact nc v hv
    rw [upd_ne hca]
    exact I.freeC x c e
  · obtain ⟨e, n, r⟩ := I.pin p hp
    exact ⟨e, by rw [upd_ne (np p hp)]; exact n, r⟩
end

/-- what «except x as n: m = n» wishes of an exception of the body that it names: slot i is n's, slot j is m's -/
def wHeld (K : PySem.W.Frag) (c : Value) (i j : Nat) (D : Ends) : WX := fun cls d σ H =>
  PySem.W.exmOne K cls c = some true ∧ ∀ a, H a = none → D.nx (((σ.set i (some (.ref a))).set j (some (.ref a))).set i none) (upd H a (exH cls d a))
section
variable {X : Cx} {x n m : Str} {c : Value} {i j : Nat} {body : List Stmt} {np mp p2 p3 pos pos' : Pos} {tb : WX → TS}
theorem ps_try_held (stk : X.stack = X.env :: X.outer) (frm : X.env.frame = some X.env.locals) (hex : X.ex = []) (hN : X.N.Nodup) (hi : X.N[i]? = some n) (hj : X.N[j]? = some m) (hln : X.env.kindOf n = some .local) (hlm : X.env.kindOf m = some .local) (hij : i < X.N.length)
    (nam : Names X x c)
    (hb : ∀ (W : WX) (q : List (Addr × Obj)) (xe : Value → Shared → Prop), Takes (X.tr q xe) W → PassesOwn (model X.prog X.w) X.A X.env xe → PSs (X.tr q xe) body (tb W)) (hd : (n == ("__debug__" : Str)) = false := by decide) (hcd : (n == ("__classdict__" : Str)) = false := by decide) :
    PS X (.Try body [.ExceptHandler (some (.Name x np)) (some n) [.Assign [.Name m mp] (.Name n p2) p3] pos'] [] [] pos) (fun D σ H => tb (wHeld X.K c i j D) D σ H) := by
  constructor
  intro pins s σ H D I h
  have good := I.ok
  have around : X.A.frames = some (X.env :: X.outer) := good.frames.trans (congrArg some stk)
  have here : Loc X.env.scope n := Or.inl hln
  refine wpAny_Try_except ?_
  let clause : List ExceptHandler := [.ExceptHandler (some (.Name x np)) (some n) [.Assign [.Name m mp] (.Name n p2) p3] pos']
  let air : Value → Shared → Prop := fun e s₁ => wpAny (model X.prog X.w) X.A (noteFrame e X.env) (fun _ s₂ => wpAny (model X.prog X.w) X.A (setFlight e none) (fun _ s₃ => wpAny (model X.prog X.w) X.A (handleBy e X.env clause) (SP X pins D) X.xe s₃) X.xe s₂) X.xe s₁
  have caught : Takes (X.tr (X.pn ++ pins) air) (wHeld X.K c i j D) := by
    rintro u s' ⟨a, B, sI, pins', σ', H', cls, d, rfl, J0, nb, up, sky, na, os, ag, hit, go⟩
    have J : Inv X pins σ' H' sI := J0.ofTry good
    have sky1 : Sky B (X.env :: X.outer) a (Zc cls d) X.env.locals s'.heap := by
      rw [← stk]
      exact sky
    show wpAny (model X.prog X.w) X.A (noteFrame (.ref a) X.env) _ _ _
    refine Sky.land Zc.steady around frm sky1 fun h3 fl3 up3 => ?_
    have J3 : Inv X pins σ' H' { s' with heap := h3 } := J.landed nb fl3.1 (up.trans up3) os ag
    obtain ⟨o3, v3, g3, z3, d3⟩ := fl3.there
    have off : a ∉ frs (X.env :: X.outer) := fun hm => by
      obtain ⟨_, o', e', hnf⟩ := fl3.2.2.1.mem hm
      rw [g3] at e'
      cases e'
      exact hnf _ d3
    have nL : a ≠ X.env.locals := fun z => off (List.mem_filterMap.mpr ⟨X.env, List.mem_cons_self, by rw [frm, z]⟩)
    have nF : a ∉ X.fs := fun hm => by
      obtain ⟨en, hen, q⟩ := List.mem_filterMap.mp hm
      exact off (List.mem_filterMap.mpr ⟨en, List.mem_cons_of_mem _ hen, q⟩)
    -- nothing stood there before
    have noI : sI.heap.get? a = none := by
      cases e : sI.heap.get? a with
      | none => rfl
      | some o =>
        have z := nb a o e (by rw [stk]; exact off)
        rw [fl3.2.1] at z
        cases z
    have young : X.s_0.heap.get? a = none := by
      cases e : X.s_0.heap.get? a with
      | none => rfl
      | some o =>
        obtain ⟨o', z⟩ := J.base.there a o e (by rw [hex]; exact fun q => nomatch q)
        rw [noI] at z
        cases z
    have pinsOff : ∀ p ∈ X.pn ++ pins, p.1 ≠ a := fun p hp z => by
      have q := (J.pin p hp).1
      rw [z, noI] at q
      cases q
    have S3 := J3.suite g3 d3 na nL nF
    refine wpAny_handleBy_cons (codeAny_handlers_test ?_) (by intro q; cases q)
    have tells : PySem.W.Looks (model X.prog X.w) h3 (typeOf (.ref a)) cls := fun A Q E s k q => wpAny_typeOf_ref (k _ _ g3) (by rw [z3.1]; exact q)
    have named := PySem.W.exm_one (M := model X.prog X.w) J3.kIn tells hit
    have look : ∀ {Q : Value → Shared → Prop} {E : Value → Shared → Prop}, Q c { s' with heap := h3 } → wpAny (model X.prog X.w) (X.A.mark (some (.ref a))) (eval (.Name x np) X.env) Q E { s' with heap := h3 } := fun {Q E} q => by
      obtain ⟨hg, hdbg, hm | ⟨hm, hv, hnn⟩⟩ := nam
      · exact ld_glob (X := X.suite a ((a, o3) :: (X.pn ++ pins))) S3 hg hm q hdbg
      · exact ld_blt (X := X.suite a ((a, o3) :: (X.pn ++ pins))) S3 hg hm hv q hnn hdbg
    refine look (named.here ?_)
    refine codeAny_handlers_suite_as ?_
    refine HandSPX.lands_againZ fl3 fun h4 fl4 up4 => ?_
    have J4 : Inv X pins σ' H' { s' with heap := h4 } := J.landed nb fl4.1 ((up.trans up3).trans up4) os ag
    obtain ⟨o4, v4, g4, z4, d4⟩ := fl4.there
    have S4 := J4.suite g4 d4 na nL nF
    refine store_ok (X := X.suite a ((a, o4) :: (X.pn ++ pins))) (v := .ref a) S4 hN hi here rfl (fun s5 S5 => ?_) (.inr hln)
    have one : PSs (X.suite a ((a, o4) :: (X.pn ++ pins))) [.Assign [.Name m mp] (.Name n p2) p3] (tAsg (tVar i) (gName j)) :=
      pss_one (ps_set (X := X.suite a ((a, o4) :: (X.pn ++ pins))) (i := j) hN hj (Or.inl hlm) (pe_var (i := i) hi (Or.inl hln) hd hcd) (by rfl) (Or.inr hlm))
    have hσ : (σ'.set i (some (V.ref a)))[i]? = some (some (V.ref a)) := by
      have : i < σ'.length := by
        rw [J.len]
        exact hij
      simp [this]
    refine wpAny_mono (one.run [] s5 _ H' { D with nx := fun σ6 H6 => σ6 = (σ'.set i (some (.ref a))).set j (some (.ref a)) ∧ H6 = H', rt := fun _ _ => False, bk := fun _ _ => False, ct := fun _ _ => False } S5 ⟨.ref a, hσ, rfl, rfl⟩) (fun f s6 hsp => ?_) (fun _ _ z => False.elim z)
    cases f with
    | next =>
      obtain ⟨σ6, H6, S6, rfl, rfl⟩ := hsp
      have g6 : s6.heap.get? a = some o4 := (S6.pin (a, o4) (List.mem_append_left _ List.mem_cons_self)).1
      have J6 : Inv X pins _ H6 s6 := S6.unsuite good
      have noCell : ∀ v, ¬ s6.heap.IsCell a v := fun v hv => by
        obtain ⟨oc, e1, e2⟩ := hv
        rw [g6] at e1
        cases e1
        rw [d4] at e2
        cases e2
      have ob : ObjOk X.prog X.w (upd H6 a (exH cls d a)) s6.heap a (exH cls d a) := ⟨⟨o4, v4, g6, z4, d4⟩, ⟨o4, g6⟩, fun _ _ ⟨o, w, q, r⟩ k => ⟨o, w, k o q, r⟩⟩
      have J7 := track_one J6 na young nL pinsOff noCell ob
      exact gone_ok J7 hN hi hln fun s7 J8 => ⟨_, _, J8, go a na⟩
    | brk =>
      obtain ⟨_, _, _, z⟩ := hsp
      exact z.elim
    | cont =>
      obtain ⟨_, _, _, z⟩ := hsp
      exact z.elim
    | ret u =>
      obtain ⟨_, _, _, _, _, z⟩ := hsp
      exact z.elim
  refine wpAny_mono ((hb (wHeld X.K c i j D) (X.pn ++ pins) air caught PassesOwn.looking).run [] s σ H D (I.toTry _) h) (fun f s1 hsp => ?_) (fun e s1 he => he)
  cases f with
  | next =>
    obtain ⟨σ', H', J', q⟩ := hsp
    exact wpAny_execs_nil ⟨σ', H', J'.ofTry good, q⟩
  | brk =>
    obtain ⟨σ', H', J', q⟩ := hsp
    exact ⟨σ', H', J'.ofTry good, q⟩
  | cont =>
    obtain ⟨σ', H', J', q⟩ := hsp
    exact ⟨σ', H', J'.ofTry good, q⟩
  | ret u =>
    obtain ⟨v, σ', H', J', r, q⟩ := hsp
    exact ⟨v, σ', H', J'.ofTry good, r, q⟩
end

/-- isinstance(e, c), e an exception that is held -/
def rIsX (K : PySem.W.Frag) (D : Addr) : List V → Hp → VK → Prop := fun xs H Q => ∃ (a : Addr) (c : V) (u : Value) (b : Bool), xs = [.ref a, c] ∧ H a = some (exH (.ref D) none a) ∧ ClsV c u ∧ PySem.W.kitOne K (.ref D) u = some b ∧ Q (.bl b) H
theorem call_isX {X : Cx} {D : Addr} (C : ExcC X.K D) : CallR X (.builtin "isinstance") (rIsX X.K D) := by
  intro pins s σ H xs us Q I r h
  obtain ⟨a, c, u, b, rfl, ha, hc, e, q⟩ := h
  obtain ⟨u1, u2, rfl, r1, r2⟩ := vals2 r
  have e2 := hc.eq r2
  subst e2
  cases r1
  obtain ⟨⟨oe, vs, g, z, dv⟩, _, _⟩ := I.hok a _ ha
  have J : PySem.W.InstAt s.heap a oe D none := by
    obtain ⟨oc, od, oda, osl⟩ := oe
    obtain ⟨h1, h2⟩ := z
    dsimp only at h1 h2 dv
    subst h1 h2 dv
    exact ⟨g, rfl, rfl, trivial⟩
  exact PySem.W.kia_one (PySem.W.handS_kitx_exc C.hg C.hk C.hs C.hd C.ha C.hn C.ht C.hm) I.kIn J e (fun z => nomatch z) fun tk => ⟨.bl b, H, I.tok tk, rfl, q⟩
end Br
namespace Br
open PySem PySem.Spec PyProof.Rows L2 Evl SX

/-! ### evaluation: texts, calls, kinds of things -/
section
variable {K : PySem.W.Frag} {σ : L2.St} {H H' : Hp} {ta tb tc te : TE} {tl th : TO} {x y z v : V} {r r' : R2}
theorem tl_S (l : List Nat) : (S l).cps.toList = l := rfl
theorem sz_txt {l : List Nat} (h : l.length ≤ 100000) : (S l).length ≤ sizeLine := by
  rw [S_len]
  exact sz_of h
/-- a module's constant -/
theorem pe_globC {X : Cx} {x : Str} {v : V} {pos : Pos} (hg : Gl X x) (h : ∃ u, X.mg x = some u ∧ RelV v u) (hd : (x == ("__debug__" : Str)) = false := by decide) : PE X (.Name x pos) (tC v) := by
  obtain ⟨u, hm, hv⟩ := h
  exact pe_glob hg hm hv hd
theorem ev_cS {z : Str} {l : List Nat} (e : z = S l) : Ev (tC (.str z)) σ H (.str (S l)) := by
  rw [e]
  exact ev_c
/-- isinstance, the written part named -/
theorem call_isiK' {X : Cx} {K : PySem.W.Frag} (h : X.K = K) : CallR X (.builtin "isinstance") (rIsi K) := by
  rw [← h]
  exact call_isi
def rCatS : R2 := fun x y H Q => ∃ i j, x = .str i ∧ y = .str j ∧ i.length + j.length ≤ sizeLine ∧ Q (.str (i ++ j)) H
theorem rv_catS {a b : List Nat} (h : a.length + b.length ≤ 100000) : RV rCatS (.str (S a)) (.str (S b)) H (.str (S (a ++ b))) := fun H1 _ Q q =>
  ⟨S a, S b, rfl, rfl, by rw [S_len, S_len]; exact sz_of h, by rw [S_cat]; exact q H1 (Ex.refl H1)⟩
theorem rv_mulS {l : List Nat} {n : Nat} {i : Int} (e : i = (n : Int)) (h1 : n ≤ 1000) (h2 : l.length ≤ 1000) : RV rMulS (.str (S l)) (.int i) H (.str (S (List.replicate n l).flatten)) := fun H1 _ Q q =>
  ⟨l, n, rfl, by rw [e], h1, h2, q H1 (Ex.refl H1)⟩
def rLtS : R2 := fun x y H Q => ∃ i j, x = .str i ∧ y = .str j ∧ Q (.bl (decide (i.cps.toList < j.cps.toList))) H
theorem rv_ltS {a b : List Nat} : RV rLtS (.str (S a)) (.str (S b)) H (.bl (decide (a < b))) := fun H1 _ _ q => ⟨S a, S b, rfl, rfl, q H1 (Ex.refl H1)⟩
def rLeS : R2 := fun x y H Q => ∃ i j, x = .str i ∧ y = .str j ∧ Q (.bl (!decide (j.cps.toList < i.cps.toList))) H
theorem rv_leS {a b : List Nat} : RV rLeS (.str (S a)) (.str (S b)) H (.bl (!decide (b < a))) := fun H1 _ _ q => ⟨S a, S b, rfl, rfl, q H1 (Ex.refl H1)⟩
theorem str_dec {a b : List Nat} : decide (V.str (S a) = V.str (S b)) = decide (a = b) := by
  by_cases e : a = b
  · rw [e, decide_eq_true rfl, decide_eq_true rfl]
  · rw [decide_eq_false e, decide_eq_false fun q => e (S_inj (V.str.inj q))]
theorem int_dec {a b : Int} : decide (V.int a = V.int b) = decide (a = b) := by
  by_cases e : a = b
  · rw [e, decide_eq_true rfl, decide_eq_true rfl]
  · rw [decide_eq_false e, decide_eq_false fun q => e (V.int.inj q)]
theorem rv_eqS {a b : List Nat} : RV rEq (.str (S a)) (.str (S b)) H (.bl (decide (a = b))) := by
  rw [← str_dec]
  exact rv_eq rfl
theorem rv_neS {a b : List Nat} : RV rNe (.str (S a)) (.str (S b)) H (.bl (!decide (a = b))) := by
  rw [← str_dec]
  exact rv_ne rfl
theorem rv_eqI {a b : Int} : RV rEq (.int a) (.int b) H (.bl (decide (a = b))) := by
  rw [← int_dec]
  exact rv_eq rfl
theorem rv_neI {a b : Int} : RV rNe (.int a) (.int b) H (.bl (!decide (a = b))) := by
  rw [← int_dec]
  exact rv_ne rfl
def rInSg : R2 := fun x y H Q => ∃ (c : Nat) (z : Str), x = .str ⟨#[c]⟩ ∧ y = .str z ∧ Q (.bl (decide (c ∈ z.cps.toList))) H
theorem rv_inSg {c : Nat} {z : Str} : RV rInSg (.str ⟨#[c]⟩) (.str z) H (.bl (decide (c ∈ z.cps.toList))) := fun H1 _ _ q => ⟨c, z, rfl, rfl, q H1 (Ex.refl H1)⟩
theorem rv_ixW {l : List Nat} {i : Int} {c : Nat} (h : l.length ≤ 100000) (ha : atI l i = some c) : RV rIxS (.str (S l)) (.int i) H (.str (S [c])) := rv_ixS (w := S l) (by rw [S_len]; exact h) ha
theorem atI_get {α : Type} {l : List α} {i : Int} (h0 : 0 ≤ i) (h1 : i < l.length) : atI l i = some (l[i.toNat]'(by omega)) := by
  unfold atI ixN
  rw [if_pos h0, if_pos h1]
  show l[i.toNat]? = _
  rw [List.getElem?_eq_getElem]
/-! slices of texts -/
theorem cut_from {l : List Nat} {i : Int} (h : 0 ≤ i) : cutS (S l) (some i) none = S (l.drop i.toNat) := by
  obtain ⟨n, rfl⟩ : ∃ n : Nat, i = n := ⟨i.toNat, by omega⟩
  unfold cutS
  rw [HT.sIx_nat, HT.sIx_none, S_len, Int.toNat_natCast, tl_S]
  refine congrArg S ?_
  by_cases hn : n ≤ l.length
  · rw [Nat.min_eq_left hn, List.take_of_length_le (by rw [List.length_drop]; omega)]
  · rw [Nat.min_eq_right (by omega), List.drop_of_length_le (Nat.le_refl _), List.drop_of_length_le (by omega)]
    simp
theorem cut_to {l : List Nat} {i : Int} (h : 0 ≤ i) : cutS (S l) none (some i) = S (l.take i.toNat) := by
  obtain ⟨n, rfl⟩ : ∃ n : Nat, i = n := ⟨i.toNat, by omega⟩
  unfold cutS
  rw [HT.sIx_nat, HT.sIx_none, S_len, Int.toNat_natCast, tl_S]
  refine congrArg S ?_
  rw [List.drop_zero, Nat.sub_zero]
  by_cases hn : n ≤ l.length
  · rw [Nat.min_eq_left hn]
  · rw [Nat.min_eq_right (by omega), List.take_of_length_le (Nat.le_refl _), List.take_of_length_le (by omega)]
theorem cut_mid {l : List Nat} {i j : Int} (h0 : 0 ≤ i) (hj : i ≤ j) (hl : j ≤ l.length) : cutS (S l) (some i) (some j) = S ((l.drop i.toNat).take (j - i).toNat) := by
  obtain ⟨n, rfl⟩ : ∃ n : Nat, i = n := ⟨i.toNat, by omega⟩
  obtain ⟨m, rfl⟩ : ∃ m : Nat, j = m := ⟨j.toNat, by omega⟩
  unfold cutS
  rw [HT.sIx_nat, HT.sIx_nat, S_len, tl_S, Nat.min_eq_left (by omega), Nat.min_eq_left (by omega), Int.toNat_natCast]
  refine congrArg S ?_
  rw [show ((m : Int) - (n : Int)).toNat = m - n by omega]
theorem cut_neg {l : List Nat} : cutS (S l) none (some (-1)) = S (l.take (l.length - 1)) := by
  unfold cutS
  rw [HT.sIx_none, S_len, tl_S, List.drop_zero, Nat.sub_zero]
  refine congrArg S ?_
  show l.take (if (-1 : Int) < 0 then ((-1 : Int) + (l.length : Int)).toNat else min (-1 : Int).toNat l.length) = _
  rw [if_pos (by decide), show ((-1 : Int) + (l.length : Int)).toNat = l.length - 1 by omega]
theorem ev_cutS {l : List Nat} {lo hi : Option Int} {w : List Nat} (h : Ev te σ H (.str (S l))) (hl : l.length ≤ 100000) (h1 : EvO tl σ H lo) (h2 : EvO th σ H hi) (e : cutS (S l) lo hi = S w) : Ev (tSl rSlS te tl th) σ H (.str (S w)) := fun H1 a Q q =>
  h H1 a _ fun H2 e2 => h1 H2 (a.trans e2) _ fun H3 e3 => h2 H3 ((a.trans e2).trans e3) _ fun H4 e4 => ⟨S l, rfl, sz_txt hl, by rw [e]; exact q H4 ((e2.trans e3).trans e4)⟩
theorem ev_from {l : List Nat} {i : Int} (h : Ev te σ H (.str (S l))) (hl : l.length ≤ 100000) (h1 : Ev ta σ H (.int i)) (hi : 0 ≤ i) : Ev (tSl rSlS te (tPart ta) tNoPart) σ H (.str (S (l.drop i.toNat))) := ev_cutS h hl (eo_some h1) eo_none (cut_from hi)
theorem ev_to {l : List Nat} {i : Int} (h : Ev te σ H (.str (S l))) (hl : l.length ≤ 100000) (h1 : Ev ta σ H (.int i)) (hi : 0 ≤ i) : Ev (tSl rSlS te tNoPart (tPart ta)) σ H (.str (S (l.take i.toNat))) := ev_cutS h hl eo_none (eo_some h1) (cut_to hi)
theorem ev_mid {l : List Nat} {i j : Int} (h : Ev te σ H (.str (S l))) (hl : l.length ≤ 100000) (h1 : Ev ta σ H (.int i)) (h2 : Ev tb σ H (.int j)) (hi : 0 ≤ i) (hj : i ≤ j) (hb : j ≤ l.length) :
    Ev (tSl rSlS te (tPart ta) (tPart tb)) σ H (.str (S ((l.drop i.toNat).take (j - i).toNat))) := ev_cutS h hl (eo_some h1) (eo_some h2) (cut_mid hi hj hb)
theorem ev_revS {l : List Nat} (h : Ev te σ H (.str (S l))) (hl : l.length ≤ 100000) : Ev (tRevS te) σ H (.str (S l.reverse)) := fun H1 a _ q => h H1 a _ fun H2 e2 => ⟨l, rfl, hl, q H2 e2⟩
/-! len, repr, all, join -/
def rLenT : List V → Hp → VK → Prop := fun xs H Q => ∃ z, xs = [.str z] ∧ z.length ≤ sizeLine ∧ Q (.int z.length) H
theorem ev_lenS {l : List Nat} (h : Ev te σ H (.str (S l))) (hl : l.length ≤ 100000) : Ev (tCB rLenT (tCons te tNil)) σ H (.int (l.length : Int)) := ev_cb (ea_cons h ea_nil) fun H1 _ _ q =>
  ⟨S l, rfl, sz_txt hl, by rw [S_len]; exact q H1 (Ex.refl H1)⟩
theorem ev_repr (h : Ev te σ H v) (hv : plainR v) : Ev (tCB rRepr (tCons te tNil)) σ H (.str (reprV v)) := ev_cb (ea_cons h ea_nil) fun H1 _ _ q => ⟨v, rfl, hv, q H1 (Ex.refl H1)⟩
theorem ev_all {bs : List Bool} (h : EvL te σ H (bs.map V.bl)) : Ev (tCB (rAll K) (tCons te tNil)) σ H (.bl (bs.all id)) := fun H1 e _ q =>
  h H1 e _ fun p H2 _ e2 hp => ⟨p, bs, rfl, sq_of hp, q H2 e2⟩
theorem joinE : ∀ ys : List (List Nat), TL.joinL [] ys = ys.flatten
  | [] => rfl
  | [p] => by
    show p = [p].flatten
    simp
  | p :: q :: r => by
    show p ++ ([] ++ TL.joinL [] (q :: r)) = _
    rw [joinE (q :: r)]
    simp
def rJoin (K : PySem.W.Frag) : V → List V → Hp → VK → Prop := fun x xs H Q => ∃ a p, ∃ ys : List Str, x = .str a ∧ xs = [.ref p] ∧ (SqL K H p (ys.map V.str) ∨ SqT K H p (ys.map V.str)) ∧ (ys.map (·.length)).sum + ys.length * a.length ≤ 16777216 ∧ Q (.str (Txt.join a ys)) H
theorem ev_joinE {ys : List (List Nat)} (h0 : Ev ta σ H (.str (S []))) (h : EvL te σ H (ys.map fun l => V.str (S l))) (hl : (ys.map (·.length)).sum ≤ 100000) : Ev (tM1 (rJoin K) ta te) σ H (.str (S ys.flatten)) := fun H1 e _ q =>
  h0 H1 e _ fun H2 e2 => ⟨⟨_, rfl⟩, h H2 (e.trans e2) _ fun p H3 _ e3 hp => ⟨S [], p, ys.map S, rfl, rfl, .inl (sq_of (by rw [hp, List.map_map]; rfl)), by
    rw [lens]
    show _ + _ * 0 ≤ _
    omega, by
    rw [join_S, joinE]
    exact q H3 (e2.trans e3)⟩⟩
/-! two comparisons in one -/
theorem ev_chain {a b : Bool} (h1 : Ev ta σ H x) (h2 : Ev tb σ H y) (h3 : RV r x y H (.bl a)) (h4 : a = true → Ev tc σ H z) (h5 : a = true → RV r' y z H (.bl b)) : Ev (tChain r r' ta tb tc) σ H (.bl (a && b)) := fun H1 e Q q =>
  h1 H1 e _ fun H2 e2 => h2 H2 (e.trans e2) _ fun H3 e3 => h3 H3 ((e.trans e2).trans e3) _ fun H4 e4 => ⟨a, rfl, by
    have e0 := ((e.trans e2).trans e3).trans e4
    cases a with
    | false =>
      show Q (.bl false) H4
      exact q H4 ((e2.trans e3).trans e4)
    | true =>
      show tc σ H4 fun w' H5 => r' y w' H5 Q
      exact h4 rfl H4 e0 _ fun H5 e5 => h5 rfl H5 (e0.trans e5) Q fun H6 e6 => q H6 ((((e2.trans e3).trans e4).trans e5).trans e6)⟩
theorem et_chain {a b : Bool} (h1 : Ev ta σ H x) (h2 : Ev tb σ H y) (h3 : RV r x y H (.bl a)) (h4 : a = true → Ev tc σ H z) (h5 : a = true → RV r' y z H (.bl b)) : EvT (tTest (tChain r r' ta tb tc)) σ H (a && b) := et_test (ev_chain h1 h2 h3 h4 h5)
/-- a list from outside, measured or read -/
theorem rv_ixI {p : Addr} {ns : List Int} {i n : Int} (h : SqL K H p (ns.map V.int)) (ha : atI ns i = some n) : RV (rIxL K) (.ref p) (.int i) H (.int n) := by
  refine rv_ixL h ?_
  unfold atI at ha ⊢
  rw [List.length_map]
  cases e : ixN ns.length i with
  | none =>
    rw [e] at ha
    cases ha
  | some j =>
    rw [e] at ha
    have ha' : ns[j]? = some n := ha
    show (ns.map V.int)[j]? = _
    rw [List.getElem?_map, ha']
    rfl
theorem ev_lenI {p : Addr} {ns : List Int} (h : Ev ta σ H (.ref p)) (hs : SqL K H p (ns.map V.int)) : Ev (tCB (rLenS K) (tCons ta tNil)) σ H (.int (ns.length : Int)) := by
  have e := ev_len h hs
  rw [List.length_map] at e
  exact e
/-- an item of a list that is written on the way -/
theorem ev_pick {xs : List V} {i : Int} (ha : EvL ta σ H xs) (hb : Ev tb σ H (.int i)) (hv : atI xs i = some v) : Ev (tOp (rIxL K) ta tb) σ H v :=
  ev_opL1 ha (fun H1 e => hb.mono e) fun p H1 hp _ => rv_ixL (sq_of hp) hv
/-! the kind of a thing -/
theorem tyx_mono {t : Value} (e : Ex H H') (h : TyX K H x t) : TyX K H' x t := by
  cases h with
  | base b =>
    refine .base ?_
    cases b with
    | non => exact .non
    | bl y => exact .bl y
    | int i => exact .int i
    | str y => exact .str y
    | flt y => exact .flt y
    | lst ea => exact .lst (e _ _ ea)
    | frz ea => exact .frz (e _ _ ea)
    | tup ea => exact .tup (e _ _ ea)
    | dK ea => exact .dK (e _ _ ea)
    | dT ea => exact .dT (e _ _ ea)
    | ins ea c a n t m => exact .ins (e _ _ ea) c a n t m
  | byt b => exact .byt b
  | set ea => exact .set (e _ _ ea)
  | kList a c => exact .kList a c
  | kTuple a c => exact .kTuple a c
  | kDict a c => exact .kDict a c
  | fTuple ea => exact .fTuple (e _ _ ea)
  | fDict ea => exact .fDict (e _ _ ea)
theorem ev_isi {T U : String} {b : Bool} (h : Ev ta σ H x) (ht : TyX K H x (.type T)) (hk : kitB T U = some b) : Ev (tCB (rIsi K) (tCons ta (tCons (tC (.ty U)) tNil))) σ H (.bl b) :=
  ev_cb (ea_cons h (ea_cons ev_c ea_nil)) fun H1 e _ q => ⟨x, .ty U, .type T, .type U, b, rfl, .ty U, tyx_mono e ht, kit_ty hk, q H1 (Ex.refl H1)⟩
end

/-- no test in a comprehension -/
theorem tYes_if {σ : L2.St} {H : Hp} {A B : Hp → Prop} (h : A H) : tYes σ H (fun b H3 => if b = true then A H3 else B H3) := by
  show (if true = true then A H else B H)
  rw [if_pos rfl]
  exact h

/-! ### words -/
def okS (l : List Nat) : Bool := decide (1 ≤ l.length) && decide (l.length ≤ 60) && l.all fun c => decide (c ∈ [97, 98, 99, 100, 101, 102, 103, 104])
def isWordV : V → Bool
  | .str z => okS z.cps.toList
  | _ => false
def isWholeV : V → Bool
  | .int _ => true
  | _ => false
/-- a thing whose kind is known: a text, or none -/
def ThS (K : PySem.W.Frag) (H : Hp) (v : V) : Prop := (∃ l, v = .str (S l) ∧ l.length ≤ 100000) ∨ ∃ T, TyX K H v (.type T) ∧ kitB T "str" = some false ∧ ∀ z, v ≠ .str z
/-- a thing whose kind is known: a whole number, a truth value, or none of them -/
def ThI (K : PySem.W.Frag) (H : Hp) (v : V) : Prop := (∃ i, v = .int i) ∨ (∃ b, v = .bl b) ∨ ∃ T, TyX K H v (.type T) ∧ kitB T "int" = some false ∧ ∀ i, v ≠ .int i
theorem ThS.mono {K : PySem.W.Frag} {H H' : Hp} {v : V} (e : Ex H H') (h : ThS K H v) : ThS K H' v := by
  rcases h with h | ⟨T, h1, h2⟩
  · exact .inl h
  · exact .inr ⟨T, tyx_mono e h1, h2⟩
theorem ThI.mono {K : PySem.W.Frag} {H H' : Hp} {v : V} (e : Ex H H') (h : ThI K H v) : ThI K H' v := by
  rcases h with h | h | ⟨T, h1, h2⟩
  · exact .inl h
  · exact .inr (.inl h)
  · exact .inr (.inr ⟨T, tyx_mono e h1, h2⟩)
theorem word_ok {l : List Nat} (h : okS l = true) : 1 ≤ l.length ∧ l.length ≤ 60 ∧ ∀ c ∈ l, c ∈ [97, 98, 99, 100, 101, 102, 103, 104] := by
  unfold okS at h
  simp only [Bool.and_eq_true, decide_eq_true_eq, List.all_eq_true] at h
  exact ⟨h.1.1, h.1.2, h.2⟩
theorem ok_word {l : List Nat} (h1 : 1 ≤ l.length) (h2 : l.length ≤ 60) (h3 : ∀ c ∈ l, c ∈ [97, 98, 99, 100, 101, 102, 103, 104]) : okS l = true := by
  unfold okS
  simp only [Bool.and_eq_true, decide_eq_true_eq, List.all_eq_true]
  exact ⟨⟨h1, h2⟩, h3⟩
/-- an error of the class at C leaves, nothing of what was tracked has changed -/
def Ref (E : XK) (C : Addr) (H : Hp) : Prop := ∀ H', Ex H H' → E (.ref C) none H'
theorem Ref.mono {E : XK} {C : Addr} {H H' : Hp} (e : Ex H H') (h : Ref E C H) : Ref E C H' := fun H2 e2 => h H2 (e.trans e2)
theorem RetV.mono {v : V} {H H' : Hp} {Q : VK} (e : Ex H H') (h : RetV v H Q) : RetV v H' Q := fun H2 e2 => h H2 (e.trans e2)
theorem RetL.mono {xs : List V} {H H' : Hp} {Q : VK} (e : Ex H H') (h : RetL xs H Q) : RetL xs H' Q := fun p H2 hp e2 h2 => h p H2 (fresh_back e hp) (e.trans e2) h2
/-- the promises -/
def sp_is_word (K : PySem.W.Frag) : Sp := fun vs H Q _ => ∃ v, vs = [v] ∧ ThS K H v ∧ RetV (.bl (isWordV v)) H Q
def sp_need_word (K : PySem.W.Frag) (CW : Addr) : Sp := fun vs H Q E => ∃ v, vs = [v] ∧ ThS K H v ∧ (isWordV v = true → RetV .non H Q) ∧ (isWordV v = false → Ref E CW H)
def sp_is_whole (K : PySem.W.Frag) : Sp := fun vs H Q _ => ∃ v, vs = [v] ∧ ThI K H v ∧ RetV (.bl (isWholeV v)) H Q
def turnL (l : List Nat) (k : Nat) : List Nat := l.drop k ++ l.take k
def sp_turned (K : PySem.W.Frag) (CW CN : Addr) : Sp := fun vs H Q E => ∃ v u, vs = [v, u] ∧ ThS K H v ∧ ThI K H u ∧ (isWordV v = false → Ref E CW H) ∧ (isWordV v = true → isWholeV u = false → Ref E CN H) ∧
  ∀ (l : List Nat) (i : Int), v = .str (S l) → okS l = true → u = .int i → RetV (.str (S (turnL l (i % l.length).toNat))) H Q
def turnsL (l : List Nat) : List (List Nat) := (List.range l.length).map (turnL l)
def sp_turnings (K : PySem.W.Frag) (CW : Addr) : Sp := fun vs H Q E => ∃ v, vs = [v] ∧ ThS K H v ∧ (isWordV v = false → Ref E CW H) ∧
  ∀ l : List Nat, v = .str (S l) → okS l = true → RetL ((turnsL l).map fun l => V.str (S l)) H Q
/-- the numbers that the law mixes -/
def mixN (c k : Int) : Int := (c % 1000000007 + 7919 * k * k + 31 * k + 17) * 48271 % 2147483647
def mixed (c k : Int) : Int := mixN c k * (mixN c k % 65521 + 16807) % 2147483629 / 4
theorem mixed_bd (c k : Int) : 0 ≤ mixed c k ∧ mixed c k < 536870908 := by
  unfold mixed
  generalize mixN c k * (mixN c k % 65521 + 16807) = t
  omega
def number (ns : List Int) (k : Int) : Int := mixed (if 0 < ns.length then ns.getD (k % ns.length).toNat 0 else 0) k
theorem number_bd (ns : List Int) (k : Int) : 0 ≤ number ns k ∧ number ns k < 536870908 := mixed_bd _ _
def sp_mixed : Sp := fun vs H Q _ => ∃ c k : Int, vs = [.int c, .int k] ∧ 0 ≤ k ∧ k ≤ 100000 ∧ RetV (.int (mixed c k)) H Q
def sp_number (K : PySem.W.Frag) : Sp := fun vs H Q _ => ∃ (a : Addr) (ns : List Int) (k : Int), vs = [.ref a, .int k] ∧ SqL K H a (ns.map V.int) ∧ 0 ≤ k ∧ k ≤ 100000 ∧ RetV (.int (number ns k)) H Q
end Br
namespace Br
open PySem PySem.Spec PyProof.Rows L2 Evl SX

section
variable {K : PySem.W.Frag} {σ : L2.St} {H H' : Hp} {ta tb tc te : TE} {x y z v : V}
theorem et_yes : EvT tYes σ H true := fun H1 _ _ q => q H1 (Ex.refl H1)
theorem given_all (n : Nat) (v : Nat → V) : given n (fun _ => true) v = (List.range n).map v := by
  unfold given
  rw [List.filter_eq_self.mpr fun _ _ => rfl]
/-- xs * k, xs + ys: new lists -/
theorem el_rep {xs : List V} {k : Int} (ha : EvL ta σ H xs) (hb : ∀ H1, Ex H H1 → Ev tb σ H1 (.int k)) (h0 : 0 ≤ k) (h1 : k ≤ 1000) (hl : xs.length ≤ 100) : EvL (tOp rRep ta tb) σ H (List.replicate k.toNat xs).flatten := fun H1 e Q q =>
  ha H1 e _ fun p H2 hp e2 h2 => hb H2 (e.trans e2) H2 (Ex.refl H2) _ fun H3 e3 => ⟨p, k, xs, rfl, rfl, e3 p _ h2, by omega, by omega, sz_of (by
    have : xs.length * k.toNat ≤ 100 * 1000 := Nat.mul_le_mul hl (by omega)
    omega), fun r hr => q r _ (fresh_back (e2.trans e3) hr) ((e2.trans e3).trans (Ex.new hr)) upd_same⟩
theorem el_cat {xs ys : List V} (ha : EvL ta σ H xs) (hb : EvL tb σ H ys) (hl : xs.length + ys.length ≤ 100000) : EvL (tOp rCat ta tb) σ H (xs ++ ys) := fun H1 e Q q =>
  ha H1 e _ fun p H2 hp e2 h2 => hb H2 (e.trans e2) _ fun r H3 hr e3 h3 => ⟨p, r, xs, ys, rfl, rfl, e3 p _ h2, h3, sz_of hl, fun s hs => q s _ (fresh_back (e2.trans e3) hs) ((e2.trans e3).trans (Ex.new hs)) upd_same⟩
theorem el_catV {p : Addr} {xs ys : List V} (ha : Ev ta σ H (.ref p)) (hp : H p = some (.lst xs)) (hb : EvL tb σ H ys) (hl : xs.length + ys.length ≤ 100000) : EvL (tOp rCat ta tb) σ H (xs ++ ys) := fun H1 e Q q =>
  ha H1 e _ fun H2 e2 => hb H2 (e.trans e2) _ fun r H3 hr e3 h3 => ⟨p, r, xs, ys, rfl, rfl, e3 p _ (e2 p _ (e p _ hp)), h3, sz_of hl, fun s hs => q s _ (fresh_back (e2.trans e3) hs) ((e2.trans e3).trans (Ex.new hs)) upd_same⟩
def rInt1 : List V → Hp → VK → Prop := fun xs H Q => (∃ i, xs = [.int i] ∧ Q (.int i) H) ∨ ∃ k, xs = [.bl k] ∧ Q (.int (if k then 1 else 0)) H
theorem ev_intB {b : Bool} (h : Ev te σ H (.bl b)) : Ev (tCB rInt1 (tCons te tNil)) σ H (.int (if b then 1 else 0)) := ev_cb (ea_cons h ea_nil) fun H1 _ _ q => .inr ⟨b, rfl, q H1 (Ex.refl H1)⟩
theorem ev_isX {D : Addr} {a : Addr} {c : V} {u : Value} {b : Bool} (h1 : Ev ta σ H (.ref a)) (h2 : Ev tb σ H c) (ha : H a = some (exH (.ref D) none a)) (hc : ClsV c u) (hk : PySem.W.kitOne K (.ref D) u = some b) : Ev (tCB (rIsX K D) (tCons ta (tCons tb tNil))) σ H (.bl b) :=
  ev_cb (ea_cons h1 (ea_cons h2 ea_nil)) fun H1 e _ q => ⟨a, c, u, b, rfl, e a _ ha, hc, hk, q H1 (Ex.refl H1)⟩
/-- sep.join(one text) -/
theorem ev_join1 {a w : List Nat} (h0 : Ev ta σ H (.str (S a))) (h : EvL te σ H [V.str (S w)]) (hl : w.length + a.length ≤ 100000) : Ev (tM1 (rJoin K) ta te) σ H (.str (S w)) := fun H1 e _ q =>
  h0 H1 e _ fun H2 e2 => ⟨⟨_, rfl⟩, h H2 (e.trans e2) _ fun p H3 _ e3 hp => ⟨S a, p, [w].map S, rfl, rfl, .inl (sq_of hp), by
    rw [lens, S_len]
    show (w.length + 0) + 1 * a.length ≤ _
    omega, by
    rw [join_S]
    exact q H3 (e2.trans e3)⟩⟩
end

/-! ### the drawn words -/
def letter (k : Int) : Nat := [97, 98, 99, 100, 101, 102, 103, 104].getD k.toNat 97
theorem letter_in (k : Int) : letter k ∈ [97, 98, 99, 100, 101, 102, 103, 104] := by
  unfold letter
  by_cases h : k.toNat < [97, 98, 99, 100, 101, 102, 103, 104].length
  · rw [List.getD_eq_getElem?_getD, List.getElem?_eq_getElem h]
    exact List.getElem_mem h
  · rw [List.getD_eq_getElem?_getD, List.getElem?_eq_none (Nat.le_of_not_lt h)]
    decide
def abc : List Nat := [97, 98, 99, 100, 101, 102, 103, 104]
theorem abc_S : (PySem.Str.ofString "abcdefgh" : Str) = S abc := by decide +kernel
theorem letter_at {k : Int} (h0 : 0 ≤ k) (h1 : k < 8) : atI abc k = some (letter k) := by
  rw [atI_get h0 (show k < (abc.length : Int) from h1)]
  unfold letter
  have h : k.toNat < [97, 98, 99, 100, 101, 102, 103, 104].length := by
    show k.toNat < 8
    omega
  rw [List.getD_eq_getElem?_getD, List.getElem?_eq_getElem h]
  rfl
def drawn (ns : List Int) (at_ few : Int) (n : Nat) : List Nat := (List.range n).map fun (k : Nat) => letter (number ns (at_ + 1 + (k : Int)) / 3 % few)
def wsizes (n : Int) : List Int := [1 + n / 32 % 12, 1 + n / 32 % 60, 60, 1 + n / 32 % 5]
def wsize (n : Int) : Int := (wsizes n).getD (n / 2000 % 4).toNat 0
theorem wsize_at (n : Int) : atI ((wsizes n).map V.int) (n / 2000 % 4) = some (.int (wsize n)) ∧ 1 ≤ wsize n ∧ wsize n ≤ 60 := by
  have h : n / 2000 % 4 = 0 ∨ n / 2000 % 4 = 1 ∨ n / 2000 % 4 = 2 ∨ n / 2000 % 4 = 3 := by omega
  unfold wsize
  rcases h with h | h | h | h <;> rw [h]
  · refine ⟨rfl, ?_⟩
    show 1 ≤ 1 + n / 32 % 12 ∧ 1 + n / 32 % 12 ≤ 60
    omega
  · refine ⟨rfl, ?_⟩
    show 1 ≤ 1 + n / 32 % 60 ∧ 1 + n / 32 % 60 ≤ 60
    omega
  · refine ⟨rfl, ?_⟩
    show (1 : Int) ≤ 60 ∧ (60 : Int) ≤ 60
    decide
  · refine ⟨rfl, ?_⟩
    show 1 ≤ 1 + n / 32 % 5 ∧ 1 + n / 32 % 5 ≤ 60
    omega
def again (l : List Nat) (m : Int) (z : Nat) : List Nat := (List.replicate 60 (l.take m.toNat)).flatten.take z
theorem sum_ones {α : Type} : ∀ l : List α, (l.map fun _ => 1).sum = l.length
  | [] => rfl
  | a :: r => by
    rw [List.map_cons, List.sum_cons, sum_ones r, List.length_cons, Nat.add_comm]
theorem flat_len (n : Nat) (l : List Nat) : (List.replicate n l).flatten.length = n * l.length := by
  induction n with
  | zero => simp
  | succ m ih => rw [List.replicate_succ, List.flatten_cons, List.length_append, ih, Nat.succ_mul, Nat.add_comm]
theorem again_ok {l : List Nat} {m : Int} {z : Nat} (hl : l.length = z) (h1 : 1 ≤ z) (h2 : z ≤ 60) (hm : 1 ≤ m) (ha : ∀ c ∈ l, c ∈ abc) : (again l m z).length = z ∧ ∀ c ∈ again l m z, c ∈ abc := by
  unfold again
  constructor
  · rw [List.length_take, flat_len, List.length_take]
    have : 1 ≤ min m.toNat l.length := by omega
    omega
  · intro c hc
    obtain ⟨p, hp, hcp⟩ := List.mem_flatten.mp (List.mem_of_mem_take hc)
    rw [List.eq_of_mem_replicate hp] at hcp
    exact ha c (List.mem_of_mem_take hcp)
def lword0 (ns : List Int) (at_ : Int) : List Nat := drawn ns at_ (1 + number ns at_ / 4 % 8) (wsize (number ns at_)).toNat
def lword1 (ns : List Int) (at_ : Int) : List Nat := if number ns at_ % 4 = 1 then again (lword0 ns at_) (1 + number ns at_ / 9000 % 9) (wsize (number ns at_)).toNat else lword0 ns at_
def lwordA (ns : List Int) (at_ : Int) : List Nat := again (lword1 ns at_) (1 + number ns at_ / 9000 % 4) (wsize (number ns at_)).toNat
def lwordP (ns : List Int) (at_ : Int) : Int := number ns at_ / 40000 % wsize (number ns at_)
def lword (ns : List Int) (at_ : Int) : List Nat := if number ns at_ % 4 = 2 then (lwordA ns at_).take (lwordP ns at_).toNat ++ [letter (number ns at_ / 7 % 8)] ++ (lwordA ns at_).drop (lwordP ns at_ + 1).toNat else lword1 ns at_
theorem lword0_ok (ns : List Int) (at_ : Int) : (lword0 ns at_).length = (wsize (number ns at_)).toNat ∧ ∀ c ∈ lword0 ns at_, c ∈ abc := by
  unfold lword0 drawn
  refine ⟨by simp, fun c hc => ?_⟩
  obtain ⟨k, _, rfl⟩ := List.mem_map.mp hc
  exact letter_in _
theorem lword1_ok (ns : List Int) (at_ : Int) : (lword1 ns at_).length = (wsize (number ns at_)).toNat ∧ ∀ c ∈ lword1 ns at_, c ∈ abc := by
  obtain ⟨h1, h2⟩ := lword0_ok ns at_
  obtain ⟨_, s1, s2⟩ := wsize_at (number ns at_)
  unfold lword1
  split
  · exact again_ok h1 (by omega) (by omega) (by omega) h2
  · exact ⟨h1, h2⟩
theorem lwordA_ok (ns : List Int) (at_ : Int) : (lwordA ns at_).length = (wsize (number ns at_)).toNat ∧ ∀ c ∈ lwordA ns at_, c ∈ abc := by
  obtain ⟨h1, h2⟩ := lword1_ok ns at_
  obtain ⟨_, s1, s2⟩ := wsize_at (number ns at_)
  exact again_ok h1 (by omega) (by omega) (by omega) h2
theorem lwordP_bd (ns : List Int) (at_ : Int) : 0 ≤ lwordP ns at_ ∧ lwordP ns at_ < wsize (number ns at_) := by
  obtain ⟨_, s1, s2⟩ := wsize_at (number ns at_)
  exact ⟨Int.emod_nonneg _ (by omega), Int.emod_lt_of_pos _ (by omega)⟩
theorem lword_ok (ns : List Int) (at_ : Int) : okS (lword ns at_) = true := by
  obtain ⟨h1, h2⟩ := lword1_ok ns at_
  obtain ⟨a1, a2⟩ := lwordA_ok ns at_
  obtain ⟨p1, p2⟩ := lwordP_bd ns at_
  obtain ⟨_, s1, s2⟩ := wsize_at (number ns at_)
  unfold lword
  split
  · refine ok_word ?_ ?_ fun c hc => ?_
    · simp only [List.length_append, List.length_cons, List.length_nil]
      omega
    · simp only [List.length_append, List.length_cons, List.length_nil, List.length_take, List.length_drop]
      omega
    · rcases List.mem_append.mp hc with hc | hc
      · rcases List.mem_append.mp hc with hc | hc
        · exact a2 c (List.mem_of_mem_take hc)
        · rw [List.mem_singleton.mp hc]
          exact letter_in _
      · exact a2 c (List.mem_of_mem_drop hc)
  · exact ok_word (by omega) (by omega) h2
def sp_word (K : PySem.W.Frag) : Sp := fun vs H Q _ => ∃ (a : Addr) (ns : List Int) (k : Int), vs = [.ref a, .int k] ∧ SqL K H a (ns.map V.int) ∧ 0 ≤ k ∧ k ≤ 50000 ∧ RetV (.str (S (lword ns k))) H Q
/-- the name of an error's class -/
def sp_kind (CW : Addr) (nm : List Nat) : Sp := fun vs H Q _ => ∃ a, vs = [.ref a] ∧ H a = some (exH (.ref CW) none a) ∧ RetV (.str (S nm)) H Q
def wWord : List Nat := [119, 111, 114, 100]
def wNumber : List Nat := [110, 117, 109, 98, 101, 114]
theorem wWord_S : (PySem.Str.ofString "word" : Str) = S wWord := by decide +kernel
theorem wNumber_S : (PySem.Str.ofString "number" : Str) = S wNumber := by decide +kernel
end Br
namespace Br
open PySem PySem.Spec PyProof.Rows L2 Evl SX

/-! ### turnings -/
theorem turn_len (l : List Nat) (k : Nat) : (turnL l k).length = l.length := by
  unfold turnL
  rw [List.length_append, List.length_drop, List.length_take]
  omega
theorem turn_get {l : List Nat} {k i : Nat} (hk : k ≤ l.length) (hi : i < l.length) : (turnL l k)[i]? = l[(i + k) % l.length]? := by
  unfold turnL
  by_cases h : i + k < l.length
  · rw [List.getElem?_append_left (by rw [List.length_drop]; omega), List.getElem?_drop, Nat.mod_eq_of_lt h, Nat.add_comm]
  · rw [List.getElem?_append_right (by rw [List.length_drop]; omega), List.length_drop, List.getElem?_take]
    have e : (i + k) % l.length = i + k - l.length := by
      rw [Nat.mod_eq_sub_mod (by omega), Nat.mod_eq_of_lt (by omega)]
    rw [e, if_pos (by omega)]
    congr 1
    omega
theorem eq_of_get {a b : List Nat} (hl : a.length = b.length) (h : ∀ i, i < a.length → a[i]? = b[i]?) : a = b := by
  refine List.ext_getElem? fun i => ?_
  by_cases hi : i < a.length
  · exact h i hi
  · rw [List.getElem?_eq_none (by omega), List.getElem?_eq_none (by omega)]
theorem turn_turn {l : List Nat} {a b : Nat} (ha : a ≤ l.length) (hb : b ≤ l.length) (hl : 0 < l.length) : turnL (turnL l a) b = turnL l ((a + b) % l.length) := by
  refine eq_of_get (by rw [turn_len, turn_len, turn_len]) fun i hi => ?_
  rw [turn_len, turn_len] at hi
  have h3 : (i + b) % l.length < l.length := Nat.mod_lt _ hl
  rw [turn_get (by rw [turn_len]; exact hb) (by rw [turn_len]; exact hi), turn_len, turn_get ha h3, turn_get (Nat.le_of_lt (Nat.mod_lt _ hl)) hi]
  congr 1
  rw [Nat.mod_add_mod, Nat.add_mod_mod]
  congr 1
  omega
theorem turn_zero (l : List Nat) : turnL l 0 = l := by
  unfold turnL
  simp
theorem turn_full (l : List Nat) : turnL l l.length = l := by
  unfold turnL
  simp
theorem turn_back {l : List Nat} {a : Nat} (ha : a ≤ l.length) (hl : 0 < l.length) : turnL (turnL l a) (l.length - a) = l := by
  rw [turn_turn ha (by omega) hl, show a + (l.length - a) = l.length by omega, Nat.mod_self, turn_zero]
theorem turn_inj {l m : List Nat} {a : Nat} (ha : a ≤ l.length) (hl : 0 < l.length) (hm : m.length = l.length) (h : turnL l a = turnL m a) : l = m := by
  rw [← turn_back ha hl, h, ← hm, turn_back (by omega) (by omega)]
theorem mem_turns {l t : List Nat} : t ∈ turnsL l ↔ ∃ k, k < l.length ∧ t = turnL l k := by
  unfold turnsL
  constructor
  · intro h
    obtain ⟨k, hk, rfl⟩ := List.mem_map.mp h
    exact ⟨k, List.mem_range.mp hk, rfl⟩
  · rintro ⟨k, hk, rfl⟩
    exact List.mem_map.mpr ⟨k, List.mem_range.mpr hk, rfl⟩
theorem turns_turn {l t : List Nat} {a : Nat} (ha : a < l.length) : t ∈ turnsL (turnL l a) ↔ t ∈ turnsL l := by
  have hl : 0 < l.length := by omega
  rw [mem_turns, mem_turns, turn_len]
  constructor
  · rintro ⟨k, hk, rfl⟩
    exact ⟨(a + k) % l.length, Nat.mod_lt _ hl, turn_turn (by omega) (by omega) hl⟩
  · rintro ⟨k, hk, rfl⟩
    refine ⟨(k + (l.length - a)) % l.length, Nat.mod_lt _ hl, ?_⟩
    rw [turn_turn (by omega) (Nat.le_of_lt (Nat.mod_lt _ hl)) hl]
    congr 1
    rw [Nat.add_mod_mod, show a + (k + (l.length - a)) = k + l.length by omega, Nat.add_mod_right, Nat.mod_eq_of_lt hk]
theorem turn_ok {l : List Nat} {k : Nat} (h : okS l = true) : okS (turnL l k) = true := by
  obtain ⟨h1, h2, h3⟩ := word_ok h
  refine ok_word (by rw [turn_len]; exact h1) (by rw [turn_len]; exact h2) fun c hc => ?_
  unfold turnL at hc
  rcases List.mem_append.mp hc with hc | hc
  · exact h3 c (List.mem_of_mem_drop hc)
  · exact h3 c (List.mem_of_mem_take hc)
/-- the least of all turnings -/
def IsLeast (l m : List Nat) : Prop := m ∈ turnsL l ∧ ∀ t ∈ turnsL l, ¬ t < m
theorem lt_tri {a b : List Nat} (h1 : ¬ a < b) (h2 : ¬ b < a) : a = b := List.le_antisymm (List.not_lt.mp h2) (List.not_lt.mp h1)
theorem least_uniq {l m m' : List Nat} (h : IsLeast l m) (h' : IsLeast l m') : m = m' := lt_tri (h'.2 m h.1) (h.2 m' h'.1)
theorem least_turn {l m : List Nat} {a : Nat} (ha : a < l.length) : IsLeast (turnL l a) m ↔ IsLeast l m := by
  unfold IsLeast
  rw [turns_turn ha]
  constructor
  · rintro ⟨h1, h2⟩
    exact ⟨h1, fun t ht => h2 t ((turns_turn ha).mpr ht)⟩
  · rintro ⟨h1, h2⟩
    exact ⟨h1, fun t ht => h2 t ((turns_turn ha).mp ht)⟩
/-- the least of the turnings by less than k (and the word) -/
def leastTo (l : List Nat) : Nat → List Nat
  | 0 => l
  | k + 1 => if turnL l k < leastTo l k then turnL l k else leastTo l k
theorem leastTo_in {l : List Nat} (hl : 0 < l.length) : ∀ k, k ≤ l.length → leastTo l k ∈ turnsL l
  | 0, _ => mem_turns.mpr ⟨0, hl, (turn_zero l).symm⟩
  | k + 1, hk => by
    unfold leastTo
    split
    · exact mem_turns.mpr ⟨k, hk, rfl⟩
    · exact leastTo_in hl k (by omega)
theorem leastTo_le {l : List Nat} : ∀ k j, j < k → ¬ turnL l j < leastTo l k
  | 0, j, h => absurd h (Nat.not_lt_zero _)
  | k + 1, j, h => by
    unfold leastTo
    split
    · rename_i c
      by_cases e : j = k
      · rw [e]
        exact List.lt_irrefl _
      · exact fun z => leastTo_le k j (by omega) (List.lt_trans z c)
    · rename_i c
      by_cases e : j = k
      · rw [e]
        exact c
      · exact leastTo_le k j (by omega)
def leastL (l : List Nat) : List Nat := leastTo l l.length
theorem leastL_is {l : List Nat} (hl : 0 < l.length) : IsLeast l (leastL l) := ⟨leastTo_in hl _ (Nat.le_refl _), fun t ht => by
  obtain ⟨k, hk, rfl⟩ := mem_turns.mp ht
  exact leastTo_le _ k hk⟩
/-- the least number from 1 on by which the word turned is the word again -/
def IsPer (l : List Nat) (p : Nat) : Prop := 1 ≤ p ∧ p ≤ l.length ∧ turnL l p = l ∧ ∀ k, 1 ≤ k → k < p → turnL l k ≠ l
theorem per_uniq {l : List Nat} {p q : Nat} (h : IsPer l p) (h' : IsPer l q) : p = q := by
  obtain ⟨a1, a2, a3, a4⟩ := h
  obtain ⟨b1, b2, b3, b4⟩ := h'
  rcases Nat.lt_trichotomy p q with c | c | c
  · exact absurd a3 (b4 p a1 c)
  · exact c
  · exact absurd b3 (a4 q b1 c)
theorem per_from {l : List Nat} : ∀ n k, 1 ≤ k → k ≤ l.length → n = l.length - k → (∀ j, 1 ≤ j → j < k → turnL l j ≠ l) → ∃ p, IsPer l p
  | 0, k, h1, h2, hn, hj => ⟨k, h1, h2, by rw [show k = l.length by omega, turn_full], hj⟩
  | n + 1, k, h1, h2, hn, hj => by
    by_cases c : turnL l k = l
    · exact ⟨k, h1, h2, c, hj⟩
    · refine per_from n (k + 1) (by omega) (by omega) (by omega) fun j j1 j2 => ?_
      by_cases e : j = k
      · rw [e]
        exact c
      · exact hj j j1 (by omega)
theorem per_ex {l : List Nat} (hl : 0 < l.length) : ∃ p, IsPer l p := per_from _ 1 (Nat.le_refl _) hl rfl fun j h1 h2 => absurd h1 (by omega)
theorem turn_comm {l : List Nat} {a b : Nat} (ha : a ≤ l.length) (hb : b ≤ l.length) (hl : 0 < l.length) : turnL (turnL l a) b = turnL (turnL l b) a := by
  rw [turn_turn ha hb hl, turn_turn hb ha hl, Nat.add_comm]
theorem per_turn {l : List Nat} {a p : Nat} (ha : a < l.length) : IsPer (turnL l a) p ↔ IsPer l p := by
  have hl : 0 < l.length := by omega
  have same : ∀ k, k ≤ l.length → (turnL (turnL l a) k = turnL l a ↔ turnL l k = l) := fun k hk => by
    rw [turn_comm (by omega) hk hl]
    constructor
    · intro h
      exact turn_inj (by rw [turn_len]; omega) (by rw [turn_len]; exact hl) (by rw [turn_len]) h
    · intro h
      rw [h]
  unfold IsPer
  rw [turn_len]
  constructor
  · rintro ⟨h1, h2, h3, h4⟩
    exact ⟨h1, h2, (same p h2).mp h3, fun k k1 k2 z => h4 k k1 k2 ((same k (by omega)).mpr z)⟩
  · rintro ⟨h1, h2, h3, h4⟩
    exact ⟨h1, h2, (same p h2).mpr h3, fun k k1 k2 z => h4 k k1 k2 ((same k (by omega)).mp z)⟩
/-- the text told twice, and where it comes again -/
theorem twice_at {l : List Nat} {k : Nat} (hk : k ≤ l.length) : (((l ++ l).drop k).take l.length = l) ↔ turnL l k = l := by
  have e : ((l ++ l).drop k).take l.length = turnL l k := by
    unfold turnL
    rw [List.drop_append_of_le_length hk, List.take_append, List.take_of_length_le (by rw [List.length_drop]; omega), List.length_drop]
    congr 2
    omega
  rw [e]
theorem find_per {l : List Nat} {p : Nat} (h : IsPer l p) : Txt.find3 (S (l ++ l)) (S l) 1 = (p : Int) := by
  obtain ⟨h1, h2, h3, h4⟩ := h
  have hne : TL.tl (S l) ≠ [] := fun z => by
    have z' : l = [] := z
    rw [z'] at h2
    simp at h2
    omega
  have at_ : ∀ k, PySem.StrLaws.At (S (l ++ l)) (S l) (S (l ++ l)).length k ↔ ((l ++ l).drop k).take l.length = l := fun k => by
    rw [TL.at_iff hne]
    show (((l ++ l).drop k).take l.length == l) = true ↔ _
    rw [beq_iff_eq]
  have e1 : PySem.fromIndex (S (l ++ l)).length 1 = 1 := rfl
  unfold Txt.find3
  rw [e1]
  rcases PySem.StrLaws.occ_head_from (S (l ++ l)) (S l) 1 1 (Nat.le_refl _) with ⟨_, hn⟩ | ⟨i, r, e, hi, ha, hb⟩
  · exact absurd ((at_ p).mpr ((twice_at h2).mpr h3)) (hn p h1)
  · rw [e]
    show (i : Int) = (p : Int)
    have hip : ¬ p < i := fun z => hb p h1 z ((at_ p).mpr ((twice_at h2).mpr h3))
    have hpi : ¬ i < p := fun z => h4 i hi z ((twice_at (by omega)).mp ((at_ i).mp ha))
    omega

/-! ### what evaluates to a thing of some kind -/
def EvP (te : TE) (σ : L2.St) (H : Hp) (P : V → Hp → Prop) : Prop := ∀ H1, Ex H H1 → ∀ Q : VK, (∀ v H2, Ex H1 H2 → P v H2 → Q v H2) → te σ H1 Q
def EvAll (ta : TA) (σ : L2.St) (H : Hp) (n : Nat) (P : V → Hp → Prop) : Prop := ∀ H1, Ex H H1 → ∀ Q : List V → Hp → Prop, (∀ vs H2, Ex H1 H2 → vs.length = n → (∀ v ∈ vs, P v H2) → Q vs H2) → ta σ H1 Q
section
variable {K : PySem.W.Frag} {σ : L2.St} {H H' : Hp} {ta tb tc te : TE} {x y z v : V} {P : V → Hp → Prop}
theorem ep_of (h : Ev te σ H v) (hp : ∀ H2, Ex H H2 → P v H2) : EvP te σ H P := fun H1 e Q q => h H1 e Q fun H2 e2 => q v H2 e2 (hp H2 (e.trans e2))
theorem ep_lst {xs : List V} (h : EvL te σ H xs) (hp : ∀ p H2, Ex H H2 → H2 p = some (.lst xs) → P (.ref p) H2) : EvP te σ H P := fun H1 e Q q => h H1 e Q fun p H2 _ e2 h2 => q _ H2 e2 (hp p H2 (e.trans e2) h2)
theorem ep_tup {xs : List V} (h : EvU te σ H xs) (hp : ∀ p H2, Ex H H2 → H2 p = some (.tup xs) → P (.ref p) H2) : EvP te σ H P := fun H1 e Q q => h H1 e Q fun p H2 _ e2 h2 => q _ H2 e2 (hp p H2 (e.trans e2) h2)
theorem ep_dct (hp : ∀ p H2, Ex H H2 → H2 p = some (.dK []) → P (.ref p) H2) : EvP tDNewK σ H P := fun H1 e Q q p hn => q _ _ (Ex.new hn) (hp p _ (e.trans (Ex.new hn)) upd_same)
theorem eall_nil : EvAll tNil σ H 0 P := fun H1 _ Q q => q [] H1 (Ex.refl H1) rfl fun _ h => nomatch h
theorem eall_cons {tr : TA} {n : Nat} (mono : ∀ v H1 H2, Ex H1 H2 → P v H1 → P v H2) (h : EvP te σ H P) (hr : EvAll tr σ H n P) : EvAll (tCons te tr) σ H (n + 1) P := fun H1 e Q q =>
  h H1 e _ fun v H2 e2 hv => hr H2 (e.trans e2) _ fun vs H3 e3 hl hvs => q (v :: vs) H3 (e2.trans e3) (by rw [List.length_cons, hl]) fun u hu => by
    rcases List.mem_cons.mp hu with rfl | hu
    · exact mono _ H2 H3 e3 hv
    · exact hvs u hu
theorem ep_pick {t : TA} {n : Nat} {i : Int} (mono : ∀ v H1 H2, Ex H1 H2 → P v H1 → P v H2) (h : EvAll t σ H n P) (hb : ∀ H1, Ex H H1 → Ev tb σ H1 (.int i)) (hn : n ≤ 1000) (h0 : 0 ≤ i) (h1 : i < n) : EvP (tOp (rIxL K) (tLst t) tb) σ H P := fun H1 e Q q =>
  h H1 e _ fun vs H2 e2 hl hvs => ⟨sz_of (by omega), fun p hp => hb _ ((e.trans e2).trans (Ex.new hp)) _ (Ex.refl _) _ fun H3 e3 =>
    ⟨p, vs, i, vs[i.toNat]'(by omega), rfl, rfl, sq_of (e3 p _ upd_same), atI_get h0 (by omega), q _ H3 ((e2.trans (Ex.new hp)).trans e3) (mono _ H2 H3 ((Ex.new hp).trans e3) (hvs _ (List.getElem_mem _)))⟩⟩
/-- stored under a name -/
theorem p_asg {D : Ends} {i : Nat} {tz : TS} (h : EvP te σ H P) (k : ∀ v H1, Ex H H1 → P v H1 → tz D (σ.set i (some v)) H1) : tSeq (tAsg te (gName i)) tz D σ H := h H (Ex.refl H) _ fun v H1 e hv => k v H1 e hv
/-- a thing that is no word -/
def Odd (K : PySem.W.Frag) (v : V) (H : Hp) : Prop := ThS K H v ∧ isWordV v = false
theorem Odd.mono (v : V) (H1 H2 : Hp) (e : Ex H1 H2) (h : Odd K v H1) : Odd K v H2 := ⟨ThS.mono e h.1, h.2⟩
theorem odd_txt {l : List Nat} {H2 : Hp} (hl : l.length ≤ 100000) (h : okS l = false) : Odd K (.str (S l)) H2 := ⟨.inl ⟨l, rfl, hl⟩, h⟩
theorem odd_non {H2 : Hp} : Odd K .non H2 := ⟨.inr ⟨"NoneType", .base .non, by decide +kernel, fun _ h => nomatch h⟩, rfl⟩
theorem odd_int {i : Int} {H2 : Hp} : Odd K (.int i) H2 := ⟨.inr ⟨"int", .base (.int i), by decide +kernel, fun _ h => nomatch h⟩, rfl⟩
theorem odd_bl {b : Bool} {H2 : Hp} : Odd K (.bl b) H2 := ⟨.inr ⟨"bool", .base (.bl b), by decide +kernel, fun _ h => nomatch h⟩, rfl⟩
theorem odd_lst {p : Addr} {xs : List V} {H2 : Hp} (h : H2 p = some (.lst xs)) : Odd K (.ref p) H2 := ⟨.inr ⟨"list", .base (.lst h), by decide +kernel, fun _ h => nomatch h⟩, rfl⟩
theorem odd_tup {p : Addr} {xs : List V} {H2 : Hp} (h : H2 p = some (.tup xs)) : Odd K (.ref p) H2 := ⟨.inr ⟨"tuple", .base (.tup h), by decide +kernel, fun _ h => nomatch h⟩, rfl⟩
theorem odd_dct {p : Addr} {H2 : Hp} (h : H2 p = some (.dK [])) : Odd K (.ref p) H2 := ⟨.inr ⟨"dict", .base (.dK h), by decide +kernel, fun _ h => nomatch h⟩, rfl⟩
theorem not_ok_of {l : List Nat} {c : Nat} (hc : c ∈ l) (hn : c ∉ [97, 98, 99, 100, 101, 102, 103, 104]) : okS l = false := by
  cases e : okS l with
  | false => rfl
  | true => exact absurd ((word_ok e).2.2 c hc) hn
theorem not_ok_long {l : List Nat} (h : 60 < l.length) : okS l = false := by
  cases e : okS l with
  | false => rfl
  | true => exact absurd (word_ok e).2.1 (by omega)
/-- is None, is not None, is False as values -/
def rIsNo : R2 := fun x y H Q => y = .non ∧ Q (.bl (decide (x = .non))) H
def rNotNo : R2 := fun x y H Q => y = .non ∧ Q (.bl (!decide (x = .non))) H
theorem rv_isNo : RV rIsNo x .non H (.bl (decide (x = .non))) := fun H1 _ _ q => ⟨rfl, q H1 (Ex.refl H1)⟩
theorem rv_notNo : RV rNotNo x .non H (.bl (!decide (x = .non))) := fun H1 _ _ q => ⟨rfl, q H1 (Ex.refl H1)⟩
theorem rv_isB {a b : Bool} : RV rIsB (.bl a) (.bl b) H (.bl (decide (a = b))) := fun H1 _ _ q => ⟨a, b, rfl, rfl, q H1 (Ex.refl H1)⟩
theorem rv_notB {a b : Bool} : RV rNotB (.bl a) (.bl b) H (.bl (!decide (a = b))) := fun H1 _ _ q => ⟨a, b, rfl, rfl, q H1 (Ex.refl H1)⟩
/-- the least of a new list of texts -/
theorem ev_minS {ys : List (List Nat)} {m : List Nat} (h : EvL te σ H (ys.map fun l => V.str (S l))) (hm : m ∈ ys) (hl : ∀ y ∈ ys, ¬ y < m) : Ev (tCB (rMinS K) (tCons te tNil)) σ H (.str (S m)) := fun H1 e _ q =>
  h H1 e _ fun p H2 _ e2 hp => ⟨p, ys, rfl, sq_of hp, fun z => (by rw [z] at hm; cases hm), fun m' hm' hl' => by
    rw [lt_tri (hl m' hm') (hl' m hm)]
    exact q H2 e2⟩
/-- text.find(text, number) -/
def rFind3 : V → List V → Hp → VK → Prop := fun x xs H Q => ∃ (a b : Str) (i : Int), x = .str a ∧ xs = [.str b, .int i] ∧ Q (.int (Txt.find3 a b i)) H
theorem ev_find3 {a b : Str} {i : Int} (h1 : Ev ta σ H (.str a)) (h2 : Ev tb σ H (.str b)) (h3 : Ev tc σ H (.int i)) : Ev (tBM K "str" rFind3 ta (tCons tb (tCons tc tNil))) σ H (.int (Txt.find3 a b i)) := fun H1 e _ q =>
  h1 H1 e _ fun H2 e2 => ⟨rfl, h2 H2 (e.trans e2) _ fun H3 e3 => h3 H3 ((e.trans e2).trans e3) _ fun H4 e4 => ⟨a, b, i, rfl, rfl, q H4 ((e2.trans e3).trans e4)⟩⟩
def rMinI : List V → Hp → VK → Prop := fun xs H Q => ∃ i j, xs = [.int i, .int j] ∧ Q (.int (if j < i then j else i)) H
theorem ev_minI {i j : Int} (h1 : Ev ta σ H (.int i)) (h2 : Ev tb σ H (.int j)) : Ev (tCB rMinI (tCons ta (tCons tb tNil))) σ H (.int (if j < i then j else i)) := ev_cb (ea_cons h1 (ea_cons h2 ea_nil)) fun H1 _ _ q => ⟨i, j, rfl, q H1 (Ex.refl H1)⟩
end
theorem repr_small {l : List Nat} (h : l.length ≤ 1000) (hc : ∀ c ∈ l, c < 16 ^ 8) : plainR (.str (S l)) := by
  show (reprText (S l)).length ≤ sizeLine
  have := PySem.StrLaws.reprText_len (S l) hc
  have h2 : (S l).length = l.length := S_len l
  exact sz_of (by omega)
theorem repr_word {l : List Nat} (h : okS l = true) : plainR (.str (S l)) := by
  obtain ⟨_, h2, h3⟩ := word_ok h
  refine repr_small (by omega) fun c hc => ?_
  have := h3 c hc
  simp only [List.mem_cons, List.not_mem_nil, or_false] at this
  rcases this with rfl | rfl | rfl | rfl | rfl | rfl | rfl | rfl <;> decide
theorem repr_int {i : Int} (h : i.natAbs < 2 ^ 60) : plainR (.int i) := by
  show i.natAbs.log2 < 1920
  by_cases e : i.natAbs = 0
  · rw [e]
    decide
  · exact Nat.lt_of_lt_of_le ((Nat.log2_lt e).mpr h) (by decide)
def sp_law (K : PySem.W.Frag) : Sp := fun vs H Q _ => ∃ (a : Addr) (ns : List Int), vs = [.ref a] ∧ SqL K H a (ns.map V.int) ∧ ns.length ≤ 63 ∧ RetV (.bl true) H Q
theorem law_asked (K : PySem.W.Frag) (H : Hp) (a : Addr) (ns : List Int) (hl : ns.length ≤ 63) (_ : Only H) (hs : SqL K H a (ns.map V.int)) : sp_law K [.ref a] H (fun v _ => v = .bl true) fun _ _ _ => False :=
  ⟨a, ns, rfl, hs, hl, fun _ _ => rfl⟩
end Br
namespace Br
open PySem PySem.Spec PyProof.Rows L2 Evl SX
section
variable {K : PySem.W.Frag} {σ : L2.St} {H H' : Hp} {ta tb tc te : TE} {t u : TT} {x y z v : V} {D : Ends} {tu tw tz : TS} {g : TG}
/-- a loop over a tuple that is written in its head -/
theorem q_forNT {xs : List V} {tl : TE} (h : EvU tl σ H xs) (Pv : Addr → Nat → L2.St → Hp → Prop) (h0 : ∀ p H1, H p = none → Ex H H1 → H1 p = some (.tup xs) → Pv p 0 σ H1) (hl : ∀ p i σ' H', i ≤ xs.length → Pv p i σ' H' → SqT K H' p xs)
    (hs : ∀ p i x σ' H', xs[i]? = some x → Pv p i σ' H' → g x σ' H' fun σ2 H2 => tu { D with nx := Pv p (i + 1), ct := Pv p (i + 1), bk := tz D } σ2 H2) (hd : ∀ p σ' H', Pv p xs.length σ' H' → tz D σ' H') : tSeq (tFor (iTup K tl) g tu) tz D σ H :=
  h H (Ex.refl H) _ fun p H1 hp e h1 => ⟨p, rfl, ⟨xs, st_of h1⟩, for_tup (D := { D with nx := tz D }) (Pv p) (h0 p H1 hp e h1) (hl p) (hs p) (hd p)⟩
/-- two values that are one -/
theorem et_same (h1 : Ev ta σ H v) (h2 : Ev tb σ H v) (hs : scal v v = true) : EvT (tTest (tOp rNe ta tb)) σ H false := by
  have e := et_test (ev_op h1 h2 (rv_ne hs))
  rw [decide_eq_true rfl] at e
  exact e
theorem min30 (n : Nat) : 1 ≤ 1 + (if (n : Int) < 30 then (n : Int) else 30) ∧ 1 + (if (n : Int) < 30 then (n : Int) else 30) ≤ 31 := by
  split <;> omega
end
end Br
namespace Br
open PySem PySem.Spec PyProof.Rows L2 Evl SX
section
variable {K : PySem.W.Frag} {σ : L2.St} {H H' : Hp} {ta tb tc te : TE} {t u : TT} {x y z v : V} {D : Ends} {tu tw tz : TS} {g : TG} {P : V → Hp → Prop}
/-- a loop over a tuple that is written in its head, all items of one kind -/
theorem q_forP {t : TA} {n : Nat} (mono : ∀ v H1 H2, Ex H1 H2 → P v H1 → P v H2) (h : EvAll t σ H n P) (hn : n ≤ 1000) (I : L2.St → Prop) (h0 : I σ)
    (hs : ∀ (N : L2.St → Hp → Prop) x σ' H', (∀ σ2 H2, I σ2 → Ex H' H2 → N σ2 H2) → I σ' → Ex H H' → P x H' → g x σ' H' fun σ2 H2 => tu { D with nx := N, ct := N, bk := tz D } σ2 H2) (hd : ∀ σ' H', I σ' → Ex H H' → tz D σ' H') :
    tSeq (tFor (iTup K (tTup t)) g tu) tz D σ H := h H (Ex.refl H) _ fun vs H1 e1 hl hv => ⟨sz_of (by omega), fun p hp => ⟨p, rfl, ⟨vs, st_of upd_same⟩, for_tup (xs := vs) (D := { D with nx := tz D }) (fun _ σ' H' => I σ' ∧ Ex (upd H1 p (.tup vs)) H') ⟨h0, Ex.refl _⟩ (fun i σ' H' _ q => st_of (q.2 p _ upd_same))
      (fun i x σ' H' hx q => hs _ x σ' H' (fun σ2 H2 h2 e2 => ⟨h2, q.2.trans e2⟩) q.1 ((e1.trans (Ex.new hp)).trans q.2) (mono x H1 H' ((Ex.new hp).trans q.2) (hv x (List.mem_of_getElem? hx)))) (fun σ' H' q => hd σ' H' q.1 ((e1.trans (Ex.new hp)).trans q.2))⟩⟩
theorem s_forP {t : TA} {n : Nat} (mono : ∀ v H1 H2, Ex H1 H2 → P v H1 → P v H2) (h : EvAll t σ H n P) (hn : n ≤ 1000) (I : L2.St → Prop) (h0 : I σ)
    (hs : ∀ (N : L2.St → Hp → Prop) x σ' H', (∀ σ2 H2, I σ2 → Ex H' H2 → N σ2 H2) → I σ' → Ex H H' → P x H' → g x σ' H' fun σ2 H2 => tu { D with nx := N, ct := N, bk := D.nx } σ2 H2) (hd : ∀ σ' H', I σ' → Ex H H' → D.nx σ' H') :
    tFor (iTup K (tTup t)) g tu D σ H := q_forP (tz := fun D σ H => D.nx σ H) mono h hn I h0 hs hd
theorem ep_call {sp : Sp} {dvs vs : List V} {E : XK} {ta : TA} (h : EvA ta σ H vs) (hs : ∀ H1, Ex H H1 → ∀ Q : VK, (∀ v H2, Ex H1 H2 → P v H2 → Q v H2) → sp (vs ++ dvs) H1 Q E) : EvP (tCall sp dvs E ta) σ H P := fun H1 e Q q =>
  h H1 e _ fun H2 e2 => hs H2 (e.trans e2) Q fun v H3 e3 hv => q v H3 (e2.trans e3) hv
/-- a pair that is written, of two things that are known -/
def PairP (R : V → V → Hp → Prop) : V → Hp → Prop := fun v H => ∃ p x y, v = .ref p ∧ H p = some (.tup [x, y]) ∧ R x y H
theorem PairP.mono {R : V → V → Hp → Prop} (hr : ∀ x y H1 H2, Ex H1 H2 → R x y H1 → R x y H2) (v : V) (H1 H2 : Hp) (e : Ex H1 H2) (h : PairP R v H1) : PairP R v H2 := by
  obtain ⟨p, x, y, rfl, hp, q⟩ := h
  exact ⟨p, x, y, rfl, e p _ hp, hr x y H1 H2 e q⟩
theorem ep_pair {R : V → V → Hp → Prop} (h1 : Ev ta σ H x) (h2 : Ev tb σ H y) (hr : ∀ H2, Ex H H2 → R x y H2) : EvP (tTup (tCons ta (tCons tb tNil))) σ H (PairP R) :=
  ep_tup (eu_tup (ea_cons h1 (ea_cons h2 ea_nil)) (by show 2 ≤ 100000; decide)) fun p H2 e hp => ⟨p, x, y, rfl, hp, hr H2 e⟩
end
/-- the first turning of the one that is the other -/
def byL (l m : List Nat) : Option Nat := (List.range l.length).find? fun k => decide (turnL l k = m)
def optV : Option Nat → V
  | some k => .int k
  | none => .non
theorem find_some {n k : Nat} {p : Nat → Bool} (hk : k < n) (hp : p k = true) (hn : ∀ j, j < k → p j = false) : (List.range n).find? p = some k := by
  rw [List.find?_range_eq_some]
  exact ⟨hp, List.mem_range.mpr hk, fun j hj => by rw [hn j hj]; rfl⟩
theorem find_none {n : Nat} {p : Nat → Bool} (hn : ∀ j, j < n → p j = false) : (List.range n).find? p = none := by
  rw [List.find?_eq_none]
  intro j hj
  rw [hn j (List.mem_range.mp hj)]
  decide
theorem by_some {l m : List Nat} {k : Nat} (hk : k < l.length) (h : turnL l k = m) (hn : ∀ j, j < k → turnL l j ≠ m) : byL l m = some k := find_some hk (decide_eq_true h) fun j hj => decide_eq_false (hn j hj)
theorem by_none {l m : List Nat} (hn : ∀ j, j < l.length → turnL l j ≠ m) : byL l m = none := find_none fun j hj => decide_eq_false (hn j hj)
theorem by_bd {l m : List Nat} {k : Nat} (h : byL l m = some k) : k < l.length := List.mem_range.mp (List.mem_of_find?_eq_some h)
theorem repr_opt {l m : List Nat} (hl : l.length ≤ 1000) : plainR (optV (byL l m)) := by
  cases e : byL l m with
  | none => exact True.intro
  | some k =>
    have := by_bd e
    exact repr_int (by omega)
theorem optV_non (o : Option Nat) : decide (optV o = V.non) = !o.isSome := by
  cases o <;> rfl
/-- two words; two things of which one is no word -/
def Words (x y : V) (_ : Hp) : Prop := ∃ l m, x = .str (S l) ∧ y = .str (S m) ∧ okS l = true ∧ okS m = true
def OddOne (K : PySem.W.Frag) (x y : V) (H : Hp) : Prop := ThS K H x ∧ ThS K H y ∧ (isWordV x = false ∨ isWordV y = false)
theorem OddOne.mono {K : PySem.W.Frag} (x y : V) (H1 H2 : Hp) (e : Ex H1 H2) (h : OddOne K x y H1) : OddOne K x y H2 := ⟨ThS.mono e h.1, ThS.mono e h.2.1, h.2.2⟩
theorem ths_word {K : PySem.W.Frag} {H : Hp} {l : List Nat} (h : okS l = true) : ThS K H (.str (S l)) := .inl ⟨l, rfl, by have := (word_ok h).2.1; omega⟩
theorem scal_same {v : V} (h : plainR v) : scal v v = true := by
  cases v <;> first | rfl | exact h.elim
end Br
namespace Br
open PySem PySem.Spec PyProof.Rows L2 Evl SX

/-! ### texts in order -/
theorem lt_app {a b : List Nat} (h : a < b) (c : List Nat) : a < b ++ c := by
  induction a generalizing b with
  | nil =>
    cases b with
    | nil => exact absurd h (List.lt_irrefl _)
    | cons y b => exact List.nil_lt_cons _ _
  | cons x a ih =>
    cases b with
    | nil => exact absurd h (List.not_lt_nil _)
    | cons y b =>
      rw [List.cons_append]
      rcases List.cons_lt_cons_iff.mp h with h | ⟨h, h'⟩
      · exact List.cons_lt_cons_iff.mpr (.inl h)
      · exact List.cons_lt_cons_iff.mpr (.inr ⟨h, ih h'⟩)
theorem lt_apps {a b : List Nat} (h : a < b) (hn : ¬ a <+: b) (c d : List Nat) : a ++ c < b ++ d := by
  induction a generalizing b with
  | nil => exact absurd (List.nil_prefix) hn
  | cons x a ih =>
    cases b with
    | nil => exact absurd h (List.not_lt_nil _)
    | cons y b =>
      rw [List.cons_append, List.cons_append]
      rcases List.cons_lt_cons_iff.mp h with h | ⟨h, h'⟩
      · exact List.cons_lt_cons_iff.mpr (.inl h)
      · refine List.cons_lt_cons_iff.mpr (.inr ⟨h, ih h' fun z => hn ?_⟩)
        rw [h]
        exact List.cons_prefix_cons.mpr ⟨rfl, z⟩
theorem app_lt {c a b : List Nat} : c ++ a < c ++ b ↔ a < b := by
  induction c with
  | nil => exact Iff.rfl
  | cons x c ih =>
    rw [List.cons_append, List.cons_append, List.cons_lt_cons_iff]
    constructor
    · rintro (h | ⟨_, h⟩)
      · exact absurd h (Nat.lt_irrefl _)
      · exact ih.mp h
    · exact fun h => .inr ⟨rfl, ih.mpr h⟩
theorem pre_le {a b : List Nat} (h : a <+: b) : ¬ b < a := by
  obtain ⟨c, rfl⟩ := h
  intro z
  have z' : a ++ c < a ++ [] := by rw [List.append_nil]; exact z
  exact List.not_lt_nil _ (app_lt.mp z')
theorem lt_of_not {a b : List Nat} (h : ¬ b < a) (hne : a ≠ b) : a < b := by
  by_cases c : a < b
  · exact c
  · exact absurd (lt_tri c h) hne
theorem le_lt {a b c : List Nat} (h : ¬ b < a) (h' : b < c) : a < c := by
  by_cases e : a = b
  · rw [e]; exact h'
  · exact List.lt_trans (lt_of_not h e) h'
theorem lt_le {a b c : List Nat} (h : a < b) (h' : ¬ c < b) : a < c := by
  by_cases e : b = c
  · rw [← e]; exact h
  · exact List.lt_trans h (lt_of_not h' e)
theorem le_le {a b c : List Nat} (h : ¬ b < a) (h' : ¬ c < b) : ¬ c < a := fun z => h' (lt_le z h)

/-! ### primes: by their turnings, by their endings -/
def Lyn (l : List Nat) : Prop := 0 < l.length ∧ ∀ k, 1 ≤ k → k < l.length → l < turnL l k
def Suf (l : List Nat) : Prop := 0 < l.length ∧ ∀ k, 1 ≤ k → k < l.length → l < l.drop k
theorem lyn_of_suf {l : List Nat} (h : Suf l) : Lyn l := ⟨h.1, fun k k1 k2 => lt_app (h.2 k k1 k2) _⟩
theorem same_len {a b c d : List Nat} (hl : a.length = b.length) (h : a ++ c < b ++ d) : a < b ∨ (a = b ∧ c < d) := by
  induction a generalizing b with
  | nil =>
    have e : b = [] := List.length_eq_zero_iff.mp hl.symm
    subst e
    exact .inr ⟨rfl, h⟩
  | cons x a ih =>
    cases b with
    | nil => cases hl
    | cons y b =>
      rw [List.cons_append, List.cons_append] at h
      rcases List.cons_lt_cons_iff.mp h with g | ⟨rfl, g⟩
      · exact .inl (List.cons_lt_cons_iff.mpr (.inl g))
      · rcases ih (Nat.succ.inj hl) g with g2 | ⟨rfl, g2⟩
        · exact .inl (List.cons_lt_cons_iff.mpr (.inr ⟨rfl, g2⟩))
        · exact .inr ⟨rfl, g2⟩
theorem suf_of_lyn {l : List Nat} (h : Lyn l) : Suf l := by
  refine ⟨h.1, fun k k1 k2 => ?_⟩
  by_cases c : l < l.drop k
  · exact c
  exfalso
  -- the ending is not greater: it begins the word
  have hlt := h.2 k k1 k2
  have hne : l.drop k ≠ l := fun z => by
    have := congrArg List.length z
    rw [List.length_drop] at this
    omega
  have hs : l.drop k < l := lt_of_not c hne
  by_cases hp : l.drop k <+: l
  · obtain ⟨u, hu⟩ := hp
    have hul : u.length = k := by
      have := congrArg List.length hu
      rw [List.length_append, List.length_drop] at this
      omega
    -- l = s u, turned by k: s t
    have h1 : l.drop k ++ u < l.drop k ++ l.take k := by
      rw [hu]
      exact hlt
    have h2 : u < l.take k := app_lt.mp h1
    -- turned by as many as s has: u s
    have h3 := h.2 (l.length - k) (by omega) (by omega)
    have e : turnL l (l.length - k) = u ++ l.drop k := by
      have ed : l.drop (l.length - k) = u := by
        have := congrArg (List.drop (l.length - k)) hu
        rw [List.drop_append_of_le_length (by rw [List.length_drop]; exact Nat.le_refl _), List.drop_of_length_le (by rw [List.length_drop]; exact Nat.le_refl _)] at this
        exact this.symm
      have et : l.take (l.length - k) = l.drop k := by
        have := congrArg (List.take (l.length - k)) hu
        rw [List.take_append_of_le_length (by rw [List.length_drop]; exact Nat.le_refl _), List.take_of_length_le (by rw [List.length_drop]; exact Nat.le_refl _)] at this
        exact this.symm
      unfold turnL
      rw [ed, et]
    rw [e] at h3
    have h4 : l.take k ++ l.drop k < u ++ l.drop k := by
      rw [List.take_append_drop]
      exact h3
    rcases same_len (by rw [List.length_take, hul]; omega) h4 with h5 | ⟨_, h5⟩
    · exact List.lt_irrefl _ (List.lt_trans h2 h5)
    · exact List.lt_irrefl _ h5
  · have z := lt_apps hs hp (l.take k) []
    rw [List.append_nil] at z
    exact List.lt_irrefl _ (List.lt_trans hlt z)
/-- an ending, begun anywhere ahead of the end -/
theorem suf_le {l : List Nat} (h : Suf l) {k : Nat} (hk : k < l.length) : ¬ l.drop k < l := by
  by_cases e : k = 0
  · rw [e]
    exact List.lt_irrefl _
  · exact fun z => List.lt_irrefl _ (List.lt_trans z (h.2 k (by omega) hk))
theorem suf_cat {u v : List Nat} (hu : Suf u) (hv : Suf v) (h : u < v) : Suf (u ++ v) := by
  have huv : u ++ v < v := by
    by_cases hp : u <+: v
    · obtain ⟨t, ht⟩ := hp
      have htl : 0 < t.length := by
        cases t with
        | nil =>
          rw [List.append_nil] at ht
          rw [ht] at h
          exact absurd h (List.lt_irrefl _)
        | cons _ _ => exact Nat.succ_pos _
      have hd : v.drop u.length = t := by
        rw [← ht, List.drop_append_of_le_length (Nat.le_refl _), List.drop_of_length_le (Nat.le_refl _), List.nil_append]
      have hlen : v.length = u.length + t.length := by rw [← ht, List.length_append]
      have z := hv.2 u.length hu.1 (by omega)
      rw [hd] at z
      have z2 : u ++ v < u ++ t := app_lt.mpr z
      rw [ht] at z2
      exact z2
    · have z := lt_apps h hp v []
      rw [List.append_nil] at z
      exact z
  refine ⟨by rw [List.length_append]; have := hu.1; omega, fun k k1 k2 => ?_⟩
  by_cases hk : k < u.length
  · have z := hu.2 k k1 hk
    rw [List.drop_append_of_le_length (by omega)]
    refine lt_apps z (fun hp => ?_) v v
    have := hp.length_le
    rw [List.length_drop] at this
    omega
  · have e : (u ++ v).drop k = v.drop (k - u.length) := by
      rw [List.drop_append, List.drop_of_length_le (by omega), List.nil_append]
    rw [e]
    rw [List.length_append] at k2
    by_cases h0 : k - u.length = 0
    · rw [h0]
      exact huv
    · exact List.lt_trans huv (hv.2 _ (by omega) (by omega))
theorem suf_one (c : Nat) : Suf [c] := ⟨Nat.succ_pos _, fun k k1 k2 => absurd k2 (by rw [List.length_singleton]; omega)⟩

/-! ### the stack of primes, its top first -/
def push : List (List Nat) → List Nat → List (List Nat)
  | [], w => [w]
  | t :: rs, w => if t < w then push rs (t ++ w) else w :: t :: rs
def partsR (l : List Nat) : List (List Nat) := l.foldl (fun rs c => push rs [c]) []
def partsL (l : List Nat) : List (List Nat) := (partsR l).reverse
/-- primes, none greater than the one ahead of it (the top first: none less than the one above it) -/
def Down (rs : List (List Nat)) : Prop := (∀ t ∈ rs, Suf t) ∧ rs.Pairwise fun a b => ¬ b < a
theorem push_down : ∀ (rs : List (List Nat)) (w : List Nat), Down rs → Suf w → Down (push rs w) ∧ (push rs w).reverse.flatten = rs.reverse.flatten ++ w
  | [], w, _, hw => ⟨⟨fun t ht => by rw [List.mem_singleton.mp ht]; exact hw, List.pairwise_singleton _ _⟩, by show ([w] : List (List Nat)).reverse.flatten = _; simp⟩
  | t :: rs, w, h, hw => by
    unfold push
    by_cases c : t < w
    · rw [if_pos c]
      have hd : Down rs := ⟨fun u hu => h.1 u (List.mem_cons_of_mem _ hu), (List.pairwise_cons.mp h.2).2⟩
      obtain ⟨h1, h2⟩ := push_down rs (t ++ w) hd (suf_cat (h.1 t List.mem_cons_self) hw c)
      refine ⟨h1, ?_⟩
      rw [h2]
      simp
    · rw [if_neg c]
      refine ⟨⟨fun u hu => ?_, List.pairwise_cons.mpr ⟨fun u hu => ?_, h.2⟩⟩, by simp⟩
      · rcases List.mem_cons.mp hu with rfl | hu
        · exact hw
        · exact h.1 u hu
      · rcases List.mem_cons.mp hu with rfl | hu
        · exact c
        · exact le_le c ((List.pairwise_cons.mp h.2).1 u hu)
theorem partsR_from : ∀ (l : List Nat) (rs : List (List Nat)), Down rs → Down (l.foldl (fun rs c => push rs [c]) rs) ∧ (l.foldl (fun rs c => push rs [c]) rs).reverse.flatten = rs.reverse.flatten ++ l
  | [], rs, h => ⟨h, by simp⟩
  | c :: l, rs, h => by
    obtain ⟨h1, h2⟩ := push_down rs [c] h (suf_one c)
    obtain ⟨h3, h4⟩ := partsR_from l _ h1
    refine ⟨h3, ?_⟩
    show (l.foldl _ (push rs [c])).reverse.flatten = _
    rw [h4, h2, List.append_assoc]
    rfl
theorem partsR_ok (l : List Nat) : Down (partsR l) ∧ (partsL l).flatten = l := by
  have h := partsR_from l [] ⟨(fun _ h => nomatch h), List.Pairwise.nil⟩
  exact ⟨h.1, by have e := h.2; rw [List.reverse_nil, List.flatten_nil, List.nil_append] at e; exact e⟩
/-- primes that fall, in their own order -/
def Falls (ws : List (List Nat)) : Prop := (∀ t ∈ ws, Suf t) ∧ ws.Pairwise fun a b => ¬ a < b
theorem partsL_ok (l : List Nat) : Falls (partsL l) ∧ (partsL l).flatten = l := by
  obtain ⟨h1, h2⟩ := partsR_ok l
  exact ⟨⟨fun t ht => h1.1 t (List.mem_reverse.mp ht), List.pairwise_reverse.mpr h1.2⟩, h2⟩
theorem push_len : ∀ (rs : List (List Nat)) (w : List Nat), (push rs w).length ≤ rs.length + 1
  | [], w => Nat.le_refl _
  | t :: rs, w => by
    unfold push
    split
    · have := push_len rs (t ++ w)
      rw [List.length_cons]
      omega
    · exact Nat.le_refl _
theorem part_len {ws : List (List Nat)} {t : List Nat} (h : t ∈ ws) : t.length ≤ ws.flatten.length := by
  obtain ⟨a, b, rfl⟩ := List.append_of_mem h
  simp
  omega
theorem many_len : ∀ {ws : List (List Nat)}, (∀ t ∈ ws, Suf t) → ws.length ≤ ws.flatten.length
  | [], _ => Nat.le_refl _
  | w :: ws, h => by
    have h1 := (h w List.mem_cons_self).1
    have h2 := many_len (ws := ws) fun t ht => h t (List.mem_cons_of_mem _ ht)
    rw [List.flatten_cons, List.length_append, List.length_cons]
    omega
/-- just one way -/
theorem begins {vs : List (List Nat)} : ∀ {r rest : List Nat}, r ≠ [] → vs.flatten = r ++ rest → ∃ (x : List Nat) (v : List Nat), x ≠ [] ∧ v ∈ vs ∧ x <+: v ∧ x <:+ r := by
  induction vs with
  | nil =>
    intro r rest hr h
    have : r = [] := (List.append_eq_nil_iff.mp h.symm).1
    exact absurd this hr
  | cons v vs ih =>
    intro r rest hr h
    rw [List.flatten_cons] at h
    by_cases hl : r.length ≤ v.length
    · refine ⟨r, v, hr, List.mem_cons_self, ?_, List.suffix_refl _⟩
      have e := congrArg (List.take r.length) h
      rw [List.take_append_of_le_length hl, List.take_append_of_le_length (Nat.le_refl _), List.take_of_length_le (Nat.le_refl _)] at e
      rw [← e]
      exact List.take_prefix _ _
    · have e1 := congrArg (List.take v.length) h
      rw [List.take_append_of_le_length (Nat.le_refl _), List.take_of_length_le (Nat.le_refl _), List.take_append_of_le_length (by omega)] at e1
      have e2 := congrArg (List.drop v.length) h
      rw [List.drop_append_of_le_length (Nat.le_refl _), List.drop_of_length_le (Nat.le_refl _), List.nil_append, List.drop_append_of_le_length (by omega)] at e2
      have hne : r.drop v.length ≠ [] := fun z => by
        have := congrArg List.length z
        rw [List.length_drop, List.length_nil] at this
        omega
      obtain ⟨x, u, h1, h2, h3, h4⟩ := ih hne e2
      exact ⟨x, u, h1, List.mem_cons_of_mem _ h2, h3, h4.trans (List.drop_suffix _ _)⟩
theorem first_le {w v : List Nat} {ws vs : List (List Nat)} (hw : Falls (w :: ws)) (hv : Falls (v :: vs)) (h : (w :: ws).flatten = (v :: vs).flatten) : w.length ≤ v.length := by
  by_cases c : w.length ≤ v.length
  · exact c
  exfalso
  rw [List.flatten_cons, List.flatten_cons] at h
  have sw := hw.1 w List.mem_cons_self
  have sv := hv.1 v List.mem_cons_self
  -- w = v r
  have e1 := congrArg (List.take v.length) h
  rw [List.take_append_of_le_length (by omega), List.take_append_of_le_length (Nat.le_refl _), List.take_of_length_le (Nat.le_refl _)] at e1
  have e2 := congrArg (List.drop v.length) h
  rw [List.drop_append_of_le_length (by omega), List.drop_append_of_le_length (Nat.le_refl _), List.drop_of_length_le (Nat.le_refl _), List.nil_append] at e2
  have hne : w.drop v.length ≠ [] := fun z => by
    have := congrArg List.length z
    rw [List.length_drop, List.length_nil] at this
    omega
  obtain ⟨x, u, h1, h2, h3, ⟨q, hq⟩⟩ := begins hne e2.symm
  have hx : x = w.drop (v.length + q.length) := by
    have e := congrArg (List.drop q.length) hq
    rw [List.drop_append_of_le_length (Nat.le_refl _), List.drop_of_length_le (Nat.le_refl _), List.nil_append, List.drop_drop] at e
    exact e
  have hxl : v.length + q.length < w.length := by
    by_cases d : v.length + q.length < w.length
    · exact d
    · rw [List.drop_of_length_le (by omega)] at hx
      exact absurd hx h1
  have z1 : w < x := by
    rw [hx]
    exact sw.2 _ (by have := sv.1; omega) hxl
  have z2 : ¬ u < x := pre_le h3
  have z3 : ¬ v < u := (List.pairwise_cons.mp hv.2).1 u h2
  have z4 : ¬ w < v := pre_le (by rw [← e1]; exact List.take_prefix _ _)
  exact z4 (lt_le (lt_le z1 z2) z3)
theorem one_way : ∀ {ws vs : List (List Nat)}, Falls ws → Falls vs → ws.flatten = vs.flatten → ws = vs
  | [], [], _, _, _ => rfl
  | [], v :: vs, _, hv, h => by
    have := (hv.1 v List.mem_cons_self).1
    have e := congrArg List.length h
    rw [List.flatten_nil, List.flatten_cons, List.length_append, List.length_nil] at e
    omega
  | w :: ws, [], hw, _, h => by
    have := (hw.1 w List.mem_cons_self).1
    have e := congrArg List.length h
    rw [List.flatten_nil, List.flatten_cons, List.length_append, List.length_nil] at e
    omega
  | w :: ws, v :: vs, hw, hv, h => by
    have hl : w.length = v.length := Nat.le_antisymm (first_le hw hv h) (first_le hv hw h.symm)
    rw [List.flatten_cons, List.flatten_cons] at h
    obtain ⟨e1, e2⟩ := List.append_inj h hl
    subst e1
    have e := one_way (ws := ws) (vs := vs) ⟨fun t ht => hw.1 t (List.mem_cons_of_mem _ ht), (List.pairwise_cons.mp hw.2).2⟩ ⟨fun t ht => hv.1 t (List.mem_cons_of_mem _ ht), (List.pairwise_cons.mp hv.2).2⟩ e2
    rw [e]
theorem parts_uniq {ws : List (List Nat)} {l : List Nat} (h : Falls ws) (e : ws.flatten = l) : ws = partsL l := one_way h (partsL_ok l).1 (e.trans (partsL_ok l).2.symm)
theorem parts_one {w : List Nat} (h : Suf w) : partsL w = [w] := (parts_uniq (ws := [w]) ⟨fun t ht => by rw [List.mem_singleton.mp ht]; exact h, List.pairwise_singleton _ _⟩ (by simp)).symm
/-- the last prime is the least ending -/
theorem last_le : ∀ {ws : List (List Nat)} {z : List Nat}, Falls (ws ++ [z]) → ∀ k, k < (ws ++ [z]).flatten.length → ¬ (ws ++ [z]).flatten.drop k < z
  | [], z, h, k, hk => by
    have e : ([] ++ [z] : List (List Nat)).flatten = z := by simp
    rw [e] at hk ⊢
    exact suf_le (h.1 z (by simp)) hk
  | w :: ws, z, h, k, hk => by
    have hz : Falls (ws ++ [z]) := ⟨fun t ht => h.1 t (List.mem_cons_of_mem _ ht), (List.pairwise_cons.mp h.2).2⟩
    rw [List.cons_append, List.flatten_cons] at hk ⊢
    by_cases c : k < w.length
    · rw [List.drop_append_of_le_length (by omega)]
      have h1 : ¬ w.drop k < w := suf_le (h.1 w List.mem_cons_self) c
      have h2 : ¬ w < z := (List.pairwise_cons.mp h.2).1 z (by simp)
      have h3 : ¬ (w.drop k ++ (ws ++ [z]).flatten) < w.drop k := pre_le (List.prefix_append _ _)
      exact le_le (le_le h2 h1) h3
    · rw [List.drop_append, List.drop_of_length_le (by omega), List.nil_append]
      rw [List.length_append] at hk
      exact last_le hz _ (by omega)
end Br
namespace Br
open PySem PySem.Spec PyProof.Rows L2 Evl SX

section
variable {K : PySem.W.Frag} {σ : L2.St} {H H' : Hp} {ta tb tc te : TE} {t : TT} {x y z v : V} {P : V → Hp → Prop}
/-- the truth of a list -/
theorem et_truL {p : Addr} {xs : List V} (h : Ev ta σ H (.ref p)) (hp : SqL K H p xs) : EvT (fun σ H Q => ta σ H fun x H' => ∃ k, TruV K x H' k ∧ Q k H') σ H (!xs.isEmpty) := fun H1 e Q q =>
  h H1 e _ fun H2 e2 => ⟨_, .inl ⟨xs, ex_l (e.trans e2) hp, rfl⟩, q H2 e2⟩
/-- a stretch of a new list -/
theorem el_slN {tl th : TO} {xs : List V} {lo hi : Option Int} (h : EvL te σ H xs) (h1 : EvO tl σ H lo) (h2 : EvO th σ H hi) : EvL (tSl (rSlL K) te tl th) σ H (cutV xs lo hi) := fun H1 e _ q =>
  h H1 e _ fun p H2 hp e2 h2' => h1 H2 (e.trans e2) _ fun H3 e3 => h2 H3 ((e.trans e2).trans e3) _ fun H4 e4 => ⟨p, xs, rfl, sq_of (e4 p _ (e3 p _ h2')), fun r hr => q r _ (fresh_back ((e2.trans e3).trans e4) hr) (((e2.trans e3).trans e4).trans (Ex.new hr)) upd_same⟩
theorem cutV_from (xs : List V) (n : Nat) : cutV xs (some (n : Int)) none = xs.drop n := by
  unfold cutV
  rw [HT.sIx_nat, HT.sIx_none]
  by_cases hn : n ≤ xs.length
  · rw [Nat.min_eq_left hn, List.take_of_length_le (by rw [List.length_drop]; omega)]
  · rw [Nat.min_eq_right (by omega), List.drop_of_length_le (Nat.le_refl _), List.drop_of_length_le (by omega)]
    simp

/-! ### lists as data -/
mutual
theorem dp_mono (e : Ex H H') : ∀ (d : PyData) (v : V), Dp K H v d → Dp K H' v d
  | .none, _, .non => .non
  | .bool _, _, .bl b => .bl b
  | .int _, _, .int i => .int i
  | .str _, _, .str x => .str x
  | .list ds, _, .lst h a => .lst (ex_l e h) (dpa_mono e ds _ a)
  | .tuple ds, _, .tup h a => .tup (ex_t e h) (dpa_mono e ds _ a)
theorem dpa_mono (e : Ex H H') : ∀ (ds : List PyData) (vs : List V), DpAll K H vs ds → DpAll K H' vs ds
  | [], _, .nil => .nil
  | d :: ds, _, .cons h a => .cons (dp_mono e d _ h) (dpa_mono e ds _ a)
end
def dS (l : List Nat) : PyData := .str (S l)
def sV (l : List Nat) : V := .str (S l)
theorem dpa_strs : ∀ ls : List (List Nat), DpAll K H (ls.map sV) (ls.map dS)
  | [] => .nil
  | l :: ls => .cons (.str (S l)) (dpa_strs ls)
theorem dpa_ints : ∀ ns : List Int, DpAll K H (ns.map V.int) (ns.map PyData.int)
  | [] => .nil
  | n :: ns => .cons (.int n) (dpa_ints ns)
def EvD (K : PySem.W.Frag) (te : TE) (σ : L2.St) (H : Hp) (d : PyData) : Prop := EvP te σ H fun v H2 => Dp K H2 v d
theorem ed_strs {ls : List (List Nat)} (h : EvL te σ H (ls.map sV)) : EvD K te σ H (.list (ls.map dS)) := ep_lst h fun p H2 _ hp => .lst (sq_of hp) (dpa_strs ls)
theorem ed_ints {ns : List Int} (h : EvL te σ H (ns.map V.int)) : EvD K te σ H (.list (ns.map PyData.int)) := ep_lst h fun p H2 _ hp => .lst (sq_of hp) (dpa_ints ns)
theorem ed_var {p : Addr} {ls : List (List Nat)} (h : Ev te σ H (.ref p)) (hp : SqL K H p (ls.map sV)) : EvD K te σ H (.list (ls.map dS)) := ep_of h fun H2 e => .lst (ex_l e hp) (dpa_strs ls)
theorem ed_nil : EvD K (tLst tNil) σ H (.list []) := ep_lst (xs := []) (el_lst ea_nil (by decide)) fun p H2 _ hp => .lst (sq_of hp) .nil
theorem ed_one {d : PyData} (h : EvD K te σ H d) : EvD K (tLst (tCons te tNil)) σ H (.list [d]) := fun H1 e Q q =>
  h H1 e _ fun v H2 e2 hv => ⟨sz_of (by show 1 ≤ 100000; decide), fun p hp => q _ _ (e2.trans (Ex.new hp)) (.lst (sq_of upd_same) (.cons (dp_mono (Ex.new hp) d v hv) .nil))⟩
theorem ev_eqD {d e : PyData} (ha : EvD K ta σ H d) (hb : ∀ H1, Ex H H1 → EvD K tb σ H1 e) (h1 : SeqAt.shaped d = true) (h2 : SeqAt.shaped e = true) : Ev (tOp (rEqD K) ta tb) σ H (.bl (PyData.eqv d e)) := fun H1 e1 Q q =>
  ha H1 e1 _ fun v H2 e2 hv => hb H2 (e1.trans e2) H2 (Ex.refl H2) _ fun u H3 e3 hu => ⟨d, e, dp_mono e3 d v hv, hu, h1, h2, q H3 (e2.trans e3)⟩
theorem ev_neD {d e : PyData} (ha : EvD K ta σ H d) (hb : ∀ H1, Ex H H1 → EvD K tb σ H1 e) (h1 : SeqAt.shaped d = true) (h2 : SeqAt.shaped e = true) : Ev (tOp (rNeD K) ta tb) σ H (.bl (!PyData.eqv d e)) := fun H1 e1 Q q =>
  ha H1 e1 _ fun v H2 e2 hv => hb H2 (e1.trans e2) H2 (Ex.refl H2) _ fun u H3 e3 hu => ⟨d, e, dp_mono e3 d v hv, hu, h1, h2, q H3 (e2.trans e3)⟩
/-- letters of a text that lies in Python -/
def Lays (l : List Nat) : Prop := ∀ c ∈ l, c < 1114112
theorem lays_word {l : List Nat} (h : ∀ c ∈ l, c ∈ abc) : Lays l := fun c hc => by
  have := h c hc
  simp only [abc, List.mem_cons, List.not_mem_nil, or_false] at this
  omega
theorem lay_str {l : List Nat} (h : Lays l) : (dS l).canLay0 = true := by
  show PySem.PyData.strOk (S l) = true
  unfold PySem.PyData.strOk
  simp only [← Array.all_toList, List.all_eq_true, decide_eq_true_eq]
  exact h
theorem lay_strs : ∀ {ls : List (List Nat)}, (∀ l ∈ ls, Lays l) → PyData.canLayAll0 (ls.map dS) = true
  | [], _ => by simp [PyData.canLayAll0]
  | l :: ls, h => by
    rw [List.map_cons]
    unfold PyData.canLayAll0
    rw [lay_str (h l List.mem_cons_self), lay_strs fun m hm => h m (List.mem_cons_of_mem _ hm)]
    rfl
theorem deep_strs : ∀ ls : List (List Nat), PyData.depthAll (ls.map dS) = 0
  | [] => by simp [PyData.depthAll]
  | l :: ls => by
    rw [List.map_cons]
    unfold PyData.depthAll
    rw [deep_strs ls]
    simp [dS, PyData.depth]
theorem shape_strs {ls : List (List Nat)} (h : ∀ l ∈ ls, Lays l) : SeqAt.shaped (.list (ls.map dS)) = true := by
  unfold SeqAt.shaped
  have e1 : (PyData.list (ls.map dS)).canLay0 = true := by
    unfold PyData.canLay0
    exact lay_strs h
  have e2 : (PyData.list (ls.map dS)).depth = 1 := by
    unfold PyData.depth
    rw [deep_strs]
  rw [e1, e2]
  rfl
theorem lay_ints : ∀ ns : List Int, PyData.canLayAll0 (ns.map PyData.int) = true
  | [] => by simp [PyData.canLayAll0]
  | n :: ns => by
    rw [List.map_cons]
    unfold PyData.canLayAll0
    rw [lay_ints ns]
    simp [PyData.canLay0]
theorem deep_ints : ∀ ns : List Int, PyData.depthAll (ns.map PyData.int) = 0
  | [] => by simp [PyData.depthAll]
  | n :: ns => by
    rw [List.map_cons]
    unfold PyData.depthAll
    rw [deep_ints ns]
    simp [PyData.depth]
theorem shape_ints (ns : List Int) : SeqAt.shaped (.list (ns.map PyData.int)) = true := by
  unfold SeqAt.shaped
  have e1 : (PyData.list (ns.map PyData.int)).canLay0 = true := by
    unfold PyData.canLay0
    exact lay_ints ns
  have e2 : (PyData.list (ns.map PyData.int)).depth = 1 := by
    unfold PyData.depth
    rw [deep_ints]
  rw [e1, e2]
  rfl
theorem shape_nil : SeqAt.shaped (.list []) = true := shape_ints []
theorem eqv_strs : ∀ ls ms : List (List Nat), PyData.eqvAll (ls.map dS) (ms.map dS) = decide (ls = ms)
  | [], [] => by simp [PyData.eqvAll]
  | [], m :: ms => by simp [PyData.eqvAll]
  | l :: ls, [] => by simp [PyData.eqvAll]
  | l :: ls, m :: ms => by
    rw [List.map_cons, List.map_cons]
    unfold PyData.eqvAll
    rw [eqv_strs ls ms]
    show ((S l == S m) && decide (ls = ms)) = _
    rw [S_beq_eq]
    simp
theorem eqv_nil (ds : List PyData) : PyData.eqv (.list ds) (.list []) = ds.isEmpty := by
  cases ds <;> simp [PyData.eqv, PyData.eqvAll]
/-- [..] == [], [..] != [] of texts, of numbers -/
theorem ev_noS {ls : List (List Nat)} (h : EvL ta σ H (ls.map sV)) (hl : ∀ l ∈ ls, Lays l) : Ev (tOp (rEqD K) ta (tLst tNil)) σ H (.bl ls.isEmpty) := by
  have e := ev_eqD (K := K) (ed_strs h) (fun H1 _ => ed_nil) (shape_strs hl) shape_nil
  rw [eqv_nil, List.isEmpty_map] at e
  exact e
theorem ev_noI {ns : List Int} (h : EvL ta σ H (ns.map V.int)) : Ev (tOp (rEqD K) ta (tLst tNil)) σ H (.bl ns.isEmpty) := by
  have e := ev_eqD (K := K) (ed_ints h) (fun H1 _ => ed_nil) (shape_ints ns) shape_nil
  rw [eqv_nil, List.isEmpty_map] at e
  exact e
theorem ev_anyS {ls : List (List Nat)} (h : EvL ta σ H (ls.map sV)) (hl : ∀ l ∈ ls, Lays l) : Ev (tOp (rNeD K) ta (tLst tNil)) σ H (.bl (!ls.isEmpty)) := by
  have e := ev_neD (K := K) (ed_strs h) (fun H1 _ => ed_nil) (shape_strs hl) shape_nil
  rw [eqv_nil, List.isEmpty_map] at e
  exact e
/-- sep.join(list that stands), the sep nothing -/
theorem ev_joinV {p : Addr} {ys : List (List Nat)} (h0 : Ev ta σ H (.str (S []))) (h : Ev te σ H (.ref p)) (hp : SqL K H p (ys.map sV)) (hl : (ys.map (·.length)).sum ≤ 100000) : Ev (tM1 (rJoin K) ta te) σ H (.str (S ys.flatten)) := fun H1 e _ q =>
  h0 H1 e _ fun H2 e2 => ⟨⟨_, rfl⟩, h H2 (e.trans e2) _ fun H3 e3 => ⟨S [], p, ys.map S, rfl, rfl, .inl (by rw [List.map_map]; exact ex_l ((e.trans e2).trans e3) hp), by
    rw [lens]
    show _ + _ * 0 ≤ _
    omega, by
    rw [join_S, joinE]
    exact q H3 (e2.trans e3)⟩⟩
/-- a comprehension over two lists at once, the first one standing, the second one new -/
theorem el_lcZ {p : Addr} {xs ys : List V} {j1 j2 : Nat} {vs : List Nat} (f : Nat → Bool) (w : Nat → V) (ha : Ev ta σ H (.ref p)) (hx : SqL K H p xs) (hb : ∀ H1, Ex H H1 → EvL tb σ H1 ys) (hn : min xs.length ys.length ≤ 40000)
    (hw : ∀ x y, wipe (((wipe σ vs).set j1 (some x)).set j2 (some y)) vs = wipe σ vs)
    (ht : ∀ (i : Nat) (x y : V) H1, Ex H H1 → xs[i]? = some x → ys[i]? = some y → EvT t (((wipe σ vs).set j1 (some x)).set j2 (some y)) H1 (f i))
    (he : ∀ (i : Nat) (x y : V) H1, Ex H H1 → xs[i]? = some x → ys[i]? = some y → f i = true → Ev te (((wipe σ vs).set j1 (some x)).set j2 (some y)) H1 (w i)) :
    EvL (tLc (iZip K (tCons ta (tCons tb tNil))) (gTup K 2 (gCons (gName j1) (gCons (gName j2) gNil))) t te vs) σ H (given (min xs.length ys.length) f w) := fun H0 e Q q =>
  ha H0 e _ fun H1 e1 => hb H1 (e.trans e1) H1 (Ex.refl H1) _ fun r H2 _ e2 h2 => ⟨p, r, xs, ys, rfl, ex_l ((e.trans e1).trans e2) hx, sq_of h2, fun Dl hD =>
    lc_it (walk_zip (K := K) (a := p) (b := r) (xs := xs) (ys := ys) rfl) (Cw H2 f w Dl) ⟨hD, Ex.new hD, upd_same⟩ (fun i H' _ c => ⟨ex_l (((e.trans e1).trans e2).trans c.2.1) hx, sq_of (c.2.1 r _ h2)⟩)
      (fun i v H3 H4 hi c y => by
        obtain ⟨T, a, b, rfl, hT, rfl, ea, eb⟩ := y
        have c' : Cw H2 f w Dl i (upd H3 T (.tup [a, b])) := ⟨c.1, c.2.1.trans (Ex.new hT), by rw [upd_ne (ne_of_none c.2.2 hT)]; exact c.2.2⟩
        refine ⟨T, _, rfl, st_of upd_same, rfl, _, _, rfl, _, _, rfl, rfl, hw a b, ?_⟩
        exact cw_turn c' (by omega) (ht i a b H2 ((e.trans e1).trans e2) ea eb) (fun hf => he i a b H2 ((e.trans e1).trans e2) ea eb hf))
      (fun H3 c => q Dl H3 (fresh_back (e1.trans e2) c.1) ((e1.trans e2).trans c.2.1) c.2.2)⟩
/-- a comprehension over numbers from lo on, below n -/
theorem el_lcR2 {t1 : TA} {j : Nat} {vs : List Nat} {lo n : Int} (f : Nat → Bool) (w : Nat → V) (h : EvA t1 σ H [.int lo, .int n]) (hn : 0 ≤ lo ∧ lo ≤ 1000 ∧ 0 ≤ n ∧ n ≤ 40000) (hw : ∀ x, wipe ((wipe σ vs).set j (some x)) vs = wipe σ vs)
    (ht : ∀ (i : Nat) H1, Ex H H1 → lo + (i : Int) < n → EvT t ((wipe σ vs).set j (some (.int (lo + (i : Int))))) H1 (f i)) (he : ∀ (i : Nat) H1, Ex H H1 → lo + (i : Int) < n → f i = true → Ev te ((wipe σ vs).set j (some (.int (lo + (i : Int))))) H1 (w i)) :
    EvL (tLc (iRng2 t1) (gName j) t te vs) σ H (given (n - lo).toNat f w) := fun H0 e Q q => h H0 e _ fun H1 e1 => ⟨lo, n, rfl, ⟨by omega, by omega, by omega, by omega⟩, fun Dl hD =>
  lc_range (lo := lo) (n := (n - lo).toNat) (Cw H1 f w Dl) ⟨hD, Ex.new hD, upd_same⟩ (fun i H' hi c => ⟨hw _, cw_turn c (by omega) (ht i H1 (e.trans e1) (by omega)) (fun hf => he i H1 (e.trans e1) (by omega) hf)⟩) (fun H' c => q Dl H' (fresh_back e1 c.1) (e1.trans c.2.1) c.2.2)⟩
end
theorem given_none {n : Nat} {f : Nat → Bool} {v : Nat → V} (h : ∀ i, i < n → f i = false) : given n f v = [] := by
  unfold given
  have : (List.range n).filter f = [] := List.filter_eq_nil_iff.mpr fun i hi => by rw [h i (List.mem_range.mp hi)]; decide
  rw [this]
  rfl
/-- prime, by trying all turnings -/
def primeB (l : List Nat) : Bool := ((turnsL l).drop 1).all fun t => decide (l < t)
theorem drop_turns (l : List Nat) : (turnsL l).drop 1 = (List.range (l.length - 1)).map fun k => turnL l (1 + k) := by
  unfold turnsL
  cases e : l.length with
  | zero => rfl
  | succ n =>
    rw [List.range_succ_eq_map, List.map_cons, List.map_map]
    show (List.range n).map _ = _
    refine List.map_congr_left fun k _ => ?_
    show turnL l (k + 1) = turnL l (1 + k)
    rw [Nat.add_comm]
theorem primeB_iff {l : List Nat} (hl : 0 < l.length) : primeB l = true ↔ Lyn l := by
  unfold primeB
  rw [drop_turns, List.all_map, List.all_eq_true]
  constructor
  · intro h
    refine ⟨hl, fun k k1 k2 => ?_⟩
    have := h (k - 1) (List.mem_range.mpr (by omega))
    have e : 1 + (k - 1) = k := by omega
    simp only [Function.comp, e] at this
    exact of_decide_eq_true this
  · intro h k hk
    have := List.mem_range.mp hk
    exact decide_eq_true (h.2 (1 + k) (by omega) (by omega))
theorem primeB_suf {l : List Nat} (h : Suf l) : primeB l = true := (primeB_iff h.1).mpr (lyn_of_suf h)
theorem suf_primeB {l : List Nat} (hl : 0 < l.length) (h : primeB l = true) : Suf l := suf_of_lyn ((primeB_iff hl).mp h)
theorem parts_word {l w : List Nat} (h : okS l = true) (hw : w ∈ partsL l) : okS w = true := by
  obtain ⟨h1, h2⟩ := partsL_ok l
  obtain ⟨w1, w2, w3⟩ := word_ok h
  have hp := (h1.1 w hw).1
  have hle := part_len hw
  rw [h2] at hle
  refine ok_word hp (by omega) fun c hc => w3 c ?_
  rw [← h2]
  exact List.mem_flatten.mpr ⟨w, hw, hc⟩
theorem parts_many {l : List Nat} (h : okS l = true) : (partsL l).length ≤ 60 := by
  obtain ⟨h1, h2⟩ := partsL_ok l
  have := many_len h1.1
  rw [h2] at this
  have := (word_ok h).2.1
  omega
theorem sum_lens : ∀ ws : List (List Nat), (ws.map (·.length)).sum = ws.flatten.length
  | [] => rfl
  | w :: ws => by
    rw [List.map_cons, List.sum_cons, sum_lens ws, List.flatten_cons, List.length_append]
end Br
namespace Br
open PySem PySem.Spec PyProof.Rows L2 Evl SX

/-! ### lists of lists of texts -/
def LLs (H : Hp) (xs : List V) (lss : List (List (List Nat))) : Prop := xs.length = lss.length ∧ ∀ (i : Nat) (x : V) (ws : List (List Nat)), xs[i]? = some x → lss[i]? = some ws → ∃ q, x = .ref q ∧ H q = some (.lst (ws.map sV))
def IsLL (H : Hp) (v : V) (lss : List (List (List Nat))) : Prop := ∃ p xs, v = .ref p ∧ H p = some (.lst xs) ∧ LLs H xs lss
theorem LLs.mono {H H' : Hp} {xs : List V} {lss : List (List (List Nat))} (e : Ex H H') (h : LLs H xs lss) : LLs H' xs lss := ⟨h.1, fun i x ws hx hw => by
  obtain ⟨q, e1, e2⟩ := h.2 i x ws hx hw
  exact ⟨q, e1, e q _ e2⟩⟩
theorem LLs.nil {H : Hp} : LLs H [] [] := ⟨rfl, fun i x ws hx _ => by cases hx⟩
theorem LLs.app {H : Hp} {xs ys : List V} {ls ms : List (List (List Nat))} (h1 : LLs H xs ls) (h2 : LLs H ys ms) : LLs H (xs ++ ys) (ls ++ ms) := by
  refine ⟨by rw [List.length_append, List.length_append, h1.1, h2.1], fun i x ws hx hw => ?_⟩
  by_cases hi : i < xs.length
  · rw [List.getElem?_append_left hi] at hx
    rw [List.getElem?_append_left (by rw [← h1.1]; exact hi)] at hw
    exact h1.2 i x ws hx hw
  · rw [List.getElem?_append_right (by omega)] at hx
    rw [List.getElem?_append_right (by rw [← h1.1]; omega), ← h1.1] at hw
    exact h2.2 _ x ws hx hw
theorem LLs.one {H : Hp} {q : Addr} {ws : List (List Nat)} (h : H q = some (.lst (ws.map sV))) : LLs H [.ref q] [ws] := ⟨rfl, fun i x ws' hx hw => by
  match i, hx, hw with
  | 0, hx, hw => exact ⟨q, (Option.some.inj hx).symm, by rw [← Option.some.inj hw]; exact h⟩
  | i + 1, hx, _ => cases hx⟩
section
variable {K : PySem.W.Frag} {σ : L2.St} {H H' : Hp} {ta tb tc te tx : TE} {t : TT} {x y z v : V}
theorem dp_ll : ∀ (xs : List V) (lss : List (List (List Nat))), LLs H xs lss → DpAll K H xs (lss.map fun ws => PyData.list (ws.map dS))
  | [], [], _ => .nil
  | [], _ :: _, h => by cases h.1
  | _ :: _, [], h => by cases h.1
  | x :: xs, ws :: lss, h => by
    obtain ⟨q, rfl, hq⟩ := h.2 0 x ws rfl rfl
    exact .cons (.lst (sq_of hq) (dpa_strs ws)) (dp_ll xs lss ⟨Nat.succ.inj h.1, fun i x ws hx hw => h.2 (i + 1) x ws hx hw⟩)
theorem ed_ll {lss : List (List (List Nat))} (h : EvP te σ H fun v H2 => IsLL H2 v lss) : EvD K te σ H (.list (lss.map fun ws => PyData.list (ws.map dS))) := fun H1 e Q q =>
  h H1 e Q fun v H2 e2 hv => by
    obtain ⟨p, xs, rfl, hp, hl⟩ := hv
    exact q _ H2 e2 (.lst (sq_of hp) (dp_ll xs lss hl))
/-- a comprehension over a new list of lists of texts, that hands on lists of texts -/
theorem ep_lcLL {lss : List (List (List Nat))} {j : Nat} {vs : List Nat} (f : List (List Nat) → Bool) (g : List (List Nat) → List (List Nat)) (h : EvP tx σ H fun v H2 => IsLL H2 v lss) (hz : lss.length ≤ 10000) (hw : ∀ x, wipe ((wipe σ vs).set j (some x)) vs = wipe σ vs)
    (ht : ∀ ws q H1, ws ∈ lss → Ex H H1 → H1 q = some (.lst (ws.map sV)) → EvT t ((wipe σ vs).set j (some (.ref q))) H1 (f ws))
    (he : ∀ ws q H1, ws ∈ lss → Ex H H1 → H1 q = some (.lst (ws.map sV)) → f ws = true → EvP te ((wipe σ vs).set j (some (.ref q))) H1 fun v H2 => ∃ r, v = .ref r ∧ (H1 r = none ∨ r = q) ∧ H2 r = some (.lst ((g ws).map sV))) :
    EvP (tLc (iList K tx) (gName j) t te vs) σ H fun v H2 => IsLL H2 v ((lss.filter f).map g) := fun H0 e0 Q q =>
  h H0 e0 _ fun v H1 e1 hv => by
    obtain ⟨p, xs, rfl, hp, hl⟩ := hv
    have hlen := hl.1
    refine ⟨p, rfl, ⟨xs, sq_of hp⟩, fun Dl hD => lc_list (xs := xs) (fun i H' => ∃ acc, H' Dl = some (.lst acc) ∧ Ex H1 H' ∧ LLs H' acc (((lss.take i).filter f).map g) ∧ ∀ x, x ∈ acc → x ≠ .ref Dl) ⟨[], upd_same, Ex.new hD, LLs.nil, fun x hx => by cases hx⟩ (fun i H' _ c => ex_l (let ⟨_, _, c, _⟩ := c; c) (sq_of hp)) ?_ ?_⟩
    · rintro i x H2 hx ⟨acc, h2, e2, hacc, hnD⟩
      have hi : i < lss.length := by
        rw [← hlen]
        exact (List.getElem?_eq_some_iff.mp hx).1
      have hws : lss[i]? = some lss[i] := List.getElem?_eq_getElem hi
      obtain ⟨r, rfl, hr⟩ := hl.2 i x lss[i] hx hws
      have hmem : lss[i] ∈ lss := List.getElem_mem hi
      have e02 := (e0.trans e1).trans e2
      have hr2 := e2 r _ hr
      have hD0 : H1 Dl = none := hD
      have hrD : r ≠ Dl := fun z => by
        rw [z, hD0] at hr
        cases hr
      have htake : lss.take (i + 1) = lss.take i ++ [lss[i]] := by rw [List.take_succ, hws]; rfl
      refine ⟨hw _, ht lss[i] r H2 hmem e02 hr2 H2 (Ex.refl H2) _ fun H3 e3 => ?_⟩
      cases hf : f lss[i] with
      | true =>
        refine (show (if true = true then _ else _) from iteT ?_)
        refine he lss[i] r H3 hmem (e02.trans e3) (e3 r _ hr2) hf H3 (Ex.refl H3) _ fun u H4 e4 hu => ?_
        obtain ⟨r2, rfl, hfr, hr2'⟩ := hu
        have hacc4 := hacc.mono (e3.trans e4)
        have e14 : Ex H1 (upd H4 Dl (.lst (acc ++ [.ref r2]))) := Ex.mut ((e2.trans e3).trans e4) hD0
        have hlz : acc.length ≤ 10000 := by
          have z1 := hacc.1
          have z2 := List.length_filter_le f (lss.take i)
          rw [List.length_map] at z1
          rw [List.length_take] at z2
          omega
        have hr2D : r2 ≠ Dl := fun z => by
          rcases hfr with hfr | hfr
          · rw [z, e3 Dl _ h2] at hfr
            cases hfr
          · exact hrD (hfr ▸ z)
        refine ⟨acc, e4 Dl _ (e3 Dl _ h2), sz_lt (by omega), acc ++ [.ref r2], upd_same, e14, ?_, ?_⟩
        · rw [htake, List.filter_append, List.map_append]
          have hone : ([lss[i]].filter f).map g = [g lss[i]] := by
            rw [List.filter_cons, if_pos hf]
            rfl
          rw [hone]
          refine LLs.app ⟨hacc4.1, fun k x ws hx hw => ?_⟩ (LLs.one (by rw [upd_ne hr2D]; exact hr2'))
          obtain ⟨r', e1', e2'⟩ := hacc4.2 k x ws hx hw
          have hne : r' ≠ Dl := fun z => hnD x (List.mem_of_getElem? hx) (by rw [e1', z])
          exact ⟨r', e1', by rw [upd_ne hne]; exact e2'⟩
        · intro x hx
          rcases List.mem_append.mp hx with hx | hx
          · exact hnD x hx
          · rw [List.mem_singleton.mp hx]
            exact fun z => hr2D (by injection z)
      | false =>
        refine (show (if false = true then _ else _) from iteF ?_)
        refine ⟨acc, e3 Dl _ h2, e2.trans e3, ?_, hnD⟩
        rw [htake, List.filter_append, List.map_append]
        have hone : ([lss[i]].filter f).map g = [] := by
          rw [List.filter_cons, if_neg (by rw [hf]; decide)]
          rfl
        rw [hone, List.append_nil]
        exact hacc.mono e3
    · rintro H2 ⟨acc, h2, e2, hacc, _⟩
      rw [List.take_of_length_le (by omega)] at hacc
      exact q _ H2 (e1.trans e2) ⟨Dl, acc, rfl, h2, hacc⟩
end
end Br
namespace Br
open PySem PySem.Spec PyProof.Rows L2 Evl SX

/-! ### all ways to part a word -/
def waysTo (W : List Nat → List (List (List Nat))) (l : List Nat) (i : Nat) : List (List (List Nat)) := (List.range i).flatMap fun k => (W (l.drop (k + 1))).map (l.take (k + 1) :: ·)
def waysN : Nat → List Nat → List (List (List Nat))
  | 0, _ => []
  | n + 1, l => if l = [] then [[]] else waysTo (waysN n) l l.length
theorem waysTo_succ (W : List Nat → List (List (List Nat))) (l : List Nat) (i : Nat) : waysTo W l (i + 1) = waysTo W l i ++ (W (l.drop (i + 1))).map (l.take (i + 1) :: ·) := by
  unfold waysTo
  rw [List.range_succ, List.flatMap_append]
  simp
theorem ways_many : ∀ (n : Nat) (l : List Nat), l.length < n → (waysN n l).length ≤ 2 ^ l.length ∧ ∀ i, i ≤ l.length → (waysTo (waysN (n - 1)) l i).length + 2 ^ (l.length - i) ≤ 2 ^ l.length
  | 0, _, h => absurd h (Nat.not_lt_zero _)
  | n + 1, l, h => by
    have part : ∀ i, i ≤ l.length → (waysTo (waysN n) l i).length + 2 ^ (l.length - i) ≤ 2 ^ l.length := by
      intro i
      induction i with
      | zero =>
        intro _
        simp [waysTo]
      | succ i ih =>
        intro hi
        have h1 := ih (by omega)
        have h2 := (ways_many n (l.drop (i + 1)) (by rw [List.length_drop]; omega)).1
        rw [List.length_drop] at h2
        rw [waysTo_succ, List.length_append, List.length_map]
        have e : l.length - i = (l.length - (i + 1)) + 1 := by omega
        rw [e, Nat.pow_succ] at h1
        omega
    refine ⟨?_, part⟩
    show (if l = [] then [[]] else waysTo (waysN n) l l.length).length ≤ _
    by_cases c : l = []
    · rw [if_pos c]
      exact Nat.one_le_two_pow
    · rw [if_neg c]
      exact Nat.le_trans (Nat.le_add_right _ _) (part l.length (Nat.le_refl _))
theorem ways_mem : ∀ (n : Nat) (l : List Nat) (ws : List (List Nat)), l.length < n → (ws ∈ waysN n l ↔ ws.flatten = l ∧ ∀ w ∈ ws, w ≠ [])
  | 0, _, _, h => absurd h (Nat.not_lt_zero _)
  | n + 1, l, ws, h => by
    show ws ∈ (if l = [] then [[]] else waysTo (waysN n) l l.length) ↔ _
    by_cases c : l = []
    · rw [if_pos c, List.mem_singleton]
      constructor
      · rintro rfl
        exact ⟨c.symm, fun w hw => by cases hw⟩
      · rintro ⟨h1, h2⟩
        cases ws with
        | nil => rfl
        | cons w ws =>
          rw [c, List.flatten_cons] at h1
          exact absurd (List.append_eq_nil_iff.mp h1).1 (h2 w List.mem_cons_self)
    · rw [if_neg c]
      have hpos : 0 < l.length := List.length_pos_iff.mpr c
      unfold waysTo
      rw [List.mem_flatMap]
      constructor
      · rintro ⟨k, hk, hm⟩
        obtain ⟨v, hv, rfl⟩ := List.mem_map.mp hm
        have hk := List.mem_range.mp hk
        obtain ⟨h1, h2⟩ := (ways_mem n _ v (by rw [List.length_drop]; omega)).mp hv
        refine ⟨by rw [List.flatten_cons, h1, List.take_append_drop], fun w hw => ?_⟩
        rcases List.mem_cons.mp hw with e | hw
        · rw [e]
          intro z
          have := congrArg List.length z
          rw [List.length_take, List.length_nil] at this
          omega
        · exact h2 w hw
      · rintro ⟨h1, h2⟩
        cases ws with
        | nil => exact absurd h1.symm c
        | cons w v =>
          have hw := List.length_pos_iff.mpr (h2 w List.mem_cons_self)
          rw [List.flatten_cons] at h1
          have hl : w.length + v.flatten.length = l.length := by rw [← h1, List.length_append]
          refine ⟨w.length - 1, List.mem_range.mpr (by omega), List.mem_map.mpr ⟨v, ?_, ?_⟩⟩
          · rw [show w.length - 1 + 1 = w.length by omega]
            refine (ways_mem n _ v (by rw [List.length_drop]; omega)).mpr ⟨?_, fun u hu => h2 u (List.mem_cons_of_mem _ hu)⟩
            rw [← h1, List.drop_left]
          · rw [show w.length - 1 + 1 = w.length by omega, ← h1, List.take_left]
theorem ways_once : ∀ (n : Nat) (l : List Nat), (waysN n l).Pairwise (· ≠ ·)
  | 0, _ => List.Pairwise.nil
  | n + 1, l => by
    show (if l = [] then [[]] else waysTo (waysN n) l l.length).Pairwise _
    by_cases c : l = []
    · rw [if_pos c]
      exact List.pairwise_singleton _ _
    · rw [if_neg c]
      unfold waysTo
      rw [List.pairwise_flatMap]
      refine ⟨fun k _ => ?_, ?_⟩
      · rw [List.pairwise_map]
        exact (ways_once n _).imp fun h z => h (List.cons.inj z).2
      · refine List.Pairwise.imp_of_mem (fun {a b} ha hb hab => ?_) (List.pairwise_lt_range (n := l.length))
        intro x hx y hy
        have ha := List.mem_range.mp ha
        have hb := List.mem_range.mp hb
        obtain ⟨u, _, rfl⟩ := List.mem_map.mp hx
        obtain ⟨v, _, rfl⟩ := List.mem_map.mp hy
        intro z
        have z1 := congrArg List.length (List.cons.inj z).1
        rw [List.length_take, List.length_take] at z1
        omega
theorem filter_one {α : Type} {f : α → Bool} {x : α} : ∀ {xs : List α}, xs.Pairwise (· ≠ ·) → x ∈ xs → (∀ y ∈ xs, f y = true ↔ y = x) → xs.filter f = [x]
  | [], _, h, _ => by cases h
  | y :: ys, hp, h, hf => by
    obtain ⟨h1, h2⟩ := List.pairwise_cons.mp hp
    by_cases e : y = x
    · have hn : ys.filter f = [] := List.filter_eq_nil_iff.mpr fun z hz hfz => h1 z hz (e.trans ((hf z (List.mem_cons_of_mem _ hz)).mp hfz).symm)
      rw [List.filter_cons, if_pos ((hf y List.mem_cons_self).mpr e), hn, e]
    · have hm : x ∈ ys := by
        rcases List.mem_cons.mp h with z | z
        · exact absurd z.symm e
        · exact z
      rw [List.filter_cons, if_neg fun z => e ((hf y List.mem_cons_self).mp z)]
      exact filter_one h2 hm fun z hz => hf z (List.mem_cons_of_mem _ hz)
/-- a way that has primes alone that don't rise -/
def risesAt (ws : List (List Nat)) (i : Nat) : Bool := decide (ws.getD i [] < ws.getD (i + 1) [])
def noRise (ws : List (List Nat)) : Bool := ((List.range (ws.length - 1)).filter (risesAt ws)).isEmpty
def goodB (ws : List (List Nat)) : Bool := noRise ws && ws.all primeB
theorem falls_of {ws : List (List Nat)} (h : ∀ i, i + 1 < ws.length → ¬ ws.getD i [] < ws.getD (i + 1) []) : ws.Pairwise fun a b => ¬ a < b := by
  have chain : ∀ (d i : Nat), i + d < ws.length → ¬ ws.getD i [] < ws.getD (i + d) [] := by
    intro d
    induction d with
    | zero =>
      intro i _ z
      exact absurd z (List.lt_irrefl _)
    | succ d ih =>
      intro i hi
      exact le_le (h (i + d) (by omega)) (ih i (by omega))
  rw [List.pairwise_iff_getElem]
  intro i j hi hj hij
  have := chain (j - i) i (by omega)
  rw [show i + (j - i) = j by omega] at this
  rw [List.getD_eq_getElem?_getD, List.getD_eq_getElem?_getD, List.getElem?_eq_getElem hi, List.getElem?_eq_getElem hj] at this
  exact this
theorem good_falls {ws : List (List Nat)} (hn : ∀ w ∈ ws, w ≠ []) : goodB ws = true ↔ Falls ws := by
  unfold goodB noRise
  rw [Bool.and_eq_true, List.isEmpty_iff, List.filter_eq_nil_iff, List.all_eq_true]
  constructor
  · rintro ⟨h1, h2⟩
    refine ⟨fun w hw => suf_primeB (List.length_pos_iff.mpr (hn w hw)) (h2 w hw), falls_of fun i hi z => h1 i (List.mem_range.mpr (by omega)) (decide_eq_true z)⟩
  · rintro ⟨h1, h2⟩
    refine ⟨fun i hi z => ?_, fun w hw => primeB_suf (h1 w hw)⟩
    have hi := List.mem_range.mp hi
    have z := of_decide_eq_true z
    rw [List.getD_eq_getElem?_getD, List.getD_eq_getElem?_getD, List.getElem?_eq_getElem (show i < ws.length by omega), List.getElem?_eq_getElem (show i + 1 < ws.length by omega)] at z
    exact (List.pairwise_iff_getElem.mp h2) i (i + 1) (by omega) (by omega) (by omega) z
theorem ways_good {l : List Nat} {n : Nat} (h : l.length < n) : (waysN n l).filter goodB = [partsL l] := by
  obtain ⟨h1, h2⟩ := partsL_ok l
  have hne : ∀ w ∈ partsL l, w ≠ [] := fun w hw z => by
    have := (h1.1 w hw).1
    rw [z] at this
    exact absurd this (Nat.lt_irrefl _)
  refine filter_one (ways_once n l) ((ways_mem n l _ h).mpr ⟨h2, hne⟩) fun ws hws => ?_
  obtain ⟨e1, e2⟩ := (ways_mem n l ws h).mp hws
  rw [good_falls e2]
  constructor
  · intro hf
    exact parts_uniq hf e1
  · rintro rfl
    exact h1
section
variable {K : PySem.W.Frag} {σ : L2.St} {H H' : Hp} {ta tb tc te tx : TE} {t : TT} {x y z v : V}
theorem el_catR {p : Addr} {xs ys : List V} (ha : EvL ta σ H xs) (hb : Ev tb σ H (.ref p)) (hp : H p = some (.lst ys)) (hl : xs.length + ys.length ≤ 100000) : EvL (tOp rCat ta tb) σ H (xs ++ ys) := fun H1 e Q q =>
  ha H1 e _ fun r H2 hr e2 h2 => hb H2 (e.trans e2) _ fun H3 e3 => ⟨r, p, xs, ys, rfl, rfl, e3 r _ h2, e3 p _ (e2 p _ (e p _ hp)), sz_of hl, fun s hs => q s _ (fresh_back (e2.trans e3) hs) ((e2.trans e3).trans (Ex.new hs)) upd_same⟩
/-- a list of lists of texts and another one, the first one standing -/
theorem ep_catLL {p : Addr} {xs : List V} {ls ms : List (List (List Nat))} (ha : Ev ta σ H (.ref p)) (hp : H p = some (.lst xs)) (hl : LLs H xs ls) (hb : EvP tb σ H fun v H2 => IsLL H2 v ms) (hz : ls.length + ms.length ≤ 100000) : EvP (tOp rCat ta tb) σ H fun v H2 => IsLL H2 v (ls ++ ms) := fun H1 e Q q =>
  ha H1 e _ fun H2 e2 => hb H2 (e.trans e2) _ fun v H3 e3 hv => by
    obtain ⟨r, ys, rfl, h3, hy⟩ := hv
    refine ⟨p, r, xs, ys, rfl, rfl, e3 p _ (e2 p _ (e p _ hp)), h3, sz_of (by rw [hl.1, hy.1]; exact hz), fun s hs => q _ _ ((e2.trans e3).trans (Ex.new hs)) ⟨s, xs ++ ys, rfl, upd_same, LLs.app (hl.mono (((e.trans e2).trans e3).trans (Ex.new hs))) (hy.mono (Ex.new hs))⟩⟩
/-- [[]] -/
theorem ep_oneLL : EvP (tLst (tCons (tLst tNil) tNil)) σ H fun v H2 => IsLL H2 v [[]] := fun H1 e Q q =>
  ⟨sz_of (by show 0 ≤ 100000; decide), fun p hp => ⟨sz_of (by show 1 ≤ 100000; decide), fun r hr => q _ _ ((Ex.new hp).trans (Ex.new hr)) ⟨r, [.ref p], rfl, upd_same, LLs.one (Ex.new hr p _ upd_same)⟩⟩⟩
end
end Br
namespace Br
open PySem PySem.Spec PyProof.Rows L2 Evl SX
set_option maxRecDepth 100000

/-! ### reversed(a text), at the library's level -/
theorem norev_str : typeLookup (.type "str") "__reversed__" = pure none := by rw [typeLookup_type, builtinLookup_eq_fast]; kernel_rfl
theorem item_str : typeLookup (.type "str") "__getitem__" = pure (some (.builtin "str.__getitem__")) := by rw [typeLookup_type, builtinLookup_eq_fast]; kernel_rfl
theorem nolen_rev : typeLookup (.type "reversed") "__len__" = pure none := by rw [typeLookup_type, builtinLookup_eq_fast]; kernel_rfl
theorem slot_rev_hint : Slot "reversed" "__length_hint__" "reversed.__length_hint__" :=
  .of (owner := "reversed") (n := "__length_hint__") (by rw [typeLookup_type, builtinLookup_eq_fast]; kernel_rfl) (by decide +kernel) (by decide +kernel) (by decide +kernel)
    (by first | exact .inl (by decide +kernel) | exact .inr (by decide +kernel)) (by rw [isSubtype_type]; kernel_rfl)
theorem entry_rev_hint : entryFor table "reversed.__length_hint__" = some Builtin.«reversed.__length_hint__» := entryFor_of_tree (by kernel_rfl)
theorem args_rev_hint (a : Value) : argsOk "reversed.__length_hint__" ⟨[a], []⟩ := by
  unfold argsOk; rw [signature?_of (id := "reversed.__length_hint__") (n := ['_', '_', 't', 'n', 'i', 'h', '_', 'h', 't', 'g', 'n', 'e', 'l', '_', '_']) (o := ['d', 'e', 's', 'r', 'e', 'v', 'e', 'r']) (by kernel_rfl) RT.owner_rt]; kernel_rfl
def BackOf (h : Heap) (a : Addr) (x : Str) (t : Tok) (i : Int) : Prop := ∃ o, h.get? a = some o ∧ o.cls = .type "reversed" ∧ o.data = .fields #[.str x t, rawInt i]
section
variable {prog : Program} {w : World} {A : Around} {E : Value → Shared → Prop} {s : Shared} {x : Str} {t : Tok} {it : Addr}
theorem BackOf.typeIs {i : Int} (z : BackOf s.heap it x t i) : s.TypeIs (.ref it) "reversed" := let ⟨o, ho, hc, _⟩ := z; ⟨o, ho, hc⟩
theorem BackOf.at {h h' : Heap} {i : Int} (z : BackOf h it x t i) (e : ∀ o, h.get? it = some o → h'.get? it = some o) : BackOf h' it x t i := let ⟨o, ho, r⟩ := z; ⟨o, e _ ho, r⟩
theorem new_back {Q₁ : Value → Shared → Prop} (hz : x.length ≤ 1000)
    (h : Q₁ (.ref s.heap.objs.size) { s with heap := s.heap.push { cls := .type "reversed", data := .fields #[.str x t, rawInt ((x.length : Int) - 1)] }, toks := s.toks + 1 + 1 }) :
    codeAny (model prog w) A (.call (.builtin "reversed.__new__") ⟨[.type "reversed", .str x t], []⟩) (wants Q₁ E) s := by
  have hT : s.TypeIs (.str x t) "str" := typeIs_str _ _ _
  refine codeAny_of_tree ?_
  show wpAny _ A.in1 (do checkBuiltinCall "reversed.__new__" ⟨[.type "reversed", .str x t], []⟩; PySem.again (.builtin "reversed.__new__" ⟨[.type "reversed", .str x t], []⟩)) _ _ s
  refine wpAny_bind (wpAny_of_eq (F.newCall_reversed_1 _) (wpAny_pure ⟨plainId_quiet F.plain_reversed_new _, codeAny_builtin F.entry_reversed_new ?_⟩))
  rw [Around.under_plainId F.plain_reversed_new _]
  unfold Builtin.«reversed.__new__»
  refine wpAny_bind (wpAny_of_eq (newClass_reversed _) ?_)
  try dsimp only
  refine wpAny_bind (wpAny_of_eq (a := ()) (by first | rfl | kernel_rfl) ?_)
  try dsimp only
  refine wpAny_bind (wpAny_of_eq (a := ()) (by first | rfl | kernel_rfl) ?_)
  try dsimp only
  refine wpAny_bind (wpAny_specialOf hT norev_str ?_)
  try dsimp only
  refine wpAny_bind ?_
  wp_delta
  refine wpAny_bind (wpAny_isInstance (T := "str") (U := "dict") (b := false) hT PySem.F.sub_str_dict ?_)
  try dsimp only
  try rw [if_neg Bool.false_ne_true]
  try dsimp only
  refine wpAny_bind (wpAny_specialOf hT item_str ?_)
  try dsimp only
  try rw [if_pos (by decide +kernel)]
  refine wpAny_pure ?_
  try dsimp only
  try rw [if_neg (by decide)]
  try dsimp only
  refine wpAny_bind (P.len_str (by omega) ?_)
  refine wpAny_bind (wpAny_of_eq (a := some ((x.length : Nat) : Int)) rfl ?_)
  try dsimp only
  refine wpAny_bind ?_
  show wpAny _ _ (newObj (.type "reversed") (.fields #[.str x t, rawInt ((x.length : Int) - 1)])) _ _ _
  refine wpAny_newObj_type ?_
  exact wpAny_pure h
theorem call_back {Q : Value → Shared → Prop} (hz : x.length ≤ 1000)
    (h : Q (.ref s.heap.objs.size) { s with heap := s.heap.push { cls := .type "reversed", data := .fields #[.str x t, rawInt ((x.length : Int) - 1)] }, toks := s.toks + 1 + 1 }) : wpAny (model prog w) A (call (.type "reversed") [.str x t]) Q E s := by
  refine callType_codes (Q₁ := fun obj s₁ => s₁.TypeIs obj "reversed" ∧ Q obj s₁) RT.called_rt (F.typeCall_reversed_1 _) F.entry_object_init
    (new_back (A := A.in1) hz ⟨⟨_, Heap.get?_push_size _ rfl, rfl⟩, h⟩) fun obj s₁ h₁ => ?_
  exact ⟨h₁.1, F.args_object_init_2 obj _, object_init_meets RT.called_rt.init.lookup RT.called_rt.made (by decide) prog w A.in1 _ s₁ ⟨h₁.1, rfl, h₁.2⟩⟩
theorem next_back {i c : Nat} {Q : Option Value → Shared → Prop} (hit : BackOf s.heap it x t (i : Int)) (hc : x.cps[i]? = some c) (hz : x.length ≤ 1000)
    (hQ : ∀ h' u k, BackOf h' it x t ((i : Int) - 1) → Heap.SameBut it s.heap h' → Q (some (.str ⟨#[c]⟩ u)) { s with heap := h', toks := k }) : wpAny (model prog w) A (pyNext (.ref it)) Q E s := by
  obtain ⟨o, ho, hcl, hd⟩ := id hit
  have hi : i < x.length := (Array.getElem?_eq_some_iff.mp hc).1
  have hT : s.TypeIs (.str x t) "str" := typeIs_str _ _ _
  unfold pyNext
  refine wpAny_bind (wpAny_attempt (wpAny_callSpecial?_slot (name := Str.ofString "__next__") hit.typeIs RT.slot_rt_next
    (wpAny_call_entry RT.slot_rt_next hit.typeIs RT.entry_rt_next ?_ (RT.args_rt_next _))))
  unfold Builtin.«reversed.__next__»
  refine wpAny_bind (wpAny_of_eq (a := (Value.ref it, [])) rfl ?_)
  try dsimp only
  refine wpAny_bind (wpAny_field ho hd (x := .str x t) rfl ?_)
  try dsimp only
  refine wpAny_bind (wpAny_field ho hd (x := rawInt (i : Int)) rfl ?_)
  show wpAny _ _ (if (i : Int) < 0 then _ else _) _ _ s
  rw [if_neg (by omega)]
  try dsimp only
  refine wpAny_bind (wpAny_specialOf hT item_str ?_)
  try dsimp only
  try rw [if_neg (by decide)]
  try dsimp only
  refine wpAny_bind (wpAny_mkInt ?_)
  refine wpAny_bind (wpAny_attempt ?_)
  have fin : seqIndex? (i : Int) x.length = some i := seqIndex_of (by omega) (by omega)
  refine P.getItem_str (s := { s with toks := s.toks + 1 }) (c := c) ?_ (by rw [fin]; exact hc) ?_
  · rw [Bool.or_eq_false_iff]
    exact ⟨decide_eq_false (by omega), decide_eq_false (by omega)⟩
  try dsimp only
  refine wpAny_bind (wpAny_field (s := { s with toks := s.toks + 1 + 1 }) ho hd (x := rawInt (i : Int)) rfl ?_)
  try dsimp only
  refine wpAny_bind (wpAny_setField (s := { s with toks := s.toks + 1 + 1 }) ho hd (by simp) ?_)
  first
  | refine wpAny_pure ⟨_, rfl, wpAny_pure (hQ _ _ _ ?_ (Heap.SameBut.update ..))⟩
  | refine wpAny_bind (wpAny_pure (wpAny_pure ⟨_, rfl, wpAny_pure (hQ _ _ _ ?_ (Heap.SameBut.update ..))⟩))
  exact ⟨_, Heap.get?_update_self _ ho (Obj.isFreed_of_fields (Obj.data_mapFields hd _)), (Obj.cls_mapFields ..).trans hcl, by
    rw [Obj.data_mapFields hd]; simp⟩
theorem done_back {Q : Option Value → Shared → Prop} (hh : A.handled = none) (hit : BackOf s.heap it x t (-1)) (hQ : ∀ h', Heap.ExtBut it s.heap h' → Q none { s with heap := h' }) : wpAny (model prog w) A (pyNext (.ref it)) Q E s := by
  obtain ⟨o, ho, hcl, hd⟩ := id hit
  unfold pyNext
  refine wpAny_bind (wpAny_attempt (wpAny_callSpecial?_slot (name := Str.ofString "__next__") hit.typeIs RT.slot_rt_next
    (wpAny_call_entry RT.slot_rt_next hit.typeIs RT.entry_rt_next ?_ (RT.args_rt_next _))))
  unfold Builtin.«reversed.__next__»
  refine wpAny_bind (wpAny_of_eq (a := (Value.ref it, [])) rfl ?_)
  try dsimp only
  refine wpAny_bind (wpAny_field ho hd (x := .str x t) rfl ?_)
  try dsimp only
  refine wpAny_bind (wpAny_field ho hd (x := rawInt (-1)) rfl ?_)
  show wpAny _ _ (if (-1 : Int) < 0 then _ else _) _ _ s
  rw [if_pos (by decide)]
  try dsimp only
  refine wpAny_bind (wpAny_rule ?_)
  refine wpAny_bind ?_
  wp_delta
  refine wpAny_bind (wpAny_setField ho hd (by simp) ?_)
  have h1 := Heap.get?_update_self (Obj.mapFields (·.set! 1 (rawInt (-1)))) ho (Obj.isFreed_of_fields (Obj.data_mapFields hd _))
  refine wpAny_setField h1 (Obj.data_mapFields hd _) (by simp) ?_
  first
  | show wpAny _ _ (newExc (.type "StopIteration") [] >>= _) _ _ _
  | (refine wpAny_bind ?_; show wpAny _ _ (newExc (.type "StopIteration") [] >>= _) _ _ _)
  | (refine wpAny_bind ?_; wp_delta; show wpAny _ _ (newExc (.type "StopIteration") [] >>= _) _ _ _)
  refine wpAny_bind ?_
  simp only [newExc, newTuple]
  refine wpAny_bind (wpAny_newObj_type ?_ (by size_fits))
  refine wpAny_bind (m := firstArgMember _ _) (wpAny_of_eq (a := Value.none) (by first | rfl | (simp only [firstArgMember]; rfl)) ?_)
  refine wpAny_newObj_type ?_ (by size_fits)
  simp only [raiseNew]
  refine wpAny_bind (wpAny_handled ?_)
  first | rw [show A.in1.handled = none from hh] | rw [hh]
  refine wpAny_bind (wpAny_pure (wpAny_throw ?_))
  refine wpAny_bind (wpAny_isInstance (T := "StopIteration") (b := true) ⟨_, Heap.get?_push_size _ rfl, rfl⟩ isSubtype_stop ?_)
  refine wpAny_pure (hQ _ ?_)
  refine ((?_ : Heap.ExtBut it s.heap _).push _).push _
  exact fun b ob hb e => (Heap.get?_update_other _ _ (Ne.symm hb)).trans ((Heap.get?_update_other _ _ (Ne.symm hb)).trans e)
theorem self_back {i : Int} {Q : Value → Shared → Prop} (hit : BackOf s.heap it x t i) (h : Q (.ref it) s) : wpAny (model prog w) A (pyIter (.ref it)) Q E s := by
  refine wpAny_pyIter_slot hit.typeIs RT.slot_rt_iter (wpAny_call_entry RT.slot_rt_iter hit.typeIs RT.entry_rt_iter ?_ (RT.args_rt_iter _))
  show wpAny _ _ (ret (.ref it)) _ _ s
  exact wpAny_pure ⟨_, rfl, "reversed", _, hit.typeIs, RT.slot_rt_next.lookup, h⟩
theorem walks_back (hh : A.handled = none) (hz : x.length ≤ 1000) :
    WalksS prog w A it [it] [it] (fun a b => b = a) x.length (fun i v => ∃ c u, x.cps[x.length - 1 - i]? = some c ∧ v = .str ⟨#[c]⟩ u) (fun i s => i ≤ x.length ∧ BackOf s.heap it x t ((x.length : Int) - 1 - (i : Nat))) where
  sub := fun b hb => hb
  grefl := fun _ => rfl
  gtrans := fun _ _ _ h1 h2 => h2.trans h1
  frame := fun i s h' tk st _ hk => ⟨st.1, st.2.at fun o e => hk it (by simp) o e⟩
  item := fun i s Q E hi st hQ => by
    have hlt : x.length - 1 - i < x.cps.size := by show _ < x.length; omega
    have e1 : (x.length : Int) - 1 - ((i : Nat) : Int) = ((x.length - 1 - i : Nat) : Int) := by omega
    have e2 : ((x.length - 1 - i : Nat) : Int) - 1 = (x.length : Int) - 1 - ((i + 1 : Nat) : Int) := by omega
    have hb := st.2
    rw [e1] at hb
    refine wpAny_with_toks (Nat.le_refl s.toks) (next_back hb (c := x.cps[x.length - 1 - i]) (Array.getElem?_eq_getElem hlt) hz fun h' u k hb' hs htk => ?_)
    rw [e2] at hb'
    exact hQ _ _ ⟨_, u, Array.getElem?_eq_getElem hlt, rfl⟩ ⟨by omega, hb'⟩ ⟨fun b o hb e => (hs.2 b (fun z => hb (List.mem_singleton.mpr z))).trans e, rfl, rfl, rfl, htk⟩
  done := fun s Q E st hQ => by
    have e1 : (x.length : Int) - 1 - ((x.length : Nat) : Int) = -1 := by omega
    have hb := st.2
    rw [e1] at hb
    exact done_back hh hb fun h' hx => hQ _ ⟨fun b o hb e => hx b o (fun z => hb (List.mem_singleton.mpr z)) e, rfl, rfl, rfl, Nat.le_refl _⟩
  self := fun i s Q E st hQ => self_back st.2 hQ
theorem type_rev_hint : typeOf (.builtin "reversed.__length_hint__") = pure (.type "method_descriptor") := by show builtinType _ = _; rw [builtinType_eq_fast]; kernel_rfl
theorem bind_rev_hint (v : Value) : bindSpecial (.builtin "reversed.__length_hint__") v = pure (.builtin "reversed.__length_hint__", [v]) := by
  unfold bindSpecial
  rw [type_rev_hint]
  rfl
theorem hint_back {i : Nat} {Q : Value → Shared → Prop} (hz : x.length ≤ 1000) (hit : BackOf s.heap it x t ((i : Int) - 1)) (hi : i ≤ x.length) (h : ∀ k k', Q (.int (i : Int) k) { s with toks := k' }) :
    wpAny (model prog w) A (call (.builtin "reversed.__length_hint__") [.ref it]) Q E s := by
  obtain ⟨o, ho, hcl, hd⟩ := id hit
  refine wpAny_call_entry slot_rev_hint hit.typeIs entry_rev_hint ?_ (args_rev_hint _)
  unfold Builtin.«reversed.__length_hint__»
  refine wpAny_bind (wpAny_of_eq (a := Value.ref it) rfl ?_)
  try dsimp only
  refine wpAny_bind (wpAny_field ho hd (x := .str x t) rfl ?_)
  try dsimp only
  rw [if_neg (by simp)]
  refine wpAny_bind (P.len_str (by omega) ?_)
  refine wpAny_bind (wpAny_of_eq (a := some ((x.length : Nat) : Int)) rfl ?_)
  try dsimp only
  refine wpAny_bind (wpAny_field (s := { s with toks := s.toks + 1 + 1 }) ho hd (x := rawInt ((i : Int) - 1)) rfl ?_)
  show wpAny _ _ (if ((x.length : Nat) : Int) < (i : Int) - 1 + 1 then _ else _) _ _ _
  rw [if_neg (by omega)]
  rw [show (i : Int) - 1 + 1 = (i : Int) by omega]
  refine wpAny_bind (wpAny_mkInt ?_)
  exact wpAny_pure ⟨_, rfl, h _ _⟩
theorem collect_back {Q : List Value → Shared → Prop} (hh : A.handled = none) (hit : BackOf s.heap it x t ((x.length : Int) - 1)) (h0 : 1 ≤ x.length) (hz : x.length ≤ 1000)
    (hQ : ∀ (h' : Heap) (tk : Nat) (acc : Array Value), (∀ b o, b ≠ it → s.heap.get? b = some o → h'.get? b = some o) → ItemsOf (fun i v => ∃ c u, x.cps[x.length - 1 - i]? = some c ∧ v = .str ⟨#[c]⟩ u) acc x.length → Q acc.toList { s with heap := h', toks := tk }) :
    wpAny (model prog w) A (collect (.ref it)) Q E s := by
  have W := walks_back (prog := prog) (w := w) (A := A.in1) (it := it) (x := x) (t := t) hh hz
  obtain ⟨oi, hoi, _⟩ := id hit
  have hSi : s.heap.objs.size ≠ it := Nat.ne_of_gt (Heap.lt_size hoi)
  have hSf : s.heap.objs.size ∉ [it] := by simpa using hSi
  have hsl : x.length ≤ sizeLine := Nat.le_trans hz (by decide)
  unfold collect
  refine wpAny_bind (wpAny_runValue (codeAny_builtin F.entry_proto_collect ?_))
  rw [Around.under_plainId F.plain_proto_collect _]
  show wpAny _ A.in1 (newList [] >>= fun l' => PySem.again (.builtin "list.__iadd__" ⟨[l', .ref it], []⟩)) _ _ s
  refine wpAny_bind (wpAny_newObj_type ?_)
  refine wpAny_pure ⟨plainId_quiet F.plain_list_iadd _, codeAny_builtin F.entry_list_iadd ?_⟩
  rw [Around.under_plainId F.plain_list_iadd _]
  have hit1 : BackOf (s.heap.push { cls := .type "list", data := .seq ([] : List Value).toArray }) it x t ((x.length : Int) - 1) := hit.at fun o e => Heap.get?_push_of_some _ e
  have hT : ({ s with heap := s.heap.push { cls := .type "list", data := .seq ([] : List Value).toArray } } : Shared).TypeIs (.ref it) "reversed" := BackOf.typeIs (s := { s with heap := s.heap.push { cls := .type "list", data := .seq ([] : List Value).toArray } }) hit1
  have h1 : Builtin.List.listSameRef (.ref s.heap.objs.size) (.ref it) = false := by simp [Builtin.List.listSameRef, hSi]
  show wpAny _ A.in1 (Builtin.List.listExtendWith (.ref s.heap.objs.size) (.ref it) (.ref s.heap.objs.size)) _ _ _
  unfold Builtin.List.listExtendWith
  refine wpAny_bind (wpAny_typeOf hT ?_)
  rw [if_neg (by rw [h1]; decide)]
  refine wpAny_bind (self_back (s := { s with heap := s.heap.push { cls := .type "list", data := .seq ([] : List Value).toArray } }) hit1 ?_)
  refine wpAny_bind (wpAny_holding ?_)
  unfold Builtin.List.listLengthHint
  refine wpAny_bind (wpAny_specialOf hT nolen_rev ?_)
  show wpAny _ A.in1 (specialOf (Value.ref it) (Str.ofString "__length_hint__") >>= _) _ _ _
  refine wpAny_bind (wpAny_specialOf hT slot_rev_hint.lookup ?_)
  generalize hid : ("reversed.__length_hint__" : String) = id0
  wp_delta
  rw [show splitId id0 = some ("reversed", "__length_hint__") from by subst hid; decide +kernel]
  subst hid
  refine wpAny_bind (wpAny_isInstance (b := true) hT (by rw [isSubtype_type]; kernel_rfl) ?_)
  rw [if_neg (by decide)]
  try dsimp only
  rw [if_neg (by decide +kernel)]
  refine wpAny_bind (wpAny_rule ?_)
  refine wpAny_bind (wpAny_of_eq (bind_rev_hint _) ?_)
  try dsimp only
  refine wpAny_bind (wpAny_attempt (hint_back (s := { s with heap := s.heap.push { cls := .type "list", data := .seq ([] : List Value).toArray } }) (i := x.length) hz hit1 (Nat.le_refl _) fun k k' => ?_))
  try dsimp only
  show wpAny _ A.in1 (asInt? (Value.int ((x.length : Nat) : Int) k) >>= _) _ _ _
  have ha : asInt? (Value.int ((x.length : Nat) : Int) k) = pure (some ((x.length : Nat) : Int)) := rfl
  rw [ha, pure_bind]
  try dsimp only
  rw [if_neg (by unfold Builtin.List.listFitsIndex; simp; omega), if_neg (by omega), if_neg (by unfold Builtin.List.listTooLong; simp; omega)]
  refine wpAny_pure ?_
  rw [if_pos (by rw [show (((x.length : Nat) : Int) != 0) = true from by simp; omega]; rfl)]
  refine wpAny_bind (wpAny_rule ?_)
  have g1 : (s.heap.push { cls := .type "list", data := .seq ([] : List Value).toArray }).get? s.heap.objs.size = some { cls := .type "list", data := .seq ([] : List Value).toArray } := Heap.get?_push_size _ rfl
  refine wpAny_bind ?_
  show wpAny _ A.in1 (updateSeq s.heap.objs.size (·.push .none) >>= fun _ => updateSeq s.heap.objs.size (·.pop)) _ _ _
  refine wpAny_bind (wpAny_updateSeq g1 rfl ?_)
  have g2 := Heap.get?_update_self (Obj.mapSeq (·.push Value.none)) g1 rfl
  refine wpAny_updateSeq g2 rfl ?_
  have g3 := Heap.get?_update_self (Obj.mapSeq (·.pop)) g2 rfl
  have others : ∀ b o, b ≠ s.heap.objs.size → (s.heap.push { cls := .type "list", data := .seq ([] : List Value).toArray }).get? b = some o →
      (((s.heap.push { cls := .type "list", data := .seq ([] : List Value).toArray }).update s.heap.objs.size (Obj.mapSeq (·.push Value.none))).update s.heap.objs.size (Obj.mapSeq (·.pop))).get? b = some o :=
    fun b o hb e => (Heap.get?_update_other _ _ (Ne.symm hb)).trans ((Heap.get?_update_other _ _ (Ne.symm hb)).trans e)
  have st0 : 0 ≤ x.length ∧ BackOf (((s.heap.push { cls := .type "list", data := .seq ([] : List Value).toArray }).update s.heap.objs.size (Obj.mapSeq (·.push Value.none))).update s.heap.objs.size (Obj.mapSeq (·.pop))) it x t ((x.length : Int) - 1 - ((0 : Nat) : Int)) :=
    ⟨Nat.zero_le _, by rw [show (x.length : Int) - 1 - ((0 : Nat) : Int) = (x.length : Int) - 1 by omega]; exact hit1.at fun o e => others it o (Ne.symm hSi) e⟩
  refine wpAny_pure ⟨plainId_quiet F.plain_extend_loop _, codeAny_extend_loopS W hsl _ hSf _ x.length 0 _ _ _ rfl (Nat.zero_le _) st0 g3 (ItemsOf.nil _) fun s' acc' c' hm hS' hacc => ?_⟩
  show wpAny _ A (load s.heap.objs.size >>= _) _ _ s'
  refine wpAny_bind (wpAny_load hS' ?_)
  refine wpAny_pure ?_
  rw [Moved.eq_with hm]
  refine hQ s'.heap s'.toks acc' (fun b o hb e => hm.heap b o (fun hmem => ?_) (others b o (Nat.ne_of_lt (Heap.lt_size e)) (Heap.get?_push_of_some _ e))) hacc
  rcases List.mem_cons.mp hmem with e' | hmem
  · exact absurd (Heap.lt_size e) (by rw [e']; exact Nat.lt_irrefl _)
  · exact hb (List.mem_singleton.mp hmem)
theorem strs_back {acc : Array Value} (h : ItemsOf (fun i v => ∃ c u, x.cps[x.length - 1 - i]? = some c ∧ v = .str ⟨#[c]⟩ u) acc x.length) : StrsAre acc.toList (x.cps.toList.reverse.map fun c => (⟨#[c]⟩ : Str)) := by
  obtain ⟨hl, hi⟩ := h
  have hL : acc.toList.length = (x.cps.toList.reverse.map fun c => (⟨#[c]⟩ : Str)).length := by
    rw [List.length_map, List.length_reverse]
    exact hl
  have key : ∀ (i : Nat) (v : Value), acc.toList[i]? = some v → ∃ (y : Str) (u : Tok), (x.cps.toList.reverse.map fun c => (⟨#[c]⟩ : Str))[i]? = some y ∧ v = .str y u := by
    intro i v hv
    have hv' : acc[i]? = some v := by simpa using hv
    obtain ⟨c, u, hc, rfl⟩ := hi i v hv'
    have hlt : i < x.length := by
      have := (Array.getElem?_eq_some_iff.mp hv').1
      omega
    have hlt' : i < x.cps.toList.length := hlt
    refine ⟨_, u, ?_, rfl⟩
    rw [List.getElem?_map, List.getElem?_reverse hlt']
    have e : x.cps.toList[x.cps.toList.length - 1 - i]? = some c := by
      have e2 : x.cps.toList.length = x.length := by simp [Str.length]
      rw [e2]
      simpa using hc
    rw [e]
    rfl
  generalize acc.toList = L at hL key
  generalize (x.cps.toList.reverse.map fun c => (⟨#[c]⟩ : Str)) = ys at hL key
  clear hl hi
  induction L generalizing ys with
  | nil =>
    cases ys with
    | nil => exact .nil
    | cons y r => simp at hL
  | cons v L ih =>
    cases ys with
    | nil => simp at hL
    | cons y ys =>
      obtain ⟨y', u, hy, rfl⟩ := key 0 v rfl
      have ey : y = y' := Option.some.inj hy
      subst ey
      exact .cons y u (ih _ (by simpa using hL) fun i v' hv => key (i + 1) v' (by simpa using hv))
/-- ''.join(what reads a text backwards) -/
theorem join_back {y : Str} {u : Tok} {Q : Value → Shared → Prop} (hh : A.handled = none) (hit : BackOf s.heap it x t ((x.length : Int) - 1)) (h0 : 1 ≤ x.length) (hz : x.length ≤ 1000) (hy : y.length ≤ 1000)
    (hQ : ∀ (h' : Heap) t' k, (∀ b o, b ≠ it → s.heap.get? b = some o → h'.get? b = some o) → Q (.str (Txt.join y (x.cps.toList.reverse.map fun c => (⟨#[c]⟩ : Str))) t') { s with heap := h', toks := k }) :
    wpAny (model prog w) A (call (.builtin "str.join") [.str y u, .ref it]) Q E s := by
  refine wpAny_call (codeAny_call_builtin F.slot_str_join.plain F.entry_str_join (F.slot_str_join.check _ _ _ _ _ _ _ _ (typeIs_str _ _ _) (F.args_str_join_2 _ _) ?_))
  rw [join_tree_other]
  refine wpAny_bind (wpAny_typeOf hit.typeIs ?_)
  show wpAny _ A.in1 ((pyIter (.ref it)).tryCatch _ >>= fun it => collect it >>= fun items => joinTail y items) _ _ s
  refine wpAny_bind (wpAny_tryCatch (self_back hit ?_))
  refine wpAny_bind (collect_back (A := A.in1) hh hit h0 hz fun h' tk acc hk hacc => ?_)
  obtain ⟨l, hl, ht⟩ := strsAre_values (strs_back hacc)
  rw [hl]
  have hsum : ((x.cps.toList.reverse.map fun c => (⟨#[c]⟩ : Str)).map (·.length)).sum + (x.cps.toList.reverse.map fun c => (⟨#[c]⟩ : Str)).length * y.length ≤ 16777216 := by
    have e1 : (x.cps.toList.reverse.map fun c => (⟨#[c]⟩ : Str)).length = x.length := by rw [List.length_map, List.length_reverse]; rfl
    have e2 : ((x.cps.toList.reverse.map fun c => (⟨#[c]⟩ : Str)).map (·.length)).sum = x.length := by
      rw [List.map_map]
      have : (x.cps.toList.reverse.map ((fun z : Str => z.length) ∘ fun c => (⟨#[c]⟩ : Str))) = x.cps.toList.reverse.map fun _ => 1 := rfl
      rw [this, List.map_const', List.sum_replicate_nat, List.length_reverse, Nat.mul_one]
      rfl
    rw [e1, e2]
    have : x.length * y.length ≤ 1000 * 1000 := Nat.mul_le_mul hz hy
    omega
  rw [← ht] at hsum
  have hok := joinOk_of hsum
  unfold JoinOk at hok
  rw [Bool.not_eq_true'] at hok
  have g : Gives (joinTail y (strValues l)) (joinMade y l) := by
    have g0 := gives_joinTail y l hok
    cases l with
    | nil => exact g0
    | cons p r => cases r with
      | nil => exact g0
      | cons q r' => exact g0
  refine g prog w A (wants Q E) _ (post_join l ⟨joinFit_length hok, fun t' k => ?_⟩)
  rw [ht]
  exact hQ h' t' k hk
end
/-! ### sep.join(reversed(a text)): sep first -/
def tJoinBack (to te : TE) : TE := fun σ H Q => to σ H fun x H1 => (∃ a : Str, x = .str a) ∧ te σ H1 fun v H2 => ∃ (a : Str) (l : List Nat), x = .str a ∧ v = .str (S l) ∧ 1 ≤ l.length ∧ l.length ≤ 1000 ∧ a.length ≤ 1000 ∧ Q (.str (Txt.join a (l.reverse.map fun c => S [c]))) H2
section
variable {X : Cx}
theorem pe_joinBack {o e : Expr} {to te : TE} {apos pos p pos2 : Pos} (hc : X.calm = true) (ho : PE X o to) (hg : Gl X "reversed") (hm : X.mg "reversed" = none) (he : PE X e te)
    (hs1 : starEach [.Call (.Name "reversed" p) [e] [] pos2] X.env = [(false, eval (.Call (.Name "reversed" p) [e] [] pos2) X.env)] := by rfl)
    (hs : starEach [e] X.env = (false, eval e X.env) :: starEach [] X.env := by rfl) (hbase : attributeBase o "join" X.env (eval o X.env) = eval o X.env := by rfl) (hline : (apos.endLine == pos.line) = true := by rfl) :
    PE X (.Call (.Attribute o "join" apos) [.Call (.Name "reversed" p) [e] [] pos2] [] pos) (tJoinBack to te) := by
  refine ⟨fun pins s σ H Q I h => ?_⟩
  refine PySem.Call_method1 hbase hs1 hline (thn (ho.run pins s σ H _ I h) fun v s1 ⟨x, H1, I1, r1, q1⟩ => ?_)
  obtain ⟨⟨a, rfl⟩, q1⟩ := q1
  obtain ⟨t, rfl⟩ := _root_.id r1
  refine ⟨"str", _, F.plainAttrs_str, F.slot_str_join, F.type_str_join, typeIs_str _ _ _, (fun _ e => nomatch e), Calls.callWith_builtin rfl (Calls.evalArgs_plain (Calls.spliced_cons ?_))⟩
  refine Call_ (ld_blt I1 hg hm PyProof.Rows.boot_reversed (PyProof.Rows.callWith_type1 (args_cons (thn (he.run pins s1 σ H1 _ I1 q1) fun u s2 ⟨z, H2, I2, r2, q2⟩ => args_nil ?_) hs) hs rfl))
  obtain ⟨a', l, ea, rfl, h0, hz, hy, q3⟩ := q2
  cases ea
  obtain ⟨t2, rfl⟩ := r2
  have hl : (S l).length = l.length := S_len l
  refine call_back (by rw [hl]; exact hz) (Calls.spliced_nil (join_back (I2.ok.hd hc) ⟨_, Heap.get?_push_size _ rfl, rfl, rfl⟩ (by rw [hl]; exact h0) (by rw [hl]; exact hz) hy fun h' t' k hk => ?_))
  refine ⟨V.str _, H2, I2.kept (t' := k) (fun b o e => hk b o (Nat.ne_of_lt (Heap.lt_size e)) (Heap.get?_push_of_some _ e)), ⟨t', rfl⟩, ?_⟩
  exact q3
end
theorem one_each : ∀ l : List Nat, (l.map fun c => [c]).flatten = l
  | [] => rfl
  | c :: l => by rw [List.map_cons, List.flatten_cons, one_each l]; rfl
theorem ev_joinBack {σ : L2.St} {H : Hp} {to te : TE} {l : List Nat} (h0 : Ev to σ H (.str (S []))) (h : Ev te σ H (.str (S l))) (hl : 1 ≤ l.length) (hz : l.length ≤ 1000) : Ev (tJoinBack to te) σ H (.str (S l.reverse)) := fun H1 e Q q =>
  h0 H1 e _ fun H2 e2 => ⟨⟨_, rfl⟩, h H2 (e.trans e2) _ fun H3 e3 => ⟨S [], l, rfl, rfl, hl, hz, by decide, by
    have e4 : (l.reverse.map fun c => S [c]) = (l.reverse.map fun c => [c]).map S := by rw [List.map_map]; rfl
    rw [e4, join_S, joinE, one_each]
    exact q H3 (e2.trans e3)⟩⟩
end Br
namespace Br
open PySem PySem.Spec PyProof.Rows L2 Evl SX

/-! ### defs that run where no display of a list is under way -/
structure FnG (P : Program) (w : World) (K : PySem.W.Frag) (mg : Str → Option Value) (base : Heap) (C : CXT) (k : Nat) (f : Addr) (fd : FuncData) (ps : List Str) (sp : Sp) : Prop where
  many : ∀ vs H Q E, sp vs H Q E → vs.length = ps.length
  runs : ∀ (A : Around) (out : List Env) (s : Shared) (H : Hp) (as : Args) (us : List Value) (vs : List V) (Q : VK) (E : XK), A.guards = some [] → Room k A → Env0 P w K mg base A out s H → BindsTo s fd as (ps.zip us) → Vals vs us → sp vs H Q E →
    codeAny (model P w) A (.call (.ref f) as) (CR C out P w H s Q E) s
def HasG (P : Program) (w : World) (K : PySem.W.Frag) (mg : Str → Option Value) (base : Heap) (C : CXT) (k : Nat) (x : Str) (ps : List Str) (sp : Sp) : Prop :=
  ∃ (f : Addr) (fd : FuncData), mg x = some (.ref f) ∧ PySem.W.keepIn K (.ref f) = true ∧ Binds K fd ps [] ∧ FnG P w K mg base C k f fd ps sp
section
variable {P : Program} {w : World} {K : PySem.W.Frag} {mg : Str → Option Value} {base : Heap}
theorem Fun.okG {x qual : Str} {st : Stmt} {f : Addr} {fd : FuncData} {N ps : List Str} {k : Nat} {sp : Sp} (F : Fun K x qual st f fd) (S : FnScope N ps (defScope st)) (many : ∀ vs H Q E, sp vs H Q E → vs.length = ps.length)
    (body : ∀ (cdv : Value) (A : Around) (out : List Env) (s : Shared) (H : Hp) (vs : List V) (Q : VK) (E : XK), A.guards = some [] → Room k (A.deeper (envOfC qual (defScope st) s.heap.objs.size f cdv)) → sp vs H Q E →
      ∃ t, PSs (cxOf CX0 P w K mg base N qual (defScope st) f cdv A out s H E).nox (defBody st) t ∧ t { nx := fun _ H' => Q .non H', rt := Q } (start N vs) H) : FnG P w K mg base CX0 (k + 1) f fd ps sp := by
  obtain ⟨oc, od, kV, doc, pm, an, cdv, ct, osl, rfl, lk, hcd⟩ := F.ex
  constructor
  · exact many
  · intro A out s H as us vs Q E hg hr e0 hb r hsp
    have same := many _ _ _ _ hsp
    have KX : K.In s.heap := e0.mod.kin.keeps fun b o e => (e0.bs b o e).1
    have nolim : s.heap.NoLimit := e0.mod.nolimit.keeps fun b o e => (e0.bs b o e).1
    have kinds : ∀ y ∈ ps.zip us, (defScope st).names.lookup y.1 = some .local ∨ ((defScope st).names.lookup y.1 = some .cell ∧ ((cellsFrom (s.heap.objs.size + 1) (defScope st).names []).lookup y.1).isSome = true) := by
      rintro ⟨n, v⟩ hy
      cases S.par n (List.of_mem_zip hy).1 with
      | inl z => exact .inl z
      | inr z => exact .inr ⟨z, PySem.W.cellsFrom_some _ _ _ (.inl z)⟩
    refine codeAny_call_function hr.depth (KX _ _ lk) rfl S.co S.gen rfl (PySem.W.codeRec_of KX hcd) (hb _ _ _ _ (wpAny_newFunctionEnv_cells S.kind kinds fun env he s1 z => ?_))
    subst he
    refine ⟨nolim.keeps z.toInCall.keep, codeAny_func ?_⟩
    obtain ⟨t, ht, hq⟩ := body cdv A out s H vs Q E hg (hr.deeper _) hsp
    have I : Inv (cxOf CX0 P w K mg base N qual (defScope st) f cdv A out s H E) [] (start N vs) H s1 := inv_start S hr.hd e0 same r z
    refine wpAny_mono (ht.nox.run [] s1 (start N vs) H _ I hq) (fun fl s' hs => ?_) fun _ _ z => z
    cases fl with
    | ret u =>
      obtain ⟨v, σ', H', J, rv, q⟩ := hs
      exact ⟨v, H', J.os, J.bare, J.base, J.hok, rv, q⟩
    | next =>
      obtain ⟨σ', H', J, q⟩ := hs
      exact ⟨V.non, H', J.os, J.bare, J.base, J.hok, rfl, q⟩
    | brk => exact hs.choose_spec.choose_spec.2.elim
    | cont => exact hs.choose_spec.choose_spec.2.elim
end
section
variable {X : Cx} {C : CXT} {k : Nat} {ps : List Str} {sp : Sp} {E : XK} {x : Str} {p pos : Pos} {e : Expr} {es : List Expr} {t : TA}
theorem pe_hasG (D : HasG X.prog X.w X.K X.mg X.base C k x ps sp) (hgd : X.A.guards = some []) (hr : Room k X.A) (hg : Gl X x) (hx : Passes C X E) (ha : PA X (e :: es) t)
    (hdb : (x == ("__debug__" : Str)) = false := by decide) (he : starEach (e :: es) X.env = (false, eval e X.env) :: starEach es X.env := by rfl) (hpl : (backTo pos (starEach es X.env)).any (·.1) = false := by rfl) :
    PE X (.Call (.Name x p) (e :: es) [] pos) (tCall sp [] E t) := by
  obtain ⟨f, fd, gm, kp, b, F⟩ := D
  constructor
  intro pins s σ H Q I h
  refine wpAny_Call_Name_kw (ld_glob I hg gm (PySem.W.callWith_K (h₀ := X.base) I.ok.mod.kin kp (thn (ha.run pos pins s σ H _ I h) fun us s1 z => ?_) he hpl) hdb)
  obtain ⟨vs, H1, I1, r, q⟩ := z
  rw [List.append_nil] at q
  have same : us.length = ps.length := r.length.symm.trans (F.many _ _ _ _ q)
  refine ⟨I1.kIn, wpAny_call (codeAny_mono (F.runs X.A X.stack s1 H1 ⟨us, []⟩ us vs Q E hgd hr I1.env0 ?_ r q) fun r' s' hq => ?_)⟩
  · have := b s1 us I1.kIn (by rw [List.append_nil]; exact same)
    rw [List.append_nil] at this
    exact this
  · match r', hq with
    | .error e, hq => exact hx pins σ H1 s1 e s' I1 hq
    | .ok (.ret u), hq => exact I1.after hq
    | .ok .next, hq => exact hq.elim
    | .ok .brk, hq => exact hq.elim
    | .ok .cont, hq => exact hq.elim
/-- repr of what is told by data -/
def rReprD (K : PySem.W.Frag) : List V → Hp → VK → Prop := fun xs H Q => ∃ v d, xs = [v] ∧ Dp K H v d ∧ PyData.showable d = true ∧ d.hasDict = false ∧ d.depth ≤ 8 ∧ d.shown.length ≤ sizeLine ∧ (∃ a, v = .ref a) ∧ Q (.str d.shown) H
theorem call_reprD (hgd : X.A.guards = some []) (hu : X.A.units + 64 < cLine) : CallR X (.builtin "repr") (rReprD X.K) := by
  intro pins s σ H xs us Q I r h
  obtain ⟨v, d, rfl, hd, h1, h2, h3, h4, ⟨a, rfl⟩, q⟩ := h
  obtain ⟨u, rfl, ru⟩ := vals1 r
  obtain ⟨as, rd⟩ := Dp.reads I d (.ref a) u hd ru
  cases ru
  exact repr_of_reads' rd h1 (fun z => by rw [h2] at z; cases z) hgd (by omega) (fun _ _ e => e) (fun h' u tk hk => ⟨.str _, H, I.kept (t' := tk) hk, ⟨u, rfl⟩, q⟩) h4
end
end Br
namespace Br
open PySem PySem.Spec PyProof.Rows L2 Evl SX

/-! ### the head, for a law that knows that no display is under way -/
/-- where at most the script is tracked: its call, by its promise -/
theorem headAt {P : Program} {w : World} {K : PySem.W.Frag} {mg mb : Str → Option Value} {k : Nat} {f a : Addr} {fd : FuncData} {x : Str} {sp : Sp} {s : Shared} {vs : List Value} {H : Hp}
    (inK : K.In s.heap) (nsM : s.heap.Ns mainGlobals mg) (nsB : s.heap.Ns builtinsNs mb) (boot : ∀ x : Str, x ≠ "__name__" → mb x = bootBuiltins x) (nolim : s.heap.NoLimit) (nogen : s.gens = #[]) (there : s.heap.get? a = some { cls := .type "list", data := .seq vs.toArray })
    (room : Room k callerA) (F : ∀ base : Heap, K.In base → base.Ns mainGlobals mg → FnG P w K mg base CX0 k f fd [x] sp) (binds : ∀ (s : Shared) (u : Value), BindsTo s fd ⟨[u], []⟩ [(x, u)])
    (only : Only H) (ok : HOk P w H s.heap) (atA : ∀ b, H b ≠ none → b = a) (notK : H a ≠ none → K.lookup a = none) (asked : sp [.ref a] H (fun v _ => v = .bl true) fun _ _ _ => False) :
    codeAny (model P w) callerA (.call (.ref f) ⟨[.ref a], []⟩) (fun r s' => r = .ok (.ret (.bool true)) ∧ OldK s.heap s'.heap ∧ s'.os = s.os ∧ AllBare s'.gens) s := by
  have untr : ∀ {b : Addr} {o : Obj}, s.heap.get? b = some o → b ≠ a → H b = none := fun {b o} _ hb => Classical.byContradiction fun z => hb (atA b z)
  have dict : ∀ {b : Addr} {o : Obj} {es : Array DictEntry} {ep : Nat}, s.heap.get? b = some o → o.data = .dict es ep → H b = none := fun {b o es ep} e d => untr e fun z => by
    rw [z, there] at e
    obtain rfl := Option.some.inj e
    cases (show Data.seq vs.toArray _ = Data.dict es ep from d)
  have names : ∀ {b : Addr} {m : Str → Option Value}, s.heap.Ns b m → (hidT s.heap H).Ns b m := fun {b m} ⟨o, es, ep, e, d, r⟩ => ⟨o, es, ep, hidT_get e (dict e d), d, r⟩
  have inB : K.In (hidT s.heap H) := fun b o e => hidT_get (inK b o e) <| Classical.byContradiction fun z => by
    obtain rfl := atA b z
    rw [notK z] at e
    cases e
  have modul : Mod K mg (hidT s.heap H) := ⟨inB, names nsM, ⟨mb, names nsB, boot⟩, by
    obtain ⟨mc, h1, h2⟩ := nolim
    exact ⟨mc, names h1, h2⟩⟩
  have env : Env0 P w K mg (hidT s.heap H) callerA [] s H := ⟨rfl, modul, fun b o e => of_hidT e, Nat.le_of_eq (hidT_size _ _), trivial, fun b z => absurd (show b ∈ ([] : List Addr) from z) (by simp), ok, .of_eq nogen⟩
  refine codeAny_mono ((F _ inB (names nsM)).runs callerA [] s H ⟨[.ref a], []⟩ [.ref a] [.ref a] _ _ rfl room env (binds s (.ref a)) (.cons rfl .nil) asked) fun r s' z => ?_
  match r, z with
  | .error e, z => exact z.elim
  | .ok .next, z => exact z.elim
  | .ok .brk, z => exact z.elim
  | .ok .cont, z => exact z.elim
  | .ok (.ret u), ⟨v, H', os, bare, un, ok', ru, ans⟩ =>
    obtain rfl : v = .bl true := ans
    obtain rfl : u = Value.bool true := ru
    refine ⟨rfl, OldK.of_keep fun b o e => ?_, os, bare⟩
    by_cases hn : H b = none
    · exact un.keep b o e hn (fun z => absurd (show b ∈ ([] : List Addr) from z) (by simp)) (by simp)
    · obtain ⟨ob, xs, hb⟩ := (only b).resolve_left hn
      have e1 := (ok b _ hb).1
      have e2 := (ok' b _ (un.frzs b ob _ hb)).1
      rw [e] at e1
      obtain rfl := Option.some.inj e1
      exact e2
theorem headG {P : Program} {w : World} {K : PySem.W.Frag} {mg mb : Str → Option Value} {k : Nat} {f a : Addr} {fd : FuncData} {x : Str} {sp : Sp} {s : Shared} {vs : List Value} {ns : List Int}
    (inK : K.In s.heap) (nsM : s.heap.Ns mainGlobals mg) (nsB : s.heap.Ns builtinsNs mb) (boot : ∀ x : Str, x ≠ "__name__" → mb x = bootBuiltins x) (nolim : s.heap.NoLimit) (nogen : s.gens = #[]) (there : s.heap.get? a = some { cls := .type "list", data := .seq vs.toArray })
    (nums : IntsAre vs ns) (fits : ns.length ≤ sizeLine) (room : Room k callerA) (F : ∀ base : Heap, K.In base → base.Ns mainGlobals mg → FnG P w K mg base CX0 k f fd [x] sp) (binds : ∀ (s : Shared) (u : Value), BindsTo s fd ⟨[u], []⟩ [(x, u)])
    (asked : ∀ H : Hp, Only H → SqL K H a (ns.map V.int) → sp [.ref a] H (fun v _ => v = .bl true) fun _ _ _ => False) :
    codeAny (model P w) callerA (.call (.ref f) ⟨[.ref a], []⟩) (fun r s' => r = .ok (.ret (.bool true)) ∧ OldK s.heap s'.heap ∧ s'.os = s.os ∧ AllBare s'.gens) s := by
  have vals := vals_ints nums
  have size := nums.length
  cases hk : K.lookup a with
  | some o =>
    have e := inK a o hk
    rw [there] at e
    obtain rfl := Option.some.inj e
    have nowhere : Only (fun _ => none) := fun _ => .inl rfl
    refine headAt (H := fun _ => none) inK nsM nsB boot nolim nogen there room F binds nowhere (fun b u z => nomatch z) (fun b z => absurd rfl z) (fun z => absurd rfl z) (asked _ nowhere (.inr ⟨_, vs.toArray, _, hk, rfl, rfl, rfl, ?_, ?_⟩))
    · rw [List.size_toArray, size]
      exact fits
    · simpa using vals
  | none =>
    let H : Hp := fun b => if b = a then some (.frz { cls := .type "list", data := .seq vs.toArray } (.lst (ns.map V.int))) else none
    have ha : H a = some (.frz { cls := .type "list", data := .seq vs.toArray } (.lst (ns.map V.int))) := if_pos rfl
    have no : ∀ b, b ≠ a → H b = none := fun b hb => if_neg hb
    have only : Only H := fun b => by
      by_cases hb : b = a
      · rw [hb]
        exact .inr ⟨_, _, ha⟩
      · exact .inl (no b hb)
    refine headAt inK nsM nsB boot nolim nogen there room F binds only (fun b u z => ?_) (fun b z => Classical.byContradiction fun hb => z (no b hb)) (fun _ => hk) (asked H only (.inl (.inr ⟨_, ha⟩)))
    by_cases hb : b = a
    · subst hb
      rw [ha] at z
      obtain rfl := Option.some.inj z
      exact ⟨there, by rw [List.length_map]; exact fits, vs, _, vals, there⟩
    · rw [no b hb] at z
      cases z
theorem walkG {l : PySem.W.OpenLaw} {n k : Nat} {q : Program} {loose : List Str} {XP : (Str → Option Value) → Heap → Prop} {YP : World → Heap → Prop} {d : DefRec} {K : Params → PySem.W.Frag} {sp : PySem.W.Frag → Sp} {x : Str}
    (hn : l.most = some n) (hn2 : n ≤ sizeLine) (hdf : d.params.defaults = []) (hr : Room k callerA) (hY : ∀ (w : World) (h : Heap), YP w h → (K w.params).In h)
    (F : ∀ (w : World) (mg : Str → Option Value) (fa : Addr) (h : Heap), (K w.params).In h → h.Ns mainGlobals mg → mg d.name = some (.ref fa) →
      ∃ fd : FuncData, (∀ (s : Shared) (u : Value), BindsTo s fd ⟨[u], []⟩ [(x, u)]) ∧ ∀ base : Heap, (K w.params).In base → base.Ns mainGlobals mg → FnG l.prog w (K w.params) mg base CX0 k fa fd [x] (sp (K w.params)))
    (hsp : ∀ (K : PySem.W.Frag) (H : Hp) (a : Addr) (ns : List Int), ns.length ≤ n → Only H → SqL K H a (ns.map V.int) → sp K [.ref a] H (fun v _ => v = .bl true) fun _ _ _ => False) :
    PySem.W.WalkO q loose XP YP l.row.toRowW d [] (fun f vs => PySem.call f vs) := by
  refine Att.attach_call hn hdf fun w s₀ s₁ mg mb fa o pm cd doc a vs ns G Y ho hd hcd hmg hobj hints hlen hg => ?_
  have KX := hY w _ Y
  obtain ⟨fd, hb, hF⟩ := F w mg fa _ KX G.T.g hmg
  exact headG KX G.T.g G.T.b G.T.builtins G.T.nolimit hg hobj hints (Nat.le_trans hlen hn2) hr hF hb fun H hO hS => hsp _ H a ns hlen hO hS
end Br
namespace Br
open PySem PySem.Spec PyProof.Rows L2 Evl SX

/-! ### what is told by repr -/
theorem text_from_len : ∀ (ts : List Str) (k : Nat) (acc : Str), (textFrom k acc ts).length ≤ acc.length + (ts.map fun t => t.length + 2).sum
  | [], k, acc => Nat.le_add_right _ _
  | t :: r, k, acc => by
    have h := text_from_len r (k + 1) (acc ++ (if k > 0 then ", " else "" : String) ++ t)
    have e : (acc ++ (if k > 0 then ", " else "" : String) ++ t).length ≤ acc.length + 2 + t.length := by
      rw [strLen_append, strLen_append]
      split
      · exact Nat.le_refl _
      · exact Nat.add_le_add_right (Nat.add_le_add_left (Nat.zero_le _) _) _
    rw [List.map_cons, List.sum_cons]
    show (textFrom (k + 1) _ r).length ≤ _
    omega
theorem list_text_len (ts : List Str) : (listText ts).length ≤ (ts.map fun t => t.length + 2).sum + 2 := by
  have h := text_from_len ts 0 "["
  unfold listText
  rw [strLen_append]
  have e1 : ((Str.ofString "[") : Str).length = 1 := by decide +kernel
  have e2 : ((Str.ofString "]") : Str).length = 1 := by decide +kernel
  have h' : (textFrom 0 (Str.ofString "[") ts).length ≤ (Str.ofString "[").length + (ts.map fun t => t.length + 2).sum := h
  rw [e1] at h'
  show (textFrom 0 (Str.ofString "[") ts).length + (Str.ofString "]").length ≤ _
  rw [e2]
  omega
theorem shown_word {l : List Nat} (h : okS l = true) : (reprText (S l)).length ≤ 602 := by
  obtain ⟨w1, w2, w3⟩ := word_ok h
  have z := PySem.StrLaws.reprText_len (S l) fun c hc => by
    have := lays_word w3 c hc
    omega
  have h2 : (S l).length = l.length := S_len l
  have z' : (reprText (S l)).length ≤ 10 * (S l).length + 2 := z
  omega
theorem shown_all : ∀ ls : List (List Nat), PyData.shownAll (ls.map dS) = ls.map fun l => reprText (S l)
  | [] => by simp [PyData.shownAll]
  | l :: ls => by
    rw [List.map_cons]
    unfold PyData.shownAll
    rw [shown_all ls]
    simp [dS, PyData.shown]
theorem shown_words : ∀ {ls : List (List Nat)}, (∀ l ∈ ls, okS l = true) → ((ls.map fun l => reprText (S l)).map fun t => t.length + 2).sum ≤ 604 * ls.length
  | [], _ => Nat.le_refl _
  | l :: ls, h => by
    have h1 := shown_word (h l List.mem_cons_self)
    have h2 := shown_words fun m hm => h m (List.mem_cons_of_mem _ hm)
    rw [List.map_cons, List.map_cons, List.sum_cons, List.length_cons]
    omega
theorem showable_all : ∀ ls : List (List Nat), PyData.showableAll (ls.map dS) = true
  | [] => by simp [PyData.showableAll]
  | l :: ls => by
    rw [List.map_cons]
    unfold PyData.showableAll
    rw [showable_all ls]
    simp [dS, PyData.showable]
theorem nodict_all : ∀ ls : List (List Nat), PyData.hasDictAll (ls.map dS) = false
  | [] => by simp [PyData.hasDictAll]
  | l :: ls => by
    rw [List.map_cons]
    unfold PyData.hasDictAll
    rw [nodict_all ls]
    simp [dS, PyData.hasDict]
section
variable {K : PySem.W.Frag} {σ : L2.St} {H H' : Hp} {ta tb tc te tx : TE} {t : TT} {x y z v : V} {P : V → Hp → Prop}
theorem ev_reprD {p : Addr} {ls : List (List Nat)} (h : Ev te σ H (.ref p)) (hp : H p = some (.lst (ls.map sV))) (hw : ∀ l ∈ ls, okS l = true) (hl : ls.length ≤ 60) : Ev (tCB (rReprD K) (tCons te tNil)) σ H (.str (PyData.list (ls.map dS)).shown) :=
  ev_cb (ea_cons h ea_nil) fun H1 e _ q => ⟨.ref p, .list (ls.map dS), rfl, .lst (sq_of (e p _ hp)) (dpa_strs ls), by
    unfold PyData.showable
    exact showable_all ls, by
    unfold PyData.hasDict
    exact nodict_all ls, by
    unfold PyData.depth
    rw [deep_strs]
    decide, by
    unfold PyData.shown
    rw [shown_all]
    refine Nat.le_trans (list_text_len _) ?_
    have := shown_words hw
    refine Nat.le_trans (Nat.add_le_add_right this 2) (Nat.le_trans (Nat.add_le_add_right (Nat.mul_le_mul_left 604 hl) 2) (by decide)), ⟨p, rfl⟩, q H1 (Ex.refl H1)⟩
/-- a comprehension over the signs of a text -/
theorem el_lcS {l : List Nat} {j : Nat} {vs : List Nat} (f : Nat → Bool) (w : Nat → V) (h : Ev tx σ H (.str (S l))) (hl : l.length ≤ 40000) (hw : ∀ x, wipe ((wipe σ vs).set j (some x)) vs = wipe σ vs)
    (ht : ∀ (i c : Nat) H1, Ex H H1 → l[i]? = some c → EvT t ((wipe σ vs).set j (some (.str (S [c])))) H1 (f i)) (he : ∀ (i c : Nat) H1, Ex H H1 → l[i]? = some c → f i = true → Ev te ((wipe σ vs).set j (some (.str (S [c])))) H1 (w i)) :
    EvL (tLc (iStr tx) (gName j) t te vs) σ H (given l.length f w) := fun H0 e Q q => h H0 e _ fun H1 e1 => ⟨S l, rfl, fun Dl hD =>
    lc_it (walk_str (z := S l)) (Cw H1 f w Dl) ⟨hD, Ex.new hD, upd_same⟩ (fun _ _ _ _ => True.intro)
      (fun i v H3 H4 hi c y => by
        obtain ⟨rfl, ch, hc, rfl⟩ := y
        have hc' : l[i]? = some ch := by simpa using hc
        have hlt : i < l.length := (List.getElem?_eq_some_iff.mp hc').1
        refine ⟨hw _, ?_⟩
        exact cw_turn c (by omega) (ht i ch H1 (e.trans e1) hc') (fun hf => he i ch H1 (e.trans e1) hc' hf))
      (fun H3 c => q Dl H3 (fresh_back e1 c.1) (e1.trans c.2.1) (by
        have hs : (S l).cps.size = l.length := by simp
        rw [← hs]
        exact c.2.2))⟩
/-- a choice by a test -/
theorem ev_ifX {b : Bool} (h : EvT t σ H b) (h1 : b = true → Ev ta σ H v) (h2 : b = false → Ev tb σ H v) : Ev (tIf t ta tb) σ H v := fun H1 e Q q => h H1 e _ fun H2 e2 => by
  cases b with
  | true =>
    show (if true = true then _ else _)
    rw [if_pos rfl]
    exact h1 rfl H2 (e.trans e2) _ fun H3 e3 => q H3 (e2.trans e3)
  | false =>
    show (if false = true then _ else _)
    rw [if_neg Bool.false_ne_true]
    exact h2 rfl H2 (e.trans e2) _ fun H3 e3 => q H3 (e2.trans e3)
/-- one of the items of a list that stands and of a new one -/
theorem ep_pickCat {tl : TA} {p : Addr} {xs : List V} {n : Nat} {i : Int} (mono : ∀ v H1 H2, Ex H1 H2 → P v H1 → P v H2) (ha : Ev ta σ H (.ref p)) (hp : H p = some (.lst xs)) (hx : ∀ v ∈ xs, P v H) (h : EvAll tl σ H n P) (hb : ∀ H1, Ex H H1 → Ev tb σ H1 (.int i)) (hn : xs.length + n ≤ 1000)
    (h0 : 0 ≤ i) (h1 : i < xs.length + n) : EvP (tOp (rIxL K) (tOp rCat ta (tLst tl)) tb) σ H P := fun H1 e Q q =>
  ha H1 e _ fun H2 e2 => h H2 (e.trans e2) _ fun vs H3 e3 hl hv => ⟨sz_of (by omega), fun r hr => by
    have e4 := (e.trans e2).trans e3
    refine ⟨p, r, xs, vs, rfl, rfl, (Ex.new hr) p _ (e4 p _ hp), upd_same, sz_of (by omega), fun s hs => ?_⟩
    have e5 := (Ex.new (o := .lst vs) hr).trans (Ex.new (o := .lst (xs ++ vs)) hs)
    refine hb _ (e4.trans e5) _ (Ex.refl _) _ fun H6 e6 => ?_
    have hlt : i.toNat < (xs ++ vs).length := by rw [List.length_append]; omega
    have at_ : atI (xs ++ vs) i = some (xs ++ vs)[i.toNat] := atI_get h0 (by rw [List.length_append]; omega)
    refine ⟨s, xs ++ vs, i, _, rfl, rfl, sq_of (e6 s _ upd_same), at_, q _ H6 ((e2.trans e3).trans (e5.trans e6)) ?_⟩
    rcases List.mem_append.mp (List.getElem_mem hlt) with hm | hm
    · exact mono _ H H6 (e4.trans (e5.trans e6)) (hx _ hm)
    · exact mono _ H3 H6 (e5.trans e6) (hv _ hm)⟩
end
/-! ### whole numbers and things that are none -/
def BadI (K : PySem.W.Frag) (v : V) (H : Hp) : Prop := ThI K H v ∧ isWholeV v = false
theorem BadI.mono {K : PySem.W.Frag} (v : V) (H1 H2 : Hp) (e : Ex H1 H2) (h : BadI K v H1) : BadI K v H2 := ⟨h.1.mono e, h.2⟩
section
variable {K : PySem.W.Frag} {H2 : Hp}
theorem bad_non : BadI K .non H2 := ⟨.inr (.inr ⟨"NoneType", .base .non, by decide +kernel, fun _ h => nomatch h⟩), rfl⟩
theorem bad_bl {b : Bool} : BadI K (.bl b) H2 := ⟨.inr (.inl ⟨b, rfl⟩), rfl⟩
theorem bad_str {z : Str} : BadI K (.str z) H2 := ⟨.inr (.inr ⟨"str", .base (.str z), by decide +kernel, fun _ h => nomatch h⟩), rfl⟩
theorem bad_lst {p : Addr} {xs : List V} (h : H2 p = some (.lst xs)) : BadI K (.ref p) H2 := ⟨.inr (.inr ⟨"list", .base (.lst h), by decide +kernel, fun _ h => nomatch h⟩), rfl⟩
theorem bad_tup {p : Addr} {xs : List V} (h : H2 p = some (.tup xs)) : BadI K (.ref p) H2 := ⟨.inr (.inr ⟨"tuple", .base (.tup h), by decide +kernel, fun _ h => nomatch h⟩), rfl⟩
theorem bad_dct {p : Addr} (h : H2 p = some (.dK [])) : BadI K (.ref p) H2 := ⟨.inr (.inr ⟨"dict", .base (.dK h), by decide +kernel, fun _ h => nomatch h⟩), rfl⟩
end
/-- any thing, its signs in Python -/
def Any (K : PySem.W.Frag) (v : V) (H : Hp) : Prop := ThS K H v ∧ ∀ l, v = .str (S l) → Lays l ∧ l.length ≤ 1000
theorem Any.mono {K : PySem.W.Frag} (v : V) (H1 H2 : Hp) (e : Ex H1 H2) (h : Any K v H1) : Any K v H2 := ⟨h.1.mono e, h.2⟩
theorem any_txt {K : PySem.W.Frag} {H : Hp} {l : List Nat} (h : Lays l) (hl : l.length ≤ 1000) : Any K (.str (S l)) H := ⟨.inl ⟨l, rfl, by omega⟩, fun m e => by
  have e' : l = m := S_inj (V.str.inj e)
  subst e'
  exact ⟨h, hl⟩⟩
theorem any_odd {K : PySem.W.Frag} {v : V} {H : Hp} (h : Odd K v H) (n : ∀ z, v ≠ .str z) : Any K v H := ⟨h.1, fun l e => absurd e (n _)⟩
theorem lays_app {a b : List Nat} (h1 : Lays a) (h2 : Lays b) : Lays (a ++ b) := fun c hc => by
  rcases List.mem_append.mp hc with hc | hc
  · exact h1 c hc
  · exact h2 c hc
theorem one_low {c : Nat} : ([c] : List Nat) < [97] ↔ c < 97 := by
  rw [List.cons_lt_cons_iff]
  simp
theorem one_high {c : Nat} : ([104] : List Nat) < [c] ↔ 104 < c := by
  rw [List.cons_lt_cons_iff]
  simp
/-- the signs that are no letters -/
def noLet (l : List Nat) (i : Nat) : Bool := !(!decide ([l.getD i 0] < [97]) && !decide ([104] < [l.getD i 0]))
theorem no_lets (l : List Nat) : ((List.range l.length).filter (noLet l)).isEmpty = l.all fun c => decide (c ∈ [97, 98, 99, 100, 101, 102, 103, 104]) := by
  rw [Bool.eq_iff_iff, List.isEmpty_iff, List.filter_eq_nil_iff, List.all_eq_true]
  constructor
  · intro h c hc
    obtain ⟨i, hi, rfl⟩ := List.getElem_of_mem hc
    have z := h i (List.mem_range.mpr hi)
    unfold noLet at z
    rw [List.getD_eq_getElem?_getD, List.getElem?_eq_getElem hi] at z
    simp only [Option.getD_some, one_low, one_high] at z
    simp at z
    simp
    omega
  · intro h i hi
    have hi := List.mem_range.mp hi
    have z := h _ (List.getElem_mem hi)
    unfold noLet
    rw [List.getD_eq_getElem?_getD, List.getElem?_eq_getElem hi]
    simp only [Option.getD_some, one_low, one_high]
    simp at z
    simp
    omega
end Br
namespace Br
open PySem PySem.Spec PyProof.Rows L2 Evl SX

/-! ### mirrors -/
theorem rev_turn {l : List Nat} {k : Nat} (hk : k ≤ l.length) : (turnL l k).reverse = turnL l.reverse (l.length - k) := by
  unfold turnL
  rw [List.reverse_append, List.drop_reverse, List.take_reverse]
  congr 2
  · rw [show l.length - (l.length - k) = k by omega]
  · rw [show l.length - (l.length - k) = k by omega]
theorem least_rev_turn {l m : List Nat} {k : Nat} (hk : k < l.length) : IsLeast (turnL l k).reverse m ↔ IsLeast l.reverse m := by
  rw [rev_turn (Nat.le_of_lt hk)]
  by_cases h : k = 0
  · rw [h, show l.length - 0 = l.reverse.length by rw [List.length_reverse]; omega, turn_full]
  · exact least_turn (by rw [List.length_reverse]; omega)
/-- the mirror's mirror -/
theorem mirror_twice {l m : List Nat} (h : IsLeast l.reverse m) {r : List Nat} : IsLeast m.reverse r ↔ IsLeast l r := by
  obtain ⟨k, hk, rfl⟩ := mem_turns.mp h.1
  rw [least_rev_turn hk, List.reverse_reverse]

/-! ### rings -/
def Ring (l : List Nat) : Prop := ∀ k, k < l.length → ¬ turnL l k < l
theorem ring_least {l : List Nat} (hl : 0 < l.length) : Ring l ↔ IsLeast l l := by
  constructor
  · intro h
    refine ⟨mem_turns.mpr ⟨0, hl, (turn_zero l).symm⟩, fun t ht => ?_⟩
    obtain ⟨k, hk, rfl⟩ := mem_turns.mp ht
    exact h k hk
  · intro h k hk
    exact h.2 _ (mem_turns.mpr ⟨k, hk, rfl⟩)
theorem lt_same {a b : List Nat} (hl : a.length = b.length) (h : a < b) (c d : List Nat) : a ++ c < b ++ d := by
  refine lt_apps h (fun hp => ?_) c d
  have e := hp.eq_of_length hl
  rw [e] at h
  exact absurd h (List.lt_irrefl _)
/-- nothing is greater than the top letter alone -/
theorem top_max {T : Nat} : ∀ {w : List Nat}, (∀ c ∈ w, c ≤ T) → ¬ List.replicate w.length T < w
  | [], _ => fun h => by cases h
  | c :: w, h => fun z => by
    rw [List.length_cons, List.replicate_succ, List.cons_lt_cons_iff] at z
    have hc := h c List.mem_cons_self
    rcases z with z | ⟨_, z⟩
    · omega
    · exact top_max (fun d hd => h d (List.mem_cons_of_mem _ hd)) z
theorem top_eq {T : Nat} {w : List Nat} (h : ∀ c ∈ w, c ≤ T) (h2 : ¬ w < List.replicate w.length T) : w = List.replicate w.length T := lt_tri h2 (top_max h)
/-- a ring that begins with the top letter has no other -/
theorem head_top {T : Nat} {u : List Nat} (hr : Ring (T :: u)) (h : ∀ c ∈ T :: u, c ≤ T) : T :: u = List.replicate (u.length + 1) T := by
  have all : ∀ c ∈ T :: u, c = T := by
    intro c hc
    obtain ⟨k, hk, rfl⟩ := List.getElem_of_mem hc
    have hle := h _ hc
    have z := hr k hk
    by_cases e : (T :: u)[k] = T
    · exact e
    · exfalso
      refine z ?_
      unfold turnL
      rw [List.drop_eq_getElem_cons hk]
      show (T :: u)[k] :: _ < T :: u
      rw [List.cons_lt_cons_iff]
      exact .inl (by omega)
  exact List.eq_replicate_iff.mpr ⟨rfl, all⟩
theorem ring_rep (n T : Nat) : Ring (List.replicate n T) := fun k hk z => by
  have e : turnL (List.replicate n T) k = List.replicate n T := by
    rw [List.length_replicate] at hk
    unfold turnL
    rw [List.drop_replicate, List.take_replicate, List.replicate_append_replicate]
    congr 1
    omega
  rw [e] at z
  exact absurd z (List.lt_irrefl _)
/-- where a ring begins so, the top letters behind it make one too -/
theorem ring_top {a z : List Nat} {T : Nat} (ha : 0 < a.length) (h : Ring (a ++ z)) (hT : ∀ c ∈ a ++ z, c ≤ T) : Ring (a ++ List.replicate z.length T) := by
  have haT : ∀ c ∈ a, c ≤ T := fun c hc => hT c (List.mem_append_left _ hc)
  have hzT : ∀ c ∈ z, c ≤ T := fun c hc => hT c (List.mem_append_right _ hc)
  -- where the top letter is the first, all are
  have first : a[0]'ha = T → Ring (a ++ List.replicate z.length T) := by
    intro e
    match a, ha, e, h, hT with
    | c :: a, _, e, h, hT =>
      have e : c = T := e
      subst e
      have z1 : c :: (a ++ z) = List.replicate ((a ++ z).length + 1) c := head_top h hT
      have z2 : z = List.replicate z.length c := List.eq_replicate_iff.mpr ⟨rfl, fun d hd => by
        have : d ∈ c :: (a ++ z) := List.mem_cons_of_mem _ (List.mem_append_right _ hd)
        rw [z1] at this
        exact (List.mem_replicate.mp this).2⟩
      rw [← z2]
      exact h
  by_cases e0 : a[0]'ha = T
  · exact first e0
  have lt0 : a[0]'ha < T := by
    have := haT _ (List.getElem_mem ha)
    omega
  intro k hk hlt
  by_cases k0 : k = 0
  · rw [k0, turn_zero] at hlt
    exact absurd hlt (List.lt_irrefl _)
  rw [List.length_append, List.length_replicate] at hk
  by_cases hka : k < a.length
  · have e1 : turnL (a ++ List.replicate z.length T) k = a.drop k ++ (List.replicate z.length T ++ a.take k) := by
      unfold turnL
      rw [List.drop_append_of_le_length (Nat.le_of_lt hka), List.take_append_of_le_length (Nat.le_of_lt hka), List.append_assoc]
    have e2 : turnL (a ++ z) k = a.drop k ++ (z ++ a.take k) := by
      unfold turnL
      rw [List.drop_append_of_le_length (Nat.le_of_lt hka), List.take_append_of_le_length (Nat.le_of_lt hka), List.append_assoc]
    have ea : a = a.take (a.length - k) ++ a.drop (a.length - k) := (List.take_append_drop _ _).symm
    have hl : (a.drop k).length = (a.take (a.length - k)).length := by
      rw [List.length_drop, List.length_take]
      omega
    have s1 : ∀ y, a ++ y = a.take (a.length - k) ++ (a.drop (a.length - k) ++ y) := fun y => by
      rw [← List.append_assoc, List.take_append_drop]
    have h2 := h k (by rw [List.length_append]; omega)
    rw [e2, s1 z] at h2
    rw [e1, s1] at hlt
    rcases same_len hl hlt with hc | ⟨heq, hc⟩
    · exact h2 (lt_same hl hc _ _)
    · rw [heq, app_lt] at h2
      -- b, the last letters
      have hb : (a.drop (a.length - k)).length = k := by
        rw [List.length_drop]
        omega
      generalize hbe : a.drop (a.length - k) = b at h2 hc hb
      have hbT : ∀ c ∈ b, c ≤ T := fun c hm => haT c (List.mem_of_mem_drop (by rw [hbe]; exact hm))
      -- what stands first is top letters alone
      have ey : b ++ List.replicate z.length T = (b ++ List.replicate z.length T).take z.length ++ (b ++ List.replicate z.length T).drop z.length := (List.take_append_drop _ _).symm
      rw [ey] at hc
      have hyl : ((b ++ List.replicate z.length T).take z.length).length = z.length := by
        rw [List.length_take, List.length_append, List.length_replicate]
        omega
      have hyT : ∀ c ∈ (b ++ List.replicate z.length T).take z.length, c ≤ T := fun c hm => by
        rcases List.mem_append.mp (List.mem_of_mem_take hm) with hm | hm
        · exact hbT c hm
        · rw [(List.mem_replicate.mp hm).2]
          exact Nat.le_refl _
      rcases same_len (by rw [List.length_replicate, hyl]) hc with hc | ⟨heq2, hc⟩
      · have z0 := top_max hyT
        rw [hyl] at z0
        exact z0 hc
      · by_cases hzk : z.length ≤ k
        · -- z itself is top letters alone
          have e3 : b.take z.length = List.replicate z.length T := by
            rw [heq2, List.take_append_of_le_length (by omega)]
          have ez : z = List.replicate z.length T := by
            refine top_eq hzT fun hz => h2 ?_
            have e4 : b ++ z = b.take z.length ++ (b.drop z.length ++ z) := by rw [← List.append_assoc, List.take_append_drop]
            rw [e4, e3]
            exact lt_same (by rw [List.length_replicate]) hz _ _
          rw [← ez] at hlt
          have h3 := h k (by rw [List.length_append]; omega)
          rw [e2, s1 z] at h3
          exact h3 hlt
        · -- the last letters are top letters alone, so all are
          have e3 : b = List.replicate k T := by
            have z0 : b = ((b ++ List.replicate z.length T).take z.length).take k := by
              rw [List.take_take, Nat.min_eq_left (by omega), ← hb, List.take_left]
            rw [z0, ← heq2, List.take_replicate, Nat.min_eq_left (by omega)]
          have all : ∀ (j i : Nat), (hi : i < a.length) → a.length - i ≤ j → a[i] = T := by
            intro j
            induction j with
            | zero => intro i hi hj; omega
            | succ j ih =>
              intro i hi hj
              by_cases hik : a.length - k ≤ i
              · have z1 : (a.drop (a.length - k))[i - (a.length - k)]? = some a[i] := by
                  rw [List.getElem?_drop, show a.length - k + (i - (a.length - k)) = i by omega, List.getElem?_eq_getElem hi]
                rw [hbe, e3, List.getElem?_replicate, if_pos (by omega)] at z1
                exact (Option.some.inj z1).symm
              · have z1 : (a.drop k)[i]? = (a.take (a.length - k))[i]? := by rw [heq]
                rw [List.getElem?_drop, List.getElem?_take, if_pos (by omega), List.getElem?_eq_getElem hi, List.getElem?_eq_getElem (show k + i < a.length by omega)] at z1
                rw [← Option.some.inj z1]
                exact ih (k + i) (by omega) (by omega)
          have := all a.length 0 ha (by omega)
          exact e0 this
  · have e1 : turnL (a ++ List.replicate z.length T) k = List.replicate (a.length + z.length - k) T ++ (a ++ List.replicate (k - a.length) T) := by
      unfold turnL
      rw [List.drop_append, List.drop_of_length_le (by omega), List.nil_append, List.drop_replicate, List.take_append, List.take_of_length_le (by omega), List.take_replicate]
      congr 2
      · omega
      · congr 1
        omega
    rw [e1] at hlt
    have hpos : a.length + z.length - k = (a.length + z.length - k - 1) + 1 := by omega
    rw [hpos, List.replicate_succ] at hlt
    match a, ha, lt0, hlt with
    | c :: a, _, lt0, hlt =>
      have lt0 : c < T := lt0
      simp only [List.cons_append] at hlt
      rw [List.cons_lt_cons_iff] at hlt
      rcases hlt with hlt | ⟨hlt, _⟩
      · omega
      · omega
end Br
namespace Br
open PySem PySem.Spec PyProof.Rows L2 Evl SX

/-! ### the next ring, letter by letter -/
def ringB (l : List Nat) : Bool := ((List.range (l.length - 1)).filter fun k => decide (turnL l (1 + k) < l)).isEmpty
theorem ringB_iff {l : List Nat} : ringB l = true ↔ Ring l := by
  unfold ringB
  rw [List.isEmpty_iff, List.filter_eq_nil_iff]
  constructor
  · intro h k hk z
    by_cases k0 : k = 0
    · rw [k0, turn_zero] at z
      exact absurd z (List.lt_irrefl _)
    · have := h (k - 1) (List.mem_range.mpr (by omega))
      rw [show 1 + (k - 1) = k by omega] at this
      exact this (decide_eq_true z)
  · intro h k hk z
    have := List.mem_range.mp hk
    exact h (1 + k) (by omega) (of_decide_eq_true z)
/-- the first of some that fits, and it is the least where they rise -/
theorem find_least {f : Nat → Bool} : ∀ {cs : List Nat} {s : Nat}, cs.Pairwise (· < ·) → cs.find? f = some s → f s = true ∧ s ∈ cs ∧ ∀ c ∈ cs, f c = true → s ≤ c
  | [], s, _, h => by cases h
  | c :: cs, s, hp, h => by
    obtain ⟨h1, h2⟩ := List.pairwise_cons.mp hp
    rw [List.find?_cons] at h
    cases e : f c with
    | true =>
      rw [e] at h
      obtain rfl := Option.some.inj h
      refine ⟨e, List.mem_cons_self, fun d hd _ => ?_⟩
      rcases List.mem_cons.mp hd with rfl | hd
      · exact Nat.le_refl _
      · exact Nat.le_of_lt (h1 d hd)
    | false =>
      rw [e] at h
      obtain ⟨a1, a2, a3⟩ := find_least h2 h
      refine ⟨a1, List.mem_cons_of_mem _ a2, fun d hd fd => ?_⟩
      rcases List.mem_cons.mp hd with rfl | hd
      · rw [e] at fd
        cases fd
      · exact a3 d hd fd
theorem find_no {f : Nat → Bool} {cs : List Nat} (h : cs.find? f = none) : ∀ c ∈ cs, f c = false := fun c hc => by
  have := List.find?_eq_none.mp h c hc
  cases e : f c with
  | true => exact absurd e this
  | false => rfl
/-- letters: rising, the top one the last -/
structure Letters (cs : List Nat) (T : Nat) : Prop where
  rise : cs.Pairwise (· < ·)
  top : T ∈ cs
  most : ∀ c ∈ cs, c ≤ T
def fillL (cs : List Nat) (T : Nat) : Nat → List Nat → List Nat
  | 0, a => a
  | r + 1, a => match cs.find? (fun s => ringB (a ++ [s] ++ List.replicate r T)) with
    | some s => fillL cs T r (a ++ [s])
    | none => a
theorem fill_ok {cs : List Nat} {T : Nat} (L : Letters cs T) : ∀ (r : Nat) (a : List Nat), 0 < a.length → (∀ c ∈ a, c ∈ cs) → Ring (a ++ List.replicate r T) →
    ∃ z, fillL cs T r a = a ++ z ∧ z.length = r ∧ (∀ c ∈ z, c ∈ cs) ∧ Ring (a ++ z) ∧ ∀ y : List Nat, y.length = r → (∀ c ∈ y, c ∈ cs) → Ring (a ++ y) → ¬ a ++ y < a ++ z
  | 0, a, _, _, hr => by
    refine ⟨[], (List.append_nil a).symm, rfl, (fun _ h => by cases h), ?_, fun y hy _ _ => ?_⟩
    · rw [List.replicate_zero] at hr
      exact hr
    · rw [List.length_eq_zero_iff.mp hy]
      exact List.lt_irrefl _
  | r + 1, a, ha, hl, hr => by
    have eT : a ++ [T] ++ List.replicate r T = a ++ List.replicate (r + 1) T := by rw [List.append_assoc, List.replicate_succ]; rfl
    cases e : cs.find? (fun s => ringB (a ++ [s] ++ List.replicate r T)) with
    | none =>
      have := find_no e T L.top
      rw [eT, ringB_iff.mpr hr] at this
      cases this
    | some s =>
      obtain ⟨h1, h2, h3⟩ := find_least L.rise e
      obtain ⟨z, e1, e2, e3, e4, e5⟩ := fill_ok L r (a ++ [s]) (by rw [List.length_append, List.length_singleton]; omega) (fun c hc => by
        rcases List.mem_append.mp hc with hc | hc
        · exact hl c hc
        · rw [List.mem_singleton.mp hc]
          exact h2) (ringB_iff.mp h1)
      have es : ∀ (c : Nat) (y : List Nat), a ++ [c] ++ y = a ++ (c :: y) := fun c y => by rw [List.append_assoc]; rfl
      refine ⟨s :: z, ?_, by rw [List.length_cons, e2], fun c hc => ?_, by rw [← es]; exact e4, fun y hy hyc hyr hlt => ?_⟩
      · have e0 : fillL cs T (r + 1) a = fillL cs T r (a ++ [s]) := by
          show (match cs.find? (fun s => ringB (a ++ [s] ++ List.replicate r T)) with | some s => fillL cs T r (a ++ [s]) | none => a) = _
          rw [e]
        rw [e0, e1, es]
      · rcases List.mem_cons.mp hc with rfl | hc
        · exact h2
        · exact e3 c hc
      · cases y with
        | nil => cases hy
        | cons c y =>
          have hy' : y.length = r := Nat.succ.inj hy
          rw [app_lt] at hlt
          have hc := hyc c List.mem_cons_self
          have fc : ringB (a ++ [c] ++ List.replicate r T) = true := by
            refine ringB_iff.mpr ?_
            rw [← hy']
            refine ring_top (by rw [List.length_append, List.length_singleton]; omega) (by rw [es]; exact hyr) fun d hd => ?_
            rw [es] at hd
            rcases List.mem_append.mp hd with hd | hd
            · exact L.most d (hl d hd)
            · exact L.most d (hyc d hd)
          have hsc := h3 c hc fc
          rw [List.cons_lt_cons_iff] at hlt
          rcases hlt with hlt | ⟨rfl, hlt⟩
          · omega
          · refine e5 y hy' (fun d hd => hyc d (List.mem_cons_of_mem _ hd)) (by rw [es]; exact hyr) ?_
            rw [app_lt]
            exact hlt
def behindTo (cs : List Nat) (T : Nat) (l : List Nat) : Nat → Option (List Nat)
  | 0 => none
  | p + 1 => match cs.find? (fun s => decide (l.getD p 0 < s) && ringB (l.take p ++ [s] ++ List.replicate (l.length - p - 1) T)) with
    | some s => some (fillL cs T (l.length - p - 1) (l.take p ++ [s]))
    | none => behindTo cs T l p
/-- where one of two texts of one length is less -/
theorem lt_place : ∀ {a b : List Nat}, a.length = b.length → a < b → ∃ p, p < a.length ∧ a.take p = b.take p ∧ a.getD p 0 < b.getD p 0
  | [], [], _, h => by cases h
  | [], _ :: _, h, _ => by cases h
  | _ :: _, [], h, _ => by cases h
  | x :: a, y :: b, hl, h => by
    rw [List.cons_lt_cons_iff] at h
    rcases h with h | ⟨rfl, h⟩
    · exact ⟨0, Nat.succ_pos _, rfl, h⟩
    · obtain ⟨p, h1, h2, h3⟩ := lt_place (Nat.succ.inj hl) h
      exact ⟨p + 1, Nat.succ_lt_succ h1, by rw [List.take_succ_cons, List.take_succ_cons, h2], h3⟩
theorem place_lt {a b : List Nat} {p : Nat} (ha : p < a.length) (hb : p < b.length) (h1 : a.take p = b.take p) (h2 : a.getD p 0 < b.getD p 0) : a < b := by
  have ea : a = a.take p ++ (a.getD p 0 :: a.drop (p + 1)) := by
    rw [List.getD_eq_getElem?_getD, List.getElem?_eq_getElem ha]
    show a = a.take p ++ (a[p] :: a.drop (p + 1))
    rw [← List.drop_eq_getElem_cons ha, List.take_append_drop]
  have eb : b = b.take p ++ (b.getD p 0 :: b.drop (p + 1)) := by
    rw [List.getD_eq_getElem?_getD, List.getElem?_eq_getElem hb]
    show b = b.take p ++ (b[p] :: b.drop (p + 1))
    rw [← List.drop_eq_getElem_cons hb, List.take_append_drop]
  rw [ea, eb, h1, app_lt, List.cons_lt_cons_iff]
  exact .inl h2
/-- a ring of some letters -/
def RingOf (cs : List Nat) (n : Nat) (w : List Nat) : Prop := Ring w ∧ w.length = n ∧ ∀ c ∈ w, c ∈ cs
/-- the next one, or none -/
def NextR (cs : List Nat) (l : List Nat) : Option (List Nat) → Prop
  | some w => RingOf cs l.length w ∧ l < w ∧ ∀ w', RingOf cs l.length w' → l < w' → ¬ w' < w
  | none => ∀ w', RingOf cs l.length w' → ¬ l < w'
theorem next_one {cs l : List Nat} : ∀ {o o' : Option (List Nat)}, NextR cs l o → NextR cs l o' → o = o'
  | none, none, _, _ => rfl
  | none, some w, h, h' => absurd h'.2.1 (h w h'.1)
  | some w, none, h, h' => absurd h.2.1 (h' w h.1)
  | some w, some w', h, h' => by rw [lt_tri (h'.2.2 w h.1 h.2.1) (h.2.2 w' h'.1 h'.2.1)]
theorem behind_to {cs : List Nat} {T : Nat} (L : Letters cs T) {l : List Nat} (hl : ∀ c ∈ l, c ∈ cs) : ∀ p, p ≤ l.length → (∀ w', RingOf cs l.length w' → ∀ q, p ≤ q → q < l.length → l.take q = w'.take q → ¬ l.getD q 0 < w'.getD q 0) → NextR cs l (behindTo cs T l p)
  | 0, _, h => fun w' hw hlt => by
    obtain ⟨q, h1, h2, h3⟩ := lt_place hw.2.1.symm hlt
    exact h w' hw q (Nat.zero_le _) h1 h2 h3
  | p + 1, hp, h => by
    have take_l : ∀ c ∈ l.take p, c ∈ cs := fun c hc => hl c (List.mem_of_mem_take hc)
    have len_t : (l.take p).length = p := by
      rw [List.length_take]
      omega
    -- what a ring that differs first at p says of the letter there
    have says : ∀ w', RingOf cs l.length w' → l.take p = w'.take p → ringB (l.take p ++ [w'.getD p 0] ++ List.replicate (l.length - p - 1) T) = true ∧ w'.getD p 0 ∈ cs ∧ w' = l.take p ++ [w'.getD p 0] ++ w'.drop (p + 1) := by
      intro w' hw he
      have hpw : p < w'.length := by
        rw [hw.2.1]
        omega
      have eg : w'.getD p 0 = w'[p] := by
        rw [List.getD_eq_getElem?_getD, List.getElem?_eq_getElem hpw]
        rfl
      have ew : w' = l.take p ++ [w'.getD p 0] ++ w'.drop (p + 1) := by
        rw [he, eg, List.append_assoc]
        show w' = w'.take p ++ (w'[p] :: w'.drop (p + 1))
        rw [← List.drop_eq_getElem_cons hpw, List.take_append_drop]
      refine ⟨ringB_iff.mpr ?_, by rw [eg]; exact hw.2.2 _ (List.getElem_mem hpw), ew⟩
      have hd : l.length - p - 1 = (w'.drop (p + 1)).length := by
        rw [List.length_drop, hw.2.1]
        omega
      rw [hd]
      refine ring_top (by rw [List.length_append, List.length_singleton]; omega) (by rw [← ew]; exact hw.1) fun c hc => ?_
      rw [← ew] at hc
      exact L.most c (hw.2.2 c hc)
    cases e : cs.find? (fun s => decide (l.getD p 0 < s) && ringB (l.take p ++ [s] ++ List.replicate (l.length - p - 1) T)) with
    | none =>
      have e0 : behindTo cs T l (p + 1) = behindTo cs T l p := by
        show (match cs.find? (fun s => decide (l.getD p 0 < s) && ringB (l.take p ++ [s] ++ List.replicate (l.length - p - 1) T)) with | some s => some (fillL cs T (l.length - p - 1) (l.take p ++ [s])) | none => behindTo cs T l p) = _
        rw [e]
      rw [e0]
      refine behind_to L hl p (by omega) fun w' hw q hpq hq he hlt => ?_
      by_cases hqp : q = p
      · subst hqp
        obtain ⟨h1, h2, _⟩ := says w' hw he
        have z := find_no e _ h2
        rw [h1, decide_eq_true hlt] at z
        cases z
      · exact h w' hw q (by omega) hq he hlt
    | some s =>
      have e0 : behindTo cs T l (p + 1) = some (fillL cs T (l.length - p - 1) (l.take p ++ [s])) := by
        show (match cs.find? (fun s => decide (l.getD p 0 < s) && ringB (l.take p ++ [s] ++ List.replicate (l.length - p - 1) T)) with | some s => some (fillL cs T (l.length - p - 1) (l.take p ++ [s])) | none => behindTo cs T l p) = _
        rw [e]
      rw [e0]
      obtain ⟨h1, h2, h3⟩ := find_least L.rise e
      rw [Bool.and_eq_true, decide_eq_true_eq] at h1
      obtain ⟨z, e1, e2, e3, e4, e5⟩ := fill_ok L (l.length - p - 1) (l.take p ++ [s]) (by rw [List.length_append, List.length_singleton]; omega) (fun c hc => by
        rcases List.mem_append.mp hc with hc | hc
        · exact take_l c hc
        · rw [List.mem_singleton.mp hc]
          exact h2) (ringB_iff.mp h1.2)
      rw [e1]
      have wlen : (l.take p ++ [s] ++ z).length = l.length := by
        rw [List.length_append, List.length_append, List.length_singleton, len_t, e2]
        omega
      have wtake : ∀ q, q ≤ p → (l.take p ++ [s] ++ z).take q = l.take q := fun q hq => by
        rw [List.append_assoc, List.take_append_of_le_length (by omega), List.take_take, Nat.min_eq_left hq]
      have wat : (l.take p ++ [s] ++ z).getD p 0 = s := by
        rw [List.getD_eq_getElem?_getD, List.append_assoc, List.getElem?_append_right (by omega), len_t, Nat.sub_self]
        rfl
      have wbefore : ∀ q, q < p → (l.take p ++ [s] ++ z).getD q 0 = l.getD q 0 := fun q hq => by
        rw [List.getD_eq_getElem?_getD, List.getD_eq_getElem?_getD, List.append_assoc, List.getElem?_append_left (by omega), List.getElem?_take, if_pos hq]
      refine ⟨⟨e4, wlen, fun c hc => ?_⟩, ?_, fun w' hw hlt hlt2 => ?_⟩
      · rcases List.mem_append.mp hc with hc | hc
        · rcases List.mem_append.mp hc with hc | hc
          · exact take_l c hc
          · rw [List.mem_singleton.mp hc]
            exact h2
        · exact e3 c hc
      · exact place_lt (p := p) (by omega) (by omega) (wtake p (Nat.le_refl _)).symm (by rw [wat]; exact h1.1)
      · obtain ⟨q, q1, q2, q3⟩ := lt_place hw.2.1.symm hlt
        rcases Nat.lt_trichotomy q p with hq | hq | hq
        · have : l.take p ++ [s] ++ z < w' := place_lt (p := q) (by omega) (by rw [hw.2.1]; exact q1) (by rw [wtake q (Nat.le_of_lt hq)]; exact q2) (by rw [wbefore q hq]; exact q3)
          exact absurd (List.lt_trans this hlt2) (List.lt_irrefl _)
        · subst hq
          obtain ⟨g1, g2, g3⟩ := says w' hw q2
          have hsc := h3 _ g2 (by rw [g1, decide_eq_true q3]; rfl)
          rcases Nat.lt_or_eq_of_le hsc with hsc | hsc
          · have : l.take q ++ [s] ++ z < w' := place_lt (p := q) (by omega) (by rw [hw.2.1]; exact q1) (by rw [wtake q (Nat.le_refl _)]; exact q2) (by rw [wat]; exact hsc)
            exact absurd (List.lt_trans this hlt2) (List.lt_irrefl _)
          · rw [← hsc] at g3
            rw [g3] at hlt2
            refine e5 (w'.drop (q + 1)) (by rw [List.length_drop, hw.2.1]; omega) (fun c hc => hw.2.2 c (List.mem_of_mem_drop hc)) (by rw [← g3]; exact hw.1) hlt2
        · exact h w' hw q (by omega) q1 q2 q3
/-- the law's next ring -/
theorem behind_ok {cs : List Nat} {T : Nat} (L : Letters cs T) {l : List Nat} (hl : ∀ c ∈ l, c ∈ cs) : NextR cs l (behindTo cs T l l.length) := behind_to L hl _ (Nat.le_refl _) fun _ _ q h1 h2 => by omega
end Br
namespace Br
open PySem PySem.Spec PyProof.Rows L2 Evl SX

/-! ### all words, all rings -/
def allW (cs : List Nat) : Nat → List (List Nat)
  | 0 => [[]]
  | n + 1 => (allW cs n).flatMap fun w => cs.map fun c => w ++ [c]
theorem allW_mem {cs : List Nat} : ∀ {n : Nat} {w : List Nat}, w ∈ allW cs n ↔ w.length = n ∧ ∀ c ∈ w, c ∈ cs
  | 0, w => by
    unfold allW
    rw [List.mem_singleton]
    constructor
    · rintro rfl
      exact ⟨rfl, fun c h => by cases h⟩
    · rintro ⟨h, _⟩
      exact List.length_eq_zero_iff.mp h
  | n + 1, w => by
    unfold allW
    rw [List.mem_flatMap]
    constructor
    · rintro ⟨v, hv, hw⟩
      obtain ⟨c, hc, rfl⟩ := List.mem_map.mp hw
      obtain ⟨h1, h2⟩ := allW_mem.mp hv
      refine ⟨by rw [List.length_append, h1]; rfl, fun d hd => ?_⟩
      rcases List.mem_append.mp hd with hd | hd
      · exact h2 d hd
      · rw [List.mem_singleton.mp hd]
        exact hc
    · rintro ⟨h1, h2⟩
      have ne : w ≠ [] := fun z => by rw [z] at h1; cases h1
      have e : w = w.dropLast ++ [w.getLast ne] := (List.dropLast_concat_getLast ne).symm
      refine ⟨w.dropLast, allW_mem.mpr ⟨by rw [List.length_dropLast, h1]; rfl, fun c hc => h2 c (List.dropLast_subset w hc)⟩, List.mem_map.mpr ⟨w.getLast ne, h2 _ (List.getLast_mem ne), e.symm⟩⟩
theorem allW_rise {cs : List Nat} (h : cs.Pairwise (· < ·)) : ∀ n, (allW cs n).Pairwise (· < ·)
  | 0 => List.pairwise_singleton _ _
  | n + 1 => by
    unfold allW
    rw [List.pairwise_flatMap]
    refine ⟨fun w _ => ?_, ?_⟩
    · rw [List.pairwise_map]
      refine h.imp fun {a b} hab => ?_
      rw [app_lt, List.cons_lt_cons_iff]
      exact .inl hab
    · refine List.Pairwise.imp_of_mem (fun {a b} ha hb hab => ?_) (allW_rise h n)
      intro x hx y hy
      obtain ⟨c, _, rfl⟩ := List.mem_map.mp hx
      obtain ⟨d, _, rfl⟩ := List.mem_map.mp hy
      exact lt_same ((allW_mem.mp ha).1.trans (allW_mem.mp hb).1.symm) hab _ _
theorem allW_many (cs : List Nat) : ∀ n, (allW cs n).length = cs.length ^ n
  | 0 => rfl
  | n + 1 => by
    unfold allW
    rw [List.length_flatMap]
    have : ((allW cs n).map fun w => (cs.map fun c => w ++ [c]).length) = (allW cs n).map fun _ => cs.length := List.map_congr_left fun w _ => List.length_map ..
    rw [this, List.map_const', List.sum_replicate_nat, allW_many cs n, Nat.pow_succ]
/-- all rings, rising -/
def allR (cs : List Nat) (n : Nat) : List (List Nat) := (allW cs n).filter ringB
theorem allR_mem {cs : List Nat} {n : Nat} {w : List Nat} : w ∈ allR cs n ↔ RingOf cs n w := by
  unfold allR RingOf
  rw [List.mem_filter, allW_mem, ringB_iff]
  constructor
  · rintro ⟨⟨h1, h2⟩, h3⟩
    exact ⟨h3, h1, h2⟩
  · rintro ⟨h1, h2, h3⟩
    exact ⟨⟨h2, h3⟩, h1⟩
theorem allR_rise {cs : List Nat} (h : cs.Pairwise (· < ·)) (n : Nat) : (allR cs n).Pairwise (· < ·) := (allW_rise h n).sublist List.filter_sublist
theorem rise_at {xs : List (List Nat)} (h : xs.Pairwise (· < ·)) {i j : Nat} (hi : i < xs.length) (hj : j < xs.length) : xs[i] < xs[j] ↔ i < j := by
  have up := List.pairwise_iff_getElem.mp h
  constructor
  · intro hlt
    rcases Nat.lt_trichotomy i j with z | z | z
    · exact z
    · subst z
      exact absurd hlt (List.lt_irrefl _)
    · exact absurd (List.lt_trans hlt (up j i hj hi z)) (List.lt_irrefl _)
  · intro z
    exact up i j hi hj z
/-- in the list of all rings the next one stands next -/
theorem allR_next {cs : List Nat} (h : cs.Pairwise (· < ·)) {n i : Nat} (hi : i < (allR cs n).length) : NextR cs (allR cs n)[i] (allR cs n)[i + 1]? := by
  have rise := allR_rise h n
  have hn : (allR cs n)[i].length = n := (allR_mem.mp (List.getElem_mem hi)).2.1
  by_cases hj : i + 1 < (allR cs n).length
  · rw [List.getElem?_eq_getElem hj]
    refine ⟨by rw [hn]; exact allR_mem.mp (List.getElem_mem hj), (rise_at rise hi hj).mpr (Nat.lt_succ_self i), fun w' hw hlt hlt2 => ?_⟩
    rw [hn] at hw
    obtain ⟨k, hk, rfl⟩ := List.getElem_of_mem (allR_mem.mpr hw)
    have z1 := (rise_at rise hi hk).mp hlt
    have z2 := (rise_at rise hk hj).mp hlt2
    omega
  · rw [List.getElem?_eq_none (by omega)]
    intro w' hw hlt
    rw [hn] at hw
    obtain ⟨k, hk, rfl⟩ := List.getElem_of_mem (allR_mem.mpr hw)
    have z1 := (rise_at rise hi hk).mp hlt
    omega
/-- the letters of so many colours -/
theorem letters_few {k : Nat} (h1 : 1 ≤ k) : Letters ((List.range k).map fun i => 97 + i) (96 + k) := by
  refine ⟨?_, ?_, ?_⟩
  · rw [List.pairwise_map]
    exact (List.pairwise_lt_range (n := k)).imp fun h => by omega
  · exact List.mem_map.mpr ⟨k - 1, List.mem_range.mpr (by omega), by omega⟩
  · intro c hc
    obtain ⟨i, hi, rfl⟩ := List.mem_map.mp hc
    have := List.mem_range.mp hi
    omega
end Br
namespace Br
open PySem PySem.Spec PyProof.Rows L2 Evl SX

/-! ### the next ring, by primes told again and again -/
/-- told again and again, cut off -/
def cyc (p : List Nat) (n : Nat) : List Nat := (List.replicate n p).flatten.take n
theorem flat_at {p : List Nat} (hp : 0 < p.length) : ∀ (m k : Nat), k < m * p.length → (List.replicate m p).flatten[k]? = p[k % p.length]?
  | 0, k, h => by omega
  | m + 1, k, h => by
    rw [List.replicate_succ, List.flatten_cons]
    by_cases hk : k < p.length
    · rw [List.getElem?_append_left hk, Nat.mod_eq_of_lt hk]
    · rw [List.getElem?_append_right (by omega), flat_at hp m (k - p.length) (by rw [Nat.succ_mul] at h; omega)]
      congr 1
      exact (Nat.mod_eq_sub_mod (by omega)).symm
theorem flat_length (m : Nat) (p : List Nat) : (List.replicate m p).flatten.length = m * p.length := by
  induction m with
  | zero => simp
  | succ m ih => rw [List.replicate_succ, List.flatten_cons, List.length_append, ih, Nat.succ_mul, Nat.add_comm]
theorem cyc_len {p : List Nat} (hp : 0 < p.length) (n : Nat) : (cyc p n).length = n := by
  unfold cyc
  rw [List.length_take, flat_length]
  have : n * 1 ≤ n * p.length := Nat.mul_le_mul_left n hp
  omega
theorem cyc_at {p : List Nat} (hp : 0 < p.length) {n k : Nat} (hk : k < n) : (cyc p n)[k]? = p[k % p.length]? := by
  unfold cyc
  rw [List.getElem?_take, if_pos hk]
  exact flat_at hp n k (by have : n * 1 ≤ n * p.length := Nat.mul_le_mul_left n hp; omega)
theorem cyc_get {p : List Nat} (hp : 0 < p.length) {n k : Nat} (hk : k < n) : (cyc p n).getD k 0 = p.getD (k % p.length) 0 := by
  rw [List.getD_eq_getElem?_getD, cyc_at hp hk, List.getD_eq_getElem?_getD]
theorem cyc_mem {p : List Nat} {n : Nat} {c : Nat} (h : c ∈ cyc p n) : c ∈ p := by
  obtain ⟨q, hq, hc⟩ := List.mem_flatten.mp (List.mem_of_mem_take h)
  rw [List.eq_of_mem_replicate hq] at hc
  exact hc
/-- two texts, letter by letter, as far as k -/
theorem take_same {a b : List Nat} {k : Nat} (ha : k ≤ a.length) (hb : k ≤ b.length) : a.take k = b.take k ↔ ∀ t, t < k → a.getD t 0 = b.getD t 0 := by
  constructor
  · intro h t ht
    have z := congrArg (fun l => l[t]?) h
    simp only [List.getElem?_take, if_pos ht] at z
    rw [List.getD_eq_getElem?_getD, List.getD_eq_getElem?_getD, z]
  · intro h
    refine List.ext_getElem? fun t => ?_
    rw [List.getElem?_take, List.getElem?_take]
    by_cases ht : t < k
    · rw [if_pos ht, if_pos ht]
      have z := h t ht
      rw [List.getD_eq_getElem?_getD, List.getD_eq_getElem?_getD, List.getElem?_eq_getElem (by omega), List.getElem?_eq_getElem (by omega)] at z
      rw [List.getElem?_eq_getElem (by omega), List.getElem?_eq_getElem (by omega)]
      exact congrArg some z
    · rw [if_neg ht, if_neg ht]
theorem lt_spot {a b : List Nat} (hl : a.length = b.length) (h : a < b) : ∃ j, j < a.length ∧ (∀ t, t < j → a.getD t 0 = b.getD t 0) ∧ a.getD j 0 < b.getD j 0 := by
  obtain ⟨j, h1, h2, h3⟩ := lt_place hl h
  exact ⟨j, h1, (take_same (by omega) (by omega)).mp h2, h3⟩
theorem spot_lt {a b : List Nat} {j : Nat} (ha : j < a.length) (hb : j < b.length) (h1 : ∀ t, t < j → a.getD t 0 = b.getD t 0) (h2 : a.getD j 0 < b.getD j 0) : a < b := place_lt ha hb ((take_same (by omega) (by omega)).mpr h1) h2
theorem turn_getD {l : List Nat} {k i : Nat} (hk : k ≤ l.length) (hi : i < l.length) : (turnL l k).getD i 0 = l.getD ((i + k) % l.length) 0 := by
  rw [List.getD_eq_getElem?_getD, turn_get hk hi, List.getD_eq_getElem?_getD]
theorem drop_getD (l : List Nat) (k i : Nat) : (l.drop k).getD i 0 = l.getD (k + i) 0 := by
  rw [List.getD_eq_getElem?_getD, List.getElem?_drop, List.getD_eq_getElem?_getD]
theorem take_getD {l : List Nat} {k i : Nat} (h : i < k) : (l.take k).getD i 0 = l.getD i 0 := by
  rw [List.getD_eq_getElem?_getD, List.getElem?_take, if_pos h, List.getD_eq_getElem?_getD]
theorem app_getD_l {a b : List Nat} {i : Nat} (h : i < a.length) : (a ++ b).getD i 0 = a.getD i 0 := by
  rw [List.getD_eq_getElem?_getD, List.getElem?_append_left h, List.getD_eq_getElem?_getD]
theorem app_getD_r {a b : List Nat} {i : Nat} (h : a.length ≤ i) : (a ++ b).getD i 0 = b.getD (i - a.length) 0 := by
  rw [List.getD_eq_getElem?_getD, List.getElem?_append_right h, List.getD_eq_getElem?_getD]
theorem getD_mem {l : List Nat} {i : Nat} (h : i < l.length) : l.getD i 0 ∈ l := by
  rw [List.getD_eq_getElem?_getD, List.getElem?_eq_getElem h]
  exact List.getElem_mem h
/-- what a ring, perhaps a longer one, begins with -/
def Pre (w : List Nat) : Prop := ∀ k, k < w.length → ¬ w.drop k < w.take (w.length - k)
theorem ring_pre {w : List Nat} (h : Ring w) : Pre w := fun k hk z => h k hk (by
  have e : w = w.take (w.length - k) ++ w.drop (w.length - k) := (List.take_append_drop _ _).symm
  have := lt_same (by rw [List.length_drop, List.length_take]; omega) z (w.take k) (w.drop (w.length - k))
  rw [← e] at this
  exact this)
/-- with the last letter one greater it is a prime -/
theorem pre_prime {a z : List Nat} {c : Nat} (h : Pre (a ++ [c] ++ z)) : Suf (a ++ [c + 1]) := by
  have hi : (a ++ [c + 1]).length = a.length + 1 := by rw [List.length_append]; rfl
  refine ⟨by omega, fun k k1 k2 => ?_⟩
  have hk : k ≤ a.length := by omega
  have e1 : (a ++ [c + 1]).drop k = a.drop k ++ [c + 1] := List.drop_append_of_le_length hk
  have e2 : (a ++ [c] ++ z).drop k = (a.drop k ++ [c]) ++ z := by rw [List.append_assoc, List.drop_append_of_le_length hk, List.append_assoc]
  have hn : (a ++ [c] ++ z).length = a.length + 1 + z.length := by rw [List.length_append, List.length_append]; rfl
  have e3 : (a ++ [c] ++ z).take ((a ++ [c] ++ z).length - k) = a.take (a.length + 1 - k) ++ ((a ++ [c] ++ z).take ((a ++ [c] ++ z).length - k)).drop (a.length + 1 - k) := by
    have e4 : a.take (a.length + 1 - k) = ((a ++ [c] ++ z).take ((a ++ [c] ++ z).length - k)).take (a.length + 1 - k) := by
      rw [List.take_take, Nat.min_eq_left (by omega), List.append_assoc, List.take_append_of_le_length (by omega)]
    rw [e4, List.take_append_drop]
  have hlen : (a.drop k ++ [c]).length = (a.take (a.length + 1 - k)).length := by
    rw [List.length_append, List.length_drop, List.length_take]
    show a.length - k + 1 = _
    omega
  have p1 := h k (by omega)
  rw [e2, e3] at p1
  have p2 : ¬ (a.drop k ++ [c]) < a.take (a.length + 1 - k) := fun z1 => p1 (lt_same hlen z1 _ _)
  have p3 : a.drop k ++ [c] < a.drop k ++ [c + 1] := by
    rw [app_lt, List.cons_lt_cons_iff]
    exact .inl (Nat.lt_succ_self c)
  have p4 := le_lt p2 p3
  have e5 : a ++ [c + 1] = a.take (a.length + 1 - k) ++ (a.drop (a.length + 1 - k) ++ [c + 1]) := by rw [← List.append_assoc, List.take_append_drop]
  have p5 := lt_same (by rw [List.length_append, List.length_drop, List.length_take]; show _ = a.length - k + 1; omega) p4 (a.drop (a.length + 1 - k) ++ [c + 1]) []
  rw [← e5, List.append_nil] at p5
  rw [e1]
  exact p5
/-- a prime, begun anywhere and read round, is at no place less first -/
theorem suf_round {p : List Nat} (h : Suf p) {b j : Nat} (hb : b < p.length) (h1 : ∀ t, t < j → p.getD ((b + t) % p.length) 0 = p.getD (t % p.length) 0) : ¬ p.getD ((b + j) % p.length) 0 < p.getD (j % p.length) 0 := by
  intro h2
  by_cases b0 : b = 0
  · rw [b0, Nat.zero_add] at h2
    exact Nat.lt_irrefl _ h2
  have hs := h.2 b (by omega) hb
  have hdl : (p.drop b).length = p.length - b := List.length_drop ..
  by_cases hj : j < p.length - b
  · refine List.lt_irrefl _ (List.lt_trans hs (spot_lt (j := j) (by omega) (by omega) (fun t ht => ?_) ?_))
    · have := h1 t ht
      rw [Nat.mod_eq_of_lt (by omega), Nat.mod_eq_of_lt (by omega)] at this
      rw [drop_getD]
      exact this
    · rw [Nat.mod_eq_of_lt (by omega), Nat.mod_eq_of_lt (by omega)] at h2
      rw [drop_getD]
      exact h2
  · refine pre_le (a := p.drop b) (b := p) ?_ hs
    have e : p.drop b = p.take (p.length - b) := by
      have z : (p.drop b).take (p.length - b) = p.take (p.length - b) := (take_same (by omega) (by omega)).mpr fun t ht => by
        have := h1 t (by omega)
        rw [Nat.mod_eq_of_lt (by omega), Nat.mod_eq_of_lt (by omega)] at this
        rw [drop_getD]
        exact this
      rw [List.take_of_length_le (by omega)] at z
      exact z
    rw [e]
    exact List.take_prefix _ _
theorem cyc_pre {p : List Nat} (h : Suf p) (n : Nat) : Pre (cyc p n) := by
  intro k hk z
  have hl := cyc_len h.1 n
  rw [hl] at hk z
  obtain ⟨j, j1, j2, j3⟩ := lt_spot (by rw [List.length_drop, List.length_take, hl]; omega) z
  rw [List.length_drop, hl] at j1
  have hb : k % p.length < p.length := Nat.mod_lt _ h.1
  have at_ : ∀ t, t ≤ j → ((cyc p n).drop k).getD t 0 = p.getD ((k % p.length + t) % p.length) 0 ∧ ((cyc p n).take (n - k)).getD t 0 = p.getD (t % p.length) 0 := fun t ht => by
    rw [drop_getD, cyc_get h.1 (by omega), take_getD (by omega), cyc_get h.1 (by omega), Nat.mod_add_mod]
    exact ⟨rfl, rfl⟩
  refine suf_round h hb (j := j) (fun t ht => ?_) ?_
  · rw [← (at_ t (by omega)).1, ← (at_ t (by omega)).2]
    exact j2 t ht
  · rw [← (at_ j (by omega)).1, ← (at_ j (by omega)).2]
    exact j3
theorem cyc_ring {p : List Nat} (h : Suf p) {n : Nat} (hd : n % p.length = 0) : Ring (cyc p n) := by
  intro k hk z
  have hl := cyc_len h.1 n
  rw [hl] at hk
  obtain ⟨j, j1, j2, j3⟩ := lt_spot (by rw [turn_len]) z
  rw [turn_len, hl] at j1
  have hb : k % p.length < p.length := Nat.mod_lt _ h.1
  have at_ : ∀ t, t ≤ j → (turnL (cyc p n) k).getD t 0 = p.getD ((k % p.length + t) % p.length) 0 := fun t ht => by
    rw [turn_getD (by omega) (by omega), hl, cyc_get h.1 (Nat.mod_lt _ (by omega)), Nat.mod_add_mod, Nat.mod_mod_of_dvd _ (Nat.dvd_of_mod_eq_zero hd), Nat.add_comm]
  have at2 : ∀ t, t ≤ j → (cyc p n).getD t 0 = p.getD (t % p.length) 0 := fun t ht => cyc_get h.1 (by omega)
  refine suf_round h hb (j := j) (fun t ht => ?_) ?_
  · rw [← at_ t (by omega), ← at2 t (by omega)]
    exact j2 t ht
  · rw [← at_ j (by omega), ← at2 j (by omega)]
    exact j3
/-- broken off it is no ring -/
theorem cyc_off {p : List Nat} (h : Suf p) {n : Nat} (hd : n % p.length ≠ 0) (hn : p.length ≤ n) : ¬ Ring (cyc p n) := by
  intro hr
  have hl := cyc_len h.1 n
  have hr0 : 0 < n % p.length := by omega
  have hrl : n % p.length < p.length := Nat.mod_lt _ h.1
  have hs := h.2 (n % p.length) hr0 hrl
  have hdl : (p.drop (n % p.length)).length = p.length - n % p.length := List.length_drop ..
  have htl : (p.take (p.length - n % p.length)).length = p.length - n % p.length := by rw [List.length_take]; omega
  have lt : p.take (p.length - n % p.length) < p.drop (n % p.length) := by
    by_cases c : p.take (p.length - n % p.length) < p.drop (n % p.length)
    · exact c
    exfalso
    by_cases c2 : p.drop (n % p.length) < p.take (p.length - n % p.length)
    · have := lt_app c2 (p.drop (p.length - n % p.length))
      rw [List.take_append_drop] at this
      exact List.lt_irrefl _ (List.lt_trans hs this)
    · have e := lt_tri c2 c
      refine pre_le (a := p.drop (n % p.length)) (b := p) ?_ hs
      rw [e]
      exact List.take_prefix _ _
  obtain ⟨j, j1, j2, j3⟩ := lt_spot (by rw [htl, hdl]) lt
  rw [htl] at j1
  have hdm := Nat.div_add_mod n p.length
  refine hr (n - n % p.length) (by rw [hl]; omega) (spot_lt (j := n % p.length + j) (by rw [turn_len, hl]; omega) (by rw [hl]; omega) (fun t ht => ?_) ?_)
  · rw [turn_getD (by rw [hl]; omega) (by rw [hl]; omega), hl, cyc_get h.1 (Nat.mod_lt _ (by omega)), cyc_get h.1 (by omega)]
    by_cases c : t < n % p.length
    · rw [Nat.mod_eq_of_lt (show t + (n - n % p.length) < n by omega)]
      congr 1
      have e : t + (n - n % p.length) = t + p.length * (n / p.length) := by omega
      rw [e, Nat.add_mul_mod_self_left]
    · have e : t + (n - n % p.length) = (t - n % p.length) + n := by omega
      rw [e, Nat.add_mod_right, Nat.mod_eq_of_lt (show t - n % p.length < n by omega), Nat.mod_eq_of_lt (show t - n % p.length < p.length by omega), Nat.mod_eq_of_lt (show t < p.length by omega)]
      have := j2 (t - n % p.length) (by omega)
      rw [take_getD (by omega), drop_getD, show n % p.length + (t - n % p.length) = t by omega] at this
      exact this
  · rw [turn_getD (by rw [hl]; omega) (by rw [hl]; omega), hl, cyc_get h.1 (Nat.mod_lt _ (by omega)), cyc_get h.1 (by omega)]
    have e : n % p.length + j + (n - n % p.length) = j + n := by omega
    rw [e, Nat.add_mod_right, Nat.mod_eq_of_lt (show j < n by omega), Nat.mod_eq_of_lt (show j < p.length by omega), Nat.mod_eq_of_lt (show n % p.length + j < p.length by omega)]
    rw [take_getD (by omega), drop_getD] at j3
    exact j3
/-- a ring that begins so is not less than it told again and again -/
theorem ring_cyc {x p : List Nat} (hp : 0 < p.length) (hx : Ring x) (hpl : p.length ≤ x.length) (hb : ∀ t, t < p.length → x.getD t 0 = p.getD t 0) : ¬ x < cyc p x.length := by
  intro z
  have hl := cyc_len hp x.length
  obtain ⟨j, j1, j2, j3⟩ := lt_spot hl.symm z
  rw [cyc_get hp j1] at j3
  have hji : p.length ≤ j := by
    by_cases c : p.length ≤ j
    · exact c
    · rw [Nat.mod_eq_of_lt (by omega), hb j (by omega)] at j3
      exact absurd j3 (Nat.lt_irrefl _)
  have hdm := Nat.div_add_mod j p.length
  have hml := Nat.mod_lt j hp
  have k1 : p.length * 1 ≤ p.length * (j / p.length) := Nat.mul_le_mul_left _ ((Nat.le_div_iff_mul_le hp).mpr (by omega))
  refine hx (p.length * (j / p.length)) (by omega) (spot_lt (j := j % p.length) (by rw [turn_len]; omega) (by omega) (fun t ht => ?_) ?_)
  · rw [turn_getD (by omega) (by omega), Nat.mod_eq_of_lt (by omega), j2 _ (by omega), cyc_get hp (by omega), Nat.add_mul_mod_self_left, Nat.mod_eq_of_lt (by omega), hb t (by omega)]
  · rw [turn_getD (by omega) (by omega), show j % p.length + p.length * (j / p.length) = j by omega, Nat.mod_eq_of_lt j1, hb _ hml]
    exact j3
/-- nothing stands between -/
theorem none_between {a x : List Nat} {c k T : Nat} (hx : Ring x) (hT : ∀ d ∈ x, d ≤ T) (hl : x.length = a.length + 1 + k) (h : a ++ [c] ++ List.replicate k T < x) : ¬ x < cyc (a ++ [c + 1]) x.length := by
  have hp : (a ++ [c + 1]).length = a.length + 1 := by rw [List.length_append]; rfl
  have hw : (a ++ [c] ++ List.replicate k T).length = x.length := by rw [List.length_append, List.length_append, List.length_replicate, hl]; rfl
  have hcl : (cyc (a ++ [c + 1]) x.length).length = x.length := cyc_len (by omega) _
  obtain ⟨j, j1, j2, j3⟩ := lt_spot hw h
  have w_a : ∀ t, t < a.length → (a ++ [c] ++ List.replicate k T).getD t 0 = a.getD t 0 := fun t ht => by rw [List.append_assoc, app_getD_l ht]
  have w_c : (a ++ [c] ++ List.replicate k T).getD a.length 0 = c := by
    rw [List.append_assoc, app_getD_r (Nat.le_refl _), Nat.sub_self]
    rfl
  have v_a : ∀ t, t < a.length → (cyc (a ++ [c + 1]) x.length).getD t 0 = a.getD t 0 := fun t ht => by rw [cyc_get (by omega) (by omega), Nat.mod_eq_of_lt (by omega), app_getD_l ht]
  have v_c : (cyc (a ++ [c + 1]) x.length).getD a.length 0 = c + 1 := by
    rw [cyc_get (by omega) (by omega), Nat.mod_eq_of_lt (by omega), app_getD_r (Nat.le_refl _), Nat.sub_self]
    rfl
  by_cases hj : a.length < j
  · have hxj := hT _ (getD_mem (show j < x.length by omega))
    rw [app_getD_r (by rw [List.length_append]; show a.length + 1 ≤ j; omega), List.getD_eq_getElem?_getD, List.getElem?_replicate, if_pos (by rw [List.length_append]; show j - (a.length + 1) < k; omega)] at j3
    have j3 : T < x.getD j 0 := j3
    omega
  · by_cases hj2 : j = a.length
    · subst hj2
      rw [w_c] at j3
      by_cases hc : x.getD a.length 0 = c + 1
      · refine ring_cyc (by omega) hx (by omega) fun t ht => ?_
        by_cases ht2 : t = a.length
        · rw [ht2, hc, app_getD_r (Nat.le_refl _), Nat.sub_self]
          rfl
        · rw [← j2 t (by omega), w_a t (by omega), app_getD_l (by omega)]
      · intro z
        refine List.lt_irrefl _ (List.lt_trans z (spot_lt (j := a.length) (by omega) (by omega) (fun t ht => ?_) ?_))
        · rw [v_a t ht, ← w_a t ht]
          exact j2 t ht
        · rw [v_c]
          omega
    · intro z
      refine List.lt_irrefl _ (List.lt_trans z (spot_lt (j := j) (by omega) (by omega) (fun t ht => ?_) ?_))
      · rw [v_a t (by omega), ← w_a t (by omega)]
        exact j2 t ht
      · rw [v_a j (by omega), ← w_a j (by omega)]
        exact j3
/-- where it is broken off, the next prime is longer -/
theorem cyc_grows {p a : List Nat} {c k T n : Nat} (h : Suf p) (hT : ∀ d ∈ p, d ≤ T) (hd : n % p.length ≠ 0) (hn : p.length ≤ n) (e : cyc p n = a ++ [c] ++ List.replicate k T) : p.length ≤ a.length := by
  have h2 : 2 ≤ p.length := by
    by_cases c1 : p.length = 1
    · rw [c1, Nat.mod_one] at hd
      exact absurd rfl hd
    · have := h.1
      omega
  have first : p.getD 0 0 < T := by
    have hs := h.2 (p.length - 1) (by omega) (by omega)
    have hlast : p.drop (p.length - 1) = [p.getD (p.length - 1) 0] := by
      rw [List.getD_eq_getElem?_getD, List.getElem?_eq_getElem (by omega), List.drop_eq_getElem_cons (by omega), List.drop_of_length_le (by omega)]
      rfl
    have hm := hT _ (getD_mem (show p.length - 1 < p.length by omega))
    rw [hlast] at hs
    cases p with
    | nil => cases h2
    | cons d p =>
      have h0 : (d :: p).getD 0 0 = d := rfl
      rw [h0]
      rw [List.cons_lt_cons_iff] at hs
      rcases hs with hs | ⟨_, hs⟩
      · omega
      · exact absurd hs (List.not_lt_nil _)
  have hdm := Nat.div_add_mod n p.length
  have hml := Nat.mod_lt n h.1
  have k1 : p.length * 1 ≤ p.length * (n / p.length) := Nat.mul_le_mul_left _ ((Nat.le_div_iff_mul_le h.1).mpr (by omega))
  have hk : p.length * (n / p.length) < n := by omega
  have at_ := cyc_get h.1 hk
  rw [Nat.mul_mod_right] at at_
  rw [e] at at_
  by_cases hc : p.length * (n / p.length) ≤ a.length
  · omega
  · exfalso
    have hlen := congrArg List.length e
    rw [cyc_len h.1, List.length_append, List.length_append, List.length_replicate] at hlen
    have hlen : n = a.length + 1 + k := hlen
    rw [app_getD_r (by rw [List.length_append]; show a.length + 1 ≤ _; omega), List.getD_eq_getElem?_getD, List.getElem?_replicate, if_pos (by rw [List.length_append]; show _ - (a.length + 1) < k; omega)] at at_
    have at_ : T = p.getD 0 0 := at_
    omega
/-! the walk from a ring on -/
structure Way (cs l w : List Nat) : Prop where
  len : w.length = l.length
  lets : ∀ c ∈ w, c ∈ cs
  pre : Pre w
  on : ¬ w < l
  past : ∀ x, RingOf cs l.length x → l < x → w < x
theorem way_start {cs l : List Nat} (hl : Ring l) (hc : ∀ c ∈ l, c ∈ cs) : Way cs l l := ⟨rfl, hc, ring_pre hl, List.lt_irrefl _, fun _ _ h => h⟩
theorem way_step {cs l a : List Nat} {c k T : Nat} (L : Letters cs T) (hc : c + 1 ∈ cs) (W : Way cs l (a ++ [c] ++ List.replicate k T)) :
    (l.length % (a.length + 1) = 0 → NextR cs l (some (cyc (a ++ [c + 1]) l.length))) ∧
    (l.length % (a.length + 1) ≠ 0 → Way cs l (cyc (a ++ [c + 1]) l.length) ∧ ∀ (a' : List Nat) (c' k' : Nat), cyc (a ++ [c + 1]) l.length = a' ++ [c'] ++ List.replicate k' T → a.length < a'.length) := by
  obtain ⟨h1, h2, h3, h4, h5⟩ := W
  have hs := pre_prime h3
  have hp : (a ++ [c + 1]).length = a.length + 1 := by rw [List.length_append]; rfl
  rw [List.length_append, List.length_append, List.length_replicate] at h1
  have h1 : a.length + 1 + k = l.length := h1
  have hcl := cyc_len hs.1 l.length
  have lets : ∀ d ∈ a ++ [c + 1], d ∈ cs := fun d hd => by
    rcases List.mem_append.mp hd with hd | hd
    · exact h2 d (List.mem_append_left _ (List.mem_append_left _ hd))
    · rw [List.mem_singleton.mp hd]
      exact hc
  have lets2 : ∀ d ∈ cyc (a ++ [c + 1]) l.length, d ∈ cs := fun d hd => lets d (cyc_mem hd)
  -- greater than what was reached
  have up : a ++ [c] ++ List.replicate k T < cyc (a ++ [c + 1]) l.length := by
    have hwl : (a ++ [c] ++ List.replicate k T).length = l.length := by rw [List.length_append, List.length_append, List.length_replicate]; exact h1
    refine spot_lt (j := a.length) (by omega) (by omega) (fun t ht => ?_) ?_
    · rw [List.append_assoc, app_getD_l ht, cyc_get (by omega) (by omega), Nat.mod_eq_of_lt (by omega), app_getD_l ht]
    · rw [List.append_assoc, app_getD_r (Nat.le_refl _), Nat.sub_self, cyc_get (by omega) (by omega), Nat.mod_eq_of_lt (by omega), app_getD_r (Nat.le_refl _), Nat.sub_self]
      exact Nat.lt_succ_self c
  have up2 := le_lt h4 up
  have nb : ∀ x, RingOf cs l.length x → l < x → ¬ x < cyc (a ++ [c + 1]) l.length := fun x hx hlt => by
    have z := none_between hx.1 (fun d hd => L.most d (hx.2.2 d hd)) (by rw [hx.2.1]; exact h1.symm) (h5 x hx hlt)
    rw [hx.2.1] at z
    exact z
  constructor
  · intro hd
    exact ⟨⟨cyc_ring hs (by rw [hp]; exact hd), hcl, lets2⟩, up2, nb⟩
  · intro hd
    have off := cyc_off hs (n := l.length) (by rw [hp]; exact hd) (by omega)
    refine ⟨⟨hcl, lets2, cyc_pre hs _, fun z => List.lt_irrefl _ (List.lt_trans z up2), fun x hx hlt => lt_of_not (nb x hx hlt) fun e => ?_⟩, fun a' c' k' e => ?_⟩
    · rw [e] at off
      exact off hx.1
    · have := cyc_grows hs (fun d hd => L.most d (lets d hd)) (by rw [hp]; exact hd) (by omega) e
      omega
theorem way_end {cs l : List Nat} {T : Nat} (L : Letters cs T) (W : Way cs l (List.replicate l.length T)) : NextR cs l none := fun x hx hlt => by
  have z := W.past x hx hlt
  have m := top_max (T := T) (w := x) fun d hd => L.most d (hx.2.2 d hd)
  rw [hx.2.1] at m
  exact m z
/-- without the letters T at its end -/
def strip (T : Nat) (w : List Nat) : List Nat := (w.reverse.dropWhile fun c => c == T).reverse
theorem strip_ways (T : Nat) (w : List Nat) : (strip T w = [] ∧ w = List.replicate w.length T) ∨ ∃ a c k, strip T w = a ++ [c] ∧ c ≠ T ∧ w = a ++ [c] ++ List.replicate k T := by
  have e0 : w.reverse = w.reverse.takeWhile (fun c => c == T) ++ w.reverse.dropWhile (fun c => c == T) := List.takeWhile_append_dropWhile.symm
  have e1 : w.reverse.takeWhile (fun c => c == T) = List.replicate (w.reverse.takeWhile (fun c => c == T)).length T := List.eq_replicate_iff.mpr ⟨rfl, fun c hc => by
    exact eq_of_beq (List.all_eq_true.mp List.all_takeWhile c hc)⟩
  have e2 : w = strip T w ++ List.replicate (w.reverse.takeWhile (fun c => c == T)).length T := by
    have := congrArg List.reverse e0
    rw [List.reverse_reverse, List.reverse_append] at this
    rw [e1, List.reverse_replicate] at this
    exact this
  cases e : w.reverse.dropWhile (fun c => c == T) with
  | nil =>
    have es : strip T w = [] := by
      unfold strip
      rw [e]
      rfl
    refine .inl ⟨es, ?_⟩
    rw [es, List.nil_append] at e2
    have := congrArg List.length e2
    rw [List.length_replicate] at this
    rw [this]
    exact e2
  | cons c r =>
    have es : strip T w = r.reverse ++ [c] := by
      unfold strip
      rw [e, List.reverse_cons]
    refine .inr ⟨r.reverse, c, _, es, fun z => ?_, by rw [es] at e2; exact e2⟩
    have := List.head_dropWhile_not (fun c => c == T) (l := w.reverse) (by rw [e]; exact List.cons_ne_nil _ _)
    simp only [e, List.head_cons] at this
    rw [z] at this
    simp at this
end Br
namespace Br
open PySem PySem.Spec PyProof.Rows L2 Evl SX

/-! ### lists of texts, walked and made -/
theorem given_list {α : Type} (l : List α) (d : α) (P : α → Bool) (g : α → V) : given l.length (fun i => P (l.getD i d)) (fun i => g (l.getD i d)) = (l.filter P).map g := by
  unfold given
  have e : l = (List.range l.length).map fun i => l.getD i d := by
    refine List.ext_getElem (by simp) fun i h1 h2 => ?_
    simp [List.getD_eq_getElem?_getD, List.getElem?_eq_getElem h1]
  conv => rhs; rw [e, List.filter_map, List.map_map]
  rfl
theorem get_map_sV {ls : List (List Nat)} {i : Nat} {x : V} (h : (ls.map sV)[i]? = some x) : ∃ w, ls[i]? = some w ∧ x = .str (S w) ∧ w ∈ ls ∧ ls.getD i [] = w := by
  rw [List.getElem?_map] at h
  cases e : ls[i]? with
  | none =>
    rw [e] at h
    cases h
  | some w =>
    rw [e] at h
    refine ⟨w, rfl, (Option.some.inj h).symm, List.mem_of_getElem? e, ?_⟩
    rw [List.getD_eq_getElem?_getD, e]
    rfl
section
variable {K : PySem.W.Frag} {σ : L2.St} {H H' : Hp} {ta tb tc te tx : TE} {t u : TT} {x y z v : V} {D : Ends} {tu tw tz : TS} {g : TG}
/-- a comprehension over the signs of a text -/
theorem el_lcT {l : List Nat} {j : Nat} {vs : List Nat} (P : Nat → Bool) (f : Nat → V) (h : Ev tx σ H (.str (S l))) (hl : l.length ≤ 40000) (hw : ∀ x, wipe ((wipe σ vs).set j (some x)) vs = wipe σ vs)
    (ht : ∀ c ∈ l, ∀ H1, Ex H H1 → EvT t ((wipe σ vs).set j (some (.str (S [c])))) H1 (P c)) (he : ∀ c ∈ l, ∀ H1, Ex H H1 → P c = true → Ev te ((wipe σ vs).set j (some (.str (S [c])))) H1 (f c)) :
    EvL (tLc (iStr tx) (gName j) t te vs) σ H ((l.filter P).map f) := by
  have at_ : ∀ {i c : Nat}, l[i]? = some c → l.getD i 0 = c := fun {i c} e => by rw [List.getD_eq_getElem?_getD, e]; rfl
  have e := el_lcS (te := te) (t := t) (fun i => P (l.getD i 0)) (fun i => f (l.getD i 0)) h hl hw (fun i c H1 e1 hc => by
    rw [at_ hc]
    exact ht c (List.mem_of_getElem? hc) H1 e1) (fun i c H1 e1 hc hp => by
    rw [at_ hc] at hp ⊢
    exact he c (List.mem_of_getElem? hc) H1 e1 hp)
  rw [given_list l 0 P f] at e
  exact e
/-- over a list of texts that stands -/
theorem el_lcW {a : Addr} {ls : List (List Nat)} {j : Nat} {vs : List Nat} (P : List Nat → Bool) (f : List Nat → V) (h : Ev tx σ H (.ref a)) (hx : SqL K H a (ls.map sV)) (hz : ls.length ≤ 40000) (hw : ∀ x, wipe ((wipe σ vs).set j (some x)) vs = wipe σ vs)
    (ht : ∀ w ∈ ls, ∀ H1, Ex H H1 → EvT t ((wipe σ vs).set j (some (.str (S w)))) H1 (P w)) (he : ∀ w ∈ ls, ∀ H1, Ex H H1 → P w = true → Ev te ((wipe σ vs).set j (some (.str (S w)))) H1 (f w)) :
    EvL (tLc (iList K tx) (gName j) t te vs) σ H ((ls.filter P).map f) := by
  have e := el_lcL (te := te) (t := t) (fun i => P (ls.getD i [])) (fun i => f (ls.getD i [])) h hx (by rw [List.length_map]; exact hz) hw (fun i x H1 e1 hi => by
    obtain ⟨w, _, rfl, hm, e⟩ := get_map_sV hi
    rw [e]
    exact ht w hm H1 e1) (fun i x H1 e1 hi hp => by
    obtain ⟨w, _, rfl, hm, e⟩ := get_map_sV hi
    rw [e] at hp ⊢
    exact he w hm H1 e1 hp)
  rw [List.length_map, given_list ls [] P f] at e
  exact e
/-- over a new one -/
theorem el_lcNW {ls : List (List Nat)} {j : Nat} {vs : List Nat} (P : List Nat → Bool) (f : List Nat → V) (h : EvL tx σ H (ls.map sV)) (hz : ls.length ≤ 40000) (hw : ∀ x, wipe ((wipe σ vs).set j (some x)) vs = wipe σ vs)
    (ht : ∀ w ∈ ls, ∀ H1, Ex H H1 → EvT t ((wipe σ vs).set j (some (.str (S w)))) H1 (P w)) (he : ∀ w ∈ ls, ∀ H1, Ex H H1 → P w = true → Ev te ((wipe σ vs).set j (some (.str (S w)))) H1 (f w)) :
    EvL (tLc (iList K tx) (gName j) t te vs) σ H ((ls.filter P).map f) := by
  have e := el_lcNL (K := K) (te := te) (t := t) (fun i => P (ls.getD i [])) (fun i => f (ls.getD i [])) h (by rw [List.length_map]; exact hz) hw (fun i x H1 e1 hi => by
    obtain ⟨w, _, rfl, hm, e⟩ := get_map_sV hi
    rw [e]
    exact ht w hm H1 e1) (fun i x H1 e1 hi hp => by
    obtain ⟨w, _, rfl, hm, e⟩ := get_map_sV hi
    rw [e] at hp ⊢
    exact he w hm H1 e1 hp)
  rw [List.length_map, given_list ls [] P f] at e
  exact e
/-- xs.extend(new list) -/
theorem s_ext {l : Addr} {xs ys : List V} (hl : H l = some (.lst xs)) (ha : Ev ta σ H (.ref l)) (h : EvL te σ H ys) (hz : xs.length + ys.length ≤ 100000) (k : ∀ H1, Ex H H1 → D.nx σ (upd H1 l (.lst (xs ++ ys)))) :
    tDrop (tBM K "list" rExtend ta (tCons te tNil)) D σ H := ha H (Ex.refl H) _ fun H1 e1 =>
  ⟨Or.inl ⟨rfl, xs, sq_of (e1 l _ hl)⟩, h H1 e1 _ fun p H2 hp e2 h2 => ⟨l, p, xs, ys, rfl, rfl, e2 l _ (e1 l _ hl), h2, sz_of hz, k H2 (e1.trans e2)⟩⟩
theorem q_ext {l : Addr} {xs ys : List V} (hl : H l = some (.lst xs)) (ha : Ev ta σ H (.ref l)) (h : EvL te σ H ys) (hz : xs.length + ys.length ≤ 100000) (k : ∀ H1, Ex H H1 → tz D σ (upd H1 l (.lst (xs ++ ys)))) :
    tSeq (tDrop (tBM K "list" rExtend ta (tCons te tNil))) tz D σ H := s_ext (D := { D with nx := tz D }) hl ha h hz k
end
/-- the letters of so many colours -/
def few (k : Nat) : List Nat := (List.range k).map fun i => 97 + i
theorem few_abc : ∀ {k : Nat}, k ≤ 8 → few k = abc.take k
  | 0, _ => rfl
  | 1, _ => rfl
  | 2, _ => rfl
  | 3, _ => rfl
  | 4, _ => rfl
  | 5, _ => rfl
  | 6, _ => rfl
  | 7, _ => rfl
  | 8, _ => rfl
  | k + 9, h => by omega
theorem few_len (k : Nat) : (few k).length = k := by
  unfold few
  rw [List.length_map, List.length_range]
theorem few_in {k c : Nat} : c ∈ few k ↔ 97 ≤ c ∧ c < 97 + k := by
  unfold few
  rw [List.mem_map]
  constructor
  · rintro ⟨i, hi, rfl⟩
    have := List.mem_range.mp hi
    omega
  · rintro ⟨h1, h2⟩
    exact ⟨c - 97, List.mem_range.mpr (by omega), by omega⟩
theorem few_some {k c : Nat} (hk : k ≤ 8) (h : c ∈ few k) : c ∈ [97, 98, 99, 100, 101, 102, 103, 104] := by
  rw [few_in] at h
  simp only [List.mem_cons, List.not_mem_nil, or_false]
  omega
/-- 'abcdefgh'[:k] -/
theorem ev_few {σ : L2.St} {H : Hp} {te ta : TE} {k : Nat} (h0 : Ev te σ H (.str (S abc))) (h : Ev ta σ H (.int (k : Int))) (hk : k ≤ 8) : Ev (tSl rSlS te tNoPart (tPart ta)) σ H (.str (S (few k))) := by
  have e := ev_to h0 (by decide) h (by omega)
  rw [Int.toNat_natCast, ← few_abc hk] at e
  exact e

/-! ### told as a list of numbers -/
theorem shown_ints : ∀ ns : List Int, PyData.shownAll (ns.map PyData.int) = ns.map fun n => reprV (.int n)
  | [] => by simp [PyData.shownAll]
  | n :: ns => by
    rw [List.map_cons]
    unfold PyData.shownAll
    rw [shown_ints ns]
    simp [PyData.shown, reprV]
theorem showable_ints : ∀ ns : List Int, (∀ n ∈ ns, n.natAbs < 2 ^ 60) → PyData.showableAll (ns.map PyData.int) = true
  | [], _ => by simp [PyData.showableAll]
  | n :: ns, h => by
    rw [List.map_cons]
    unfold PyData.showableAll
    rw [showable_ints ns fun m hm => h m (List.mem_cons_of_mem _ hm)]
    have : plainR (.int n) := repr_int (h n List.mem_cons_self)
    simp [PyData.showable]
    exact this
theorem nodict_ints : ∀ ns : List Int, PyData.hasDictAll (ns.map PyData.int) = false
  | [] => by simp [PyData.hasDictAll]
  | n :: ns => by
    rw [List.map_cons]
    unfold PyData.hasDictAll
    rw [nodict_ints ns]
    simp [PyData.hasDict]
/-! ### without the last letters -/
theorem strip_S {w : List Nat} {T : Nat} : Txt.rstripChars (S w) (S [T]) = S (strip T w) := by
  unfold Txt.rstripChars
  rw [PyProof.Rows.stripBy_eq]
  refine TL.ext_tl ?_
  rw [TL.tl_strSub]
  have e0 : stripLo (S [T]).cps.contains false (S w) = 0 := rfl
  rw [e0]
  have e1 : stripHi (S [T]).cps.contains true (S w) 0 = w.length - (w.reverse.takeWhile (fun c => c == T)).length := by
    unfold stripHi
    rw [if_pos rfl, S_len]
    have : (fun c => (S [T]).cps.contains c) = fun c => c == T := by
      funext c
      show (#[T] : Array Nat).contains c = _
      rw [show (c == T) = decide (c = T) from rfl]
      simp
    show w.length - ((w.drop 0).reverse.takeWhile (fun c => (S [T]).cps.contains c)).length = _
    rw [this, List.drop_zero]
  rw [e1]
  show List.take (w.length - (w.reverse.takeWhile (fun c => c == T)).length - 0) (List.drop 0 w) = strip T w
  rw [List.drop_zero, Nat.sub_zero]
  have e2 : w.reverse = w.reverse.takeWhile (fun c => c == T) ++ w.reverse.dropWhile (fun c => c == T) := List.takeWhile_append_dropWhile.symm
  unfold strip
  have e3 := congrArg List.reverse e2
  rw [List.reverse_reverse, List.reverse_append] at e3
  have key : ∀ (w a b : List Nat), w = a ++ b → w.take (w.length - b.length) = a := by
    rintro _ a b rfl
    simp
  have z := key w _ _ e3
  rw [List.length_reverse] at z
  exact z
end Br
namespace Br
open PySem PySem.Spec PyProof.Rows L2 Evl SX

/-! ### counts -/
def divs (n : Nat) : List Nat := ((List.range n).filter fun i => decide (n % (1 + i) = 0)).map fun i => 1 + i
def cop (n : Nat) : Nat := ((List.range n).filter fun i => decide (Nat.gcd (1 + i) n = 1)).length
def ringsS (n c : Nat) : List Nat → Int → Int := fun ds t => ds.foldl (fun t d => t + (cop d : Int) * ((c ^ (n / d) : Nat) : Int)) t
def ringsN (n c : Nat) : Int := ringsS n c (divs n) 0 / (n : Int)
def primesN : Nat → Nat → Nat → Int
  | 0, _, _ => 0
  | f + 1, n, c => (divs n).foldl (fun l d => if d < n then l - (d : Int) * primesN f d c else l) ((c ^ n : Nat) : Int) / (n : Int)
def ownN (n c : Nat) : Int := if n % 2 = 1 then ((c ^ (n / 2) : Nat) : Int) * (c : Int) else (((c ^ (n / 2) : Nat) : Int) + ((c ^ (n / 2) : Nat) : Int) * (c : Int)) / 2
def mirN (n c : Nat) : Int := (ringsN n c + ownN n c) / 2
def greatB (n c : Nat) : Bool := decide (((divs n).map fun d => primesN 6 d c).sum = ringsN n c) && decide (2 * mirN n c = ringsN n c + ownN n c) && decide (2 * ownN n c = ((c ^ (n / 2 + 1) : Nat) : Int) + ((c ^ ((n + 1) / 2) : Nat) : Int))
def greatAll : Bool := (List.range 60).all fun i => (List.range 8).all fun j => greatB (1 + i) (1 + j)
theorem great_all : greatAll = true := by decide +kernel
theorem great {n c : Nat} (n1 : 1 ≤ n) (n2 : n ≤ 60) (c1 : 1 ≤ c) (c2 : c ≤ 8) : ((divs n).map fun d => primesN 6 d c).sum = ringsN n c ∧ 2 * mirN n c = ringsN n c + ownN n c ∧ 2 * ownN n c = ((c ^ (n / 2 + 1) : Nat) : Int) + ((c ^ ((n + 1) / 2) : Nat) : Int) := by
  have h := List.all_eq_true.mp (List.all_eq_true.mp great_all (n - 1) (List.mem_range.mpr (by omega))) (c - 1) (List.mem_range.mpr (by omega))
  rw [show 1 + (n - 1) = n by omega, show 1 + (c - 1) = c by omega] at h
  unfold greatB at h
  simp only [Bool.and_eq_true, decide_eq_true_eq] at h
  exact ⟨h.1.1, h.1.2, h.2⟩
/-! counted by trying -/
def sizes : List (Nat × Nat) := [(1, 1), (1, 8), (2, 5), (3, 4), (4, 3), (5, 2), (6, 2), (7, 2), (8, 2), (9, 2), (10, 2), (3, 8), (4, 5), (5, 3), (6, 3), (2, 8), (12, 1), (60, 1), (5, 4), (3, 7)]
def loneB (n : Nat) (w : List Nat) : Bool := ((List.range (n - 1)).filter fun k => decide (turnL w (1 + k) = w)).isEmpty
def ownB (w : List Nat) : Bool := (List.range w.length).any fun k => decide (turnL w.reverse k = w)
def bothB (w : List Nat) : Bool := (List.range w.length).all fun k => !decide (turnL w.reverse k < w)
def countedK (n c : Nat) : Bool := decide ([(((allR (few c) n).length : Nat) : Int), (((allR (few c) n).filter (loneB n)).length : Nat), (((allR (few c) n).filter bothB).length : Nat), (((allR (few c) n).filter ownB).length : Nat)] = [ringsN n c, primesN 6 n c, mirN n c, ownN n c])
theorem least_ring {w : List Nat} (hw : 0 < w.length) : decide (leastL w = w) = ringB w := by
  rw [Bool.eq_iff_iff, decide_eq_true_eq, ringB_iff, ring_least hw]
  constructor
  · intro h
    have := leastL_is hw
    rw [h] at this
    exact this
  · exact fun h => least_uniq (leastL_is hw) h
theorem least_rings {cs : List Nat} {n : Nat} (hn : 0 < n) : (allW cs n).filter (fun w => decide (leastL w = w)) = allR cs n := by
  unfold allR
  refine List.filter_congr fun w hw => ?_
  exact least_ring (by rw [(allW_mem.mp hw).1]; exact hn)
theorem own_eq {w : List Nat} (hw : 0 < w.length) (h : Ring w) : decide (leastL w.reverse = w) = ownB w := by
  have hr : 0 < w.reverse.length := by rw [List.length_reverse]; exact hw
  unfold ownB
  rw [Bool.eq_iff_iff, decide_eq_true_eq, List.any_eq_true]
  constructor
  · intro e
    obtain ⟨k, hk, ek⟩ := mem_turns.mp (leastL_is hr).1
    rw [List.length_reverse] at hk
    exact ⟨k, List.mem_range.mpr hk, decide_eq_true (by rw [← ek]; exact e)⟩
  · rintro ⟨k, hk, ek⟩
    have hk := List.mem_range.mp hk
    have ek := of_decide_eq_true ek
    refine least_uniq (leastL_is hr) ((least_turn (a := k) (by rw [List.length_reverse]; exact hk)).mp ?_)
    rw [ek]
    exact (ring_least hw).mp h
theorem both_eq {w : List Nat} (hw : 0 < w.length) : (!decide (leastL w.reverse < w)) = bothB w := by
  have hr : 0 < w.reverse.length := by rw [List.length_reverse]; exact hw
  have hl := leastL_is hr
  unfold bothB
  rw [Bool.eq_iff_iff, List.all_eq_true, Bool.not_eq_true', decide_eq_false_iff_not]
  constructor
  · intro h k hk
    have hk := List.mem_range.mp hk
    rw [Bool.not_eq_true', decide_eq_false_iff_not]
    exact fun z => h (le_lt (hl.2 _ (mem_turns.mpr ⟨k, by rw [List.length_reverse]; exact hk, rfl⟩)) z)
  · intro h z
    obtain ⟨k, hk, ek⟩ := mem_turns.mp hl.1
    rw [List.length_reverse] at hk
    have := h k (List.mem_range.mpr hk)
    rw [Bool.not_eq_true', decide_eq_false_iff_not, ← ek] at this
    exact this z
theorem counted_all : (sizes.all fun s => countedK s.1 s.2) = true := by decide +kernel
theorem sizes_all : (sizes.all fun s => decide (1 ≤ s.1) && decide (s.1 ≤ 60) && decide (1 ≤ s.2) && decide (s.2 ≤ 8) && decide (s.2 ^ s.1 ≤ 1024)) = true := by decide +kernel
theorem size_bd {n c : Nat} (h : (n, c) ∈ sizes) : 1 ≤ n ∧ n ≤ 60 ∧ 1 ≤ c ∧ c ≤ 8 ∧ c ^ n ≤ 1024 := by
  have := List.all_eq_true.mp sizes_all _ h
  simp only [Bool.and_eq_true, decide_eq_true_eq] at this
  obtain ⟨⟨⟨⟨h1, h2⟩, h3⟩, h4⟩, h5⟩ := this
  exact ⟨h1, h2, h3, h4, h5⟩
theorem counted {n c : Nat} (h : (n, c) ∈ sizes) : [(((allR (few c) n).length : Nat) : Int), (((allR (few c) n).filter (loneB n)).length : Nat), (((allR (few c) n).filter bothB).length : Nat), (((allR (few c) n).filter ownB).length : Nat)] = [ringsN n c, primesN 6 n c, mirN n c, ownN n c] := by
  have := List.all_eq_true.mp counted_all _ h
  exact of_decide_eq_true this
theorem told_small : (sizes.all fun s => [ringsN s.1 s.2, primesN 6 s.1 s.2, mirN s.1 s.2, ownN s.1 s.2].all fun z => decide (z.natAbs < 2 ^ 60)) = true := by decide +kernel
end Br
namespace Br
open PySem PySem.Spec PyProof.Rows L2 Evl SX

theorem op_eqDK {X : Cx} {K : PySem.W.Frag} (h : X.K = K) (hu : X.A.units + 64 < cLine) : OpR X (compareOp .Eq) (rEqD K) := by
  rw [← h]
  exact op_eqD hu
theorem op_neDK {X : Cx} {K : PySem.W.Frag} (h : X.K = K) (hu : X.A.units + 64 < cLine) : OpR X (compareOp .NotEq) (rNeD K) := by
  rw [← h]
  exact op_neD hu
/-! ### promises of the counts -/
/-- a whole number from 1 to the top -/
def inB (top : Int) : V → Bool
  | .int i => decide (1 ≤ i) && decide (i ≤ top)
  | _ => false
theorem inB_nat {top : Nat} {v : V} (h : inB (top : Int) v = true) : ∃ n : Nat, v = .int (n : Int) ∧ 1 ≤ n ∧ n ≤ top := by
  cases v with
  | int i =>
    unfold inB at h
    simp only [Bool.and_eq_true, decide_eq_true_eq] at h
    exact ⟨i.toNat, by congr 1; omega, by omega, by omega⟩
  | _ => cases h
theorem inB_ok {top n : Nat} (h1 : 1 ≤ n) (h2 : n ≤ top) : inB (top : Int) (.int (n : Int)) = true := by
  unfold inB
  simp only [Bool.and_eq_true, decide_eq_true_eq]
  omega
def sp_need (K : PySem.W.Frag) (CN : Addr) (top : Int) : Sp := fun vs H Q E => ∃ v, vs = [v] ∧ ThI K H v ∧ (inB top v = true → RetV .non H Q) ∧ (inB top v = false → Ref E CN H)
/-- a count by a length and colours -/
def sp_many (K : PySem.W.Frag) (CN : Addr) (g : Nat → Nat → Int) : Sp := fun vs H Q E => ∃ v u, vs = [v, u] ∧ ThI K H v ∧ ThI K H u ∧ (inB 60 v = false → Ref E CN H) ∧ (inB 60 v = true → inB 8 u = false → Ref E CN H) ∧
  ∀ n c : Nat, v = .int (n : Int) → u = .int (c : Int) → 1 ≤ n → n ≤ 60 → 1 ≤ c → c ≤ 8 → RetV (.int (g n c)) H Q
/-- a number -/
def iV (d : Nat) : V := .int (d : Int)
def sp_powers : Sp := fun vs H Q _ => ∃ n c : Nat, vs = [.int (n : Int), .int (c : Int)] ∧ n ≤ 100 ∧ c ≤ 8 ∧ RetV (.int ((c ^ n : Nat) : Int)) H Q
def sp_divs : Sp := fun vs H Q _ => ∃ n : Nat, vs = [.int (n : Int)] ∧ 1 ≤ n ∧ n ≤ 60 ∧ RetL ((divs n).map iV) H Q
def sp_cop : Sp := fun vs H Q _ => ∃ n : Nat, vs = [.int (n : Int)] ∧ 1 ≤ n ∧ n ≤ 60 ∧ RetV (.int (cop n : Int)) H Q
theorem divs_in {n d : Nat} : d ∈ divs n ↔ 1 ≤ d ∧ d ≤ n ∧ n % d = 0 := by
  unfold divs
  rw [List.mem_map]
  constructor
  · rintro ⟨i, hi, rfl⟩
    obtain ⟨h1, h2⟩ := List.mem_filter.mp hi
    have := List.mem_range.mp h1
    exact ⟨by omega, by omega, of_decide_eq_true h2⟩
  · rintro ⟨h1, h2, h3⟩
    refine ⟨d - 1, List.mem_filter.mpr ⟨List.mem_range.mpr (by omega), decide_eq_true ?_⟩, by omega⟩
    rw [show 1 + (d - 1) = d by omega]
    exact h3
theorem divs_len (n : Nat) : (divs n).length ≤ n := by
  unfold divs
  rw [List.length_map]
  have := List.length_filter_le (fun i => decide (n % (1 + i) = 0)) (List.range n)
  rw [List.length_range] at this
  exact this
theorem fold_next {α β : Type} {f : β → α → β} {xs : List α} {b : β} {i : Nat} {x : α} (h : xs[i]? = some x) : (xs.take (i + 1)).foldl f b = f ((xs.take i).foldl f b) x := by
  rw [List.take_succ, h, List.foldl_append]
  rfl
theorem get_map_iV {ds : List Nat} {i : Nat} {x : V} (h : (ds.map iV)[i]? = some x) : ∃ d, ds[i]? = some d ∧ x = .int (d : Int) ∧ d ∈ ds := by
  rw [List.getElem?_map] at h
  cases e : ds[i]? with
  | none =>
    rw [e] at h
    cases h
  | some d =>
    rw [e] at h
    exact ⟨d, rfl, (Option.some.inj h).symm, List.mem_of_getElem? e⟩
/-- a pair of the sizes -/
def SizeP (v : V) (H : Hp) : Prop := ∃ (p : Addr) (n c : Nat), v = .ref p ∧ H p = some (.tup [.int (n : Int), .int (c : Int)]) ∧ (n, c) ∈ sizes
theorem SizeP.mono (v : V) (H1 H2 : Hp) (e : Ex H1 H2) (h : SizeP v H1) : SizeP v H2 := by
  obtain ⟨p, n, c, rfl, h, m⟩ := h
  exact ⟨p, n, c, rfl, e p _ h, m⟩
def sp_sizes : Sp := fun vs H Q _ => ∃ i : Int, vs = [.int i] ∧ 0 ≤ i ∧ ∀ v H2, Ex H H2 → SizeP v H2 → Q v H2
def sp_allw : Sp := fun vs H Q _ => ∃ n c : Nat, vs = [.int (n : Int), .int (c : Int)] ∧ n ≤ 60 ∧ 1 ≤ c ∧ c ≤ 8 ∧ c ^ n ≤ 2000 ∧ RetL ((allW (few c) n).map sV) H Q
theorem allW_len (c n : Nat) : (allW (few c) n).length = c ^ n := by rw [allW_many, few_len]
theorem allW_ok {c n : Nat} (hc : c ≤ 8) (h1 : 1 ≤ n) (h2 : n ≤ 60) {w : List Nat} (h : w ∈ allW (few c) n) : okS w = true := by
  obtain ⟨e, h3⟩ := allW_mem.mp h
  exact ok_word (by omega) (by omega) fun d hd => few_some hc (h3 d hd)
section
variable {K : PySem.W.Frag} {σ : L2.St} {H H' : Hp} {ta tb tc te tx : TE} {t : TA} {x y z v : V} {P : V → Hp → Prop} {D : Ends}
/-- a list all of whose items are of one kind -/
def AllP (P : V → Hp → Prop) (n : Nat) (v : V) (H : Hp) : Prop := ∃ p xs, v = .ref p ∧ H p = some (.lst xs) ∧ xs.length = n ∧ ∀ x ∈ xs, P x H
theorem ep_lstAll {n : Nat} (mono : ∀ v H1 H2, Ex H1 H2 → P v H1 → P v H2) (h : EvAll t σ H n P) (hn : n ≤ 1000) : EvP (tLst t) σ H (AllP P n) := fun H1 e Q q =>
  h H1 e _ fun vs H2 e2 hl hv => ⟨sz_of (by omega), fun p hp => q _ _ (e2.trans (Ex.new hp)) ⟨p, vs, rfl, upd_same, hl, fun x hx => mono x H2 _ (Ex.new hp) (hv x hx)⟩⟩
theorem ep_catAll {p : Addr} {xs : List V} {n : Nat} (mono : ∀ v H1 H2, Ex H1 H2 → P v H1 → P v H2) (ha : Ev ta σ H (.ref p)) (hp : H p = some (.lst xs)) (hx : ∀ x ∈ xs, P x H) (h : EvAll t σ H n P) (hn : xs.length + n ≤ 1000) : EvP (tOp rCat ta (tLst t)) σ H (AllP P (xs.length + n)) := fun H1 e Q q =>
  ha H1 e _ fun H2 e2 => h H2 (e.trans e2) _ fun vs H3 e3 hl hv => ⟨sz_of (by omega), fun r hr => ⟨p, r, xs, vs, rfl, rfl, (((e.trans e2).trans e3).trans (Ex.new hr)) p _ hp, upd_same, sz_of (by omega), fun s hs => q _ _ ((e2.trans e3).trans ((Ex.new hr).trans (Ex.new hs))) ⟨s, xs ++ vs, rfl, upd_same, by rw [List.length_append, hl], fun x hm => by
    rcases List.mem_append.mp hm with hm | hm
    · exact mono x H _ (((e.trans e2).trans e3).trans ((Ex.new hr).trans (Ex.new hs))) (hx x hm)
    · exact mono x H3 _ ((Ex.new hr).trans (Ex.new hs)) (hv x hm)⟩⟩⟩
/-- one of the items of a list that stands -/
theorem ep_pickV {p : Addr} {xs : List V} {i : Int} (mono : ∀ v H1 H2, Ex H1 H2 → P v H1 → P v H2) (ha : Ev ta σ H (.ref p)) (hp : H p = some (.lst xs)) (hx : ∀ x ∈ xs, P x H) (hb : ∀ H1, Ex H H1 → Ev tb σ H1 (.int i)) (h0 : 0 ≤ i) (h1 : i < xs.length) : EvP (tOp (rIxL K) ta tb) σ H P := fun H1 e Q q =>
  ha H1 e _ fun H2 e2 => hb H2 (e.trans e2) H2 (Ex.refl _) _ fun H3 e3 => ⟨p, xs, i, xs[i.toNat]'(by omega), rfl, rfl, sq_of (((e.trans e2).trans e3) p _ hp), atI_get h0 h1, q _ H3 (e2.trans e3) (mono _ H H3 ((e.trans e2).trans e3) (hx _ (List.getElem_mem _)))⟩
theorem s_par {i j : Nat} {ta : TA} {v w : V} (h : EvA ta σ H [v, w]) (k : ∀ H1, Ex H H1 → D.nx ((σ.set i (some v)).set j (some w)) H1) : tPar i j ta D σ H := h H (Ex.refl H) _ fun H1 e => ⟨v, w, rfl, k H1 e⟩
theorem q_par {i j : Nat} {ta : TA} {v w : V} {tz : TS} (h : EvA ta σ H [v, w]) (k : ∀ H1, Ex H H1 → tz D ((σ.set i (some v)).set j (some w)) H1) : tSeq (tPar i j ta) tz D σ H := s_par (D := { D with nx := tz D }) h k
/-- a, b = a pair of numbers -/
theorem q_pair {i j : Nat} {te : TE} {tz : TS} (h : EvP te σ H SizeP) (k : ∀ (n c : Nat) H1, Ex H H1 → (n, c) ∈ sizes → tz D ((σ.set i (some (.int (n : Int)))).set j (some (.int (c : Int)))) H1) :
    tSeq (tAsg te (gTup K 2 (gCons (gName i) (gCons (gName j) gNil)))) tz D σ H := h H (Ex.refl H) _ fun v H1 e hv => by
  obtain ⟨p, n, c, rfl, hp, hm⟩ := hv
  exact ⟨p, _, rfl, st_of hp, rfl, _, _, rfl, _, _, rfl, rfl, k n c H1 e hm⟩
theorem ev_sum {ns : List Int} (h : EvL te σ H (ns.map V.int)) : Ev (tCB (rSum K) (tCons te tNil)) σ H (.int ns.sum) := fun H1 e Q q =>
  h H1 e _ fun p H2 _ e2 hp => ⟨p, ns, rfl, sq_of hp, q H2 e2⟩
theorem ev_gcd {a b : Nat} (h1 : Ev ta σ H (.int (a : Int))) (h2 : Ev tb σ H (.int (b : Int))) : Ev (tCB rGcd (tCons ta (tCons tb tNil))) σ H (.int ((Nat.gcd a b : Nat) : Int)) := ev_cb (ea_cons h1 (ea_cons h2 ea_nil)) fun H1 _ _ q => ⟨a, b, rfl, by
  rw [Int.natAbs_natCast, Int.natAbs_natCast]
  exact q H1 (Ex.refl H1)⟩
/-- repr of a list of numbers -/
theorem ev_reprI {ns : List Int} (h : EvL te σ H (ns.map V.int)) (hn : ∀ n ∈ ns, n.natAbs < 2 ^ 60) (hl : ns.length ≤ 60) : Ev (tCB (rReprD K) (tCons te tNil)) σ H (.str (PyData.list (ns.map PyData.int)).shown) := fun H1 e Q q =>
  h H1 e _ fun p H2 _ e2 hp => ⟨.ref p, .list (ns.map PyData.int), rfl, .lst (sq_of hp) (dpa_ints ns), by
    unfold PyData.showable
    exact showable_ints ns hn, by
    unfold PyData.hasDict
    exact nodict_ints ns, by
    unfold PyData.depth
    rw [deep_ints]
    decide, by
    unfold PyData.shown
    rw [shown_ints]
    refine Nat.le_trans (list_text_len _) ?_
    have one : ∀ ms : List Int, (∀ m ∈ ms, m.natAbs < 2 ^ 60) → ((ms.map fun m => reprV (.int m)).map fun t => t.length + 2).sum ≤ 2000 * ms.length := by
      intro ms
      induction ms with
      | nil => intro _; exact Nat.le_refl _
      | cons m ms ih =>
        intro hm
        have h1 := ih fun k hk => hm k (List.mem_cons_of_mem _ hk)
        have h2 : (reprV (.int m)).length ≤ 1921 := int_text_len_1921 (repr_int (hm m List.mem_cons_self))
        rw [List.map_cons, List.map_cons, List.sum_cons, List.length_cons]
        omega
    have := one ns hn
    exact Nat.le_trans (Nat.add_le_add_right (Nat.le_trans this (Nat.mul_le_mul_left 2000 hl)) 2) (by decide), ⟨p, rfl⟩, q H2 e2⟩
end
end Br
namespace Br
open PySem PySem.Spec PyProof.Rows L2 Evl SX

/-! ### loops: over a text, downward, over two lists -/
section
variable {K : PySem.W.Frag} {σ : L2.St} {H H' : Hp} {ta tb tc te tx : TE} {t : TT} {x y z v : V} {D : Ends} {tu tz : TS}
/-- for letter in text: I tells the slots -/
theorem s_forS {l : List Nat} {j : Nat} (h : Ev tx σ H (.str (S l))) (I : Nat → L2.St → Prop) (h0 : I 0 σ)
    (hs : ∀ (N : L2.St → Hp → Prop) i c σ' H', (∀ σ2 H2, I (i + 1) σ2 → Ex H' H2 → N σ2 H2) → I i σ' → Ex H H' → l[i]? = some c → tu { D with nx := N, ct := N, bk := D.nx } (σ'.set j (some (.str (S [c])))) H')
    (hd : ∀ σ' H', I l.length σ' → Ex H H' → D.nx σ' H') : tFor (iStr tx) (gName j) tu D σ H := h H (Ex.refl H) _ fun H1 e1 => ⟨S l, rfl,
  for_it (walk_str (z := S l)) (fun i σ' H' => I i σ' ∧ Ex H H') ⟨h0, e1⟩ (fun _ _ _ _ _ => True.intro) (fun i v σ' H2 H3 hi p y => by
    obtain ⟨rfl, c, hc, rfl⟩ := y
    have hc' : l[i]? = some c := by simpa using hc
    exact hs _ i c σ' _ (fun σ2 H2 h2 e2 => ⟨h2, p.2.trans e2⟩) p.1 p.2 hc') (fun σ' H' p => hd σ' H' (by
    have hz : (S l).cps.size = l.length := by simp
    rw [← hz]
    exact p.1) p.2)⟩
theorem q_forS {l : List Nat} {j : Nat} (h : Ev tx σ H (.str (S l))) (I : Nat → L2.St → Prop) (h0 : I 0 σ)
    (hs : ∀ (N : L2.St → Hp → Prop) i c σ' H', (∀ σ2 H2, I (i + 1) σ2 → Ex H' H2 → N σ2 H2) → I i σ' → Ex H H' → l[i]? = some c → tu { D with nx := N, ct := N, bk := tz D } (σ'.set j (some (.str (S [c])))) H')
    (hd : ∀ σ' H', I l.length σ' → Ex H H' → tz D σ' H') : tSeq (tFor (iStr tx) (gName j) tu) tz D σ H := s_forS (D := { D with nx := tz D }) h I h0 hs hd
/-- for i in range(n - 1, -1, -1) -/
theorem q_forDown {n : Nat} {j : Nat} {ta : TA} (h : EvA ta σ H [.int ((n : Int) - 1), .int (-1), .int (-1)]) (hn : n ≤ 100000) (I : Nat → L2.St → Prop) (h0 : I 0 σ)
    (hs : ∀ (N : L2.St → Hp → Prop) i σ' H', (∀ σ2 H2, I (i + 1) σ2 → Ex H' H2 → N σ2 H2) → i < n → I i σ' → Ex H H' → tu { D with nx := N, ct := N, bk := tz D } (σ'.set j (some (.int ((n - 1 - i : Nat) : Int)))) H')
    (hd : ∀ σ' H', I n σ' → Ex H H' → tz D σ' H') : tSeq (tFor (iRng3 ta) (gName j) tu) tz D σ H := h H (Ex.refl H) _ fun H1 e1 => by
  have rg := RgC.neg (i := (n : Int) - 1) (j := -1) (by omega) (by omega) (by omega) (by omega)
  rw [show ((n : Int) - 1 - -1).toNat = n by omega] at rg
  refine ⟨(n : Int) - 1, -1, -1, n, rfl, rg, for_rangeC (D := { D with nx := tz D }) (fun i σ' H' => I i σ' ∧ Ex H H') ⟨h0, e1⟩ (fun i σ' H' hi p => ?_) (fun σ' H' p => hd σ' H' p.1 p.2)⟩
  have z := hs (fun σ' H' => I (i + 1) σ' ∧ Ex H H') i σ' H' (fun σ2 H2 h2 e2 => ⟨h2, p.2.trans e2⟩) hi p.1 p.2
  have e : ((n - 1 - i : Nat) : Int) = (n : Int) - 1 + (i : Nat) * -1 := by omega
  rw [e] at z
  exact z
/-- for a, b in zip(a list that stands, a new one) -/
theorem s_forZ {p : Addr} {xs ys : List V} {j1 j2 : Nat} (ha : Ev ta σ H (.ref p)) (hx : SqL K H p xs) (hb : ∀ H1, Ex H H1 → EvL tb σ H1 ys) (I : Nat → L2.St → Prop) (h0 : I 0 σ)
    (hs : ∀ (N : L2.St → Hp → Prop) i x y σ' H', (∀ σ2 H2, I (i + 1) σ2 → Ex H' H2 → N σ2 H2) → I i σ' → Ex H H' → xs[i]? = some x → ys[i]? = some y → tu { D with nx := N, ct := N, bk := D.nx } ((σ'.set j1 (some x)).set j2 (some y)) H')
    (hd : ∀ σ' H', I (min xs.length ys.length) σ' → Ex H H' → D.nx σ' H') : tFor (iZip K (tCons ta (tCons tb tNil))) (gTup K 2 (gCons (gName j1) (gCons (gName j2) gNil))) tu D σ H :=
  ha H (Ex.refl H) _ fun H1 e1 => hb H1 e1 H1 (Ex.refl H1) _ fun r H2 _ e2 h2 => ⟨p, r, xs, ys, rfl, ex_l (e1.trans e2) hx, sq_of h2,
    for_it (walk_zip (K := K) (a := p) (b := r) (xs := xs) (ys := ys) rfl) (fun i σ' H' => I i σ' ∧ Ex H2 H') ⟨h0, Ex.refl H2⟩ (fun i σ' H' _ c => ⟨ex_l ((e1.trans e2).trans c.2) hx, sq_of (c.2 r _ h2)⟩)
      (fun i v σ' H3 H4 hi c y => by
        obtain ⟨T, a, b, rfl, hT, rfl, ea, eb⟩ := y
        refine ⟨T, _, rfl, st_of upd_same, rfl, _, _, rfl, _, _, rfl, rfl, ?_⟩
        exact hs _ i a b σ' _ (fun σ2 H2 h2 e2 => ⟨h2, (c.2.trans (Ex.new hT)).trans e2⟩) c.1 (((e1.trans e2).trans c.2).trans (Ex.new hT)) ea eb)
      (fun σ' H' c => hd σ' H' c.1 ((e1.trans e2).trans c.2))⟩
theorem q_forZ {p : Addr} {xs ys : List V} {j1 j2 : Nat} (ha : Ev ta σ H (.ref p)) (hx : SqL K H p xs) (hb : ∀ H1, Ex H H1 → EvL tb σ H1 ys) (I : Nat → L2.St → Prop) (h0 : I 0 σ)
    (hs : ∀ (N : L2.St → Hp → Prop) i x y σ' H', (∀ σ2 H2, I (i + 1) σ2 → Ex H' H2 → N σ2 H2) → I i σ' → Ex H H' → xs[i]? = some x → ys[i]? = some y → tu { D with nx := N, ct := N, bk := tz D } ((σ'.set j1 (some x)).set j2 (some y)) H')
    (hd : ∀ σ' H', I (min xs.length ys.length) σ' → Ex H H' → tz D σ' H') : tSeq (tFor (iZip K (tCons ta (tCons tb tNil))) (gTup K 2 (gCons (gName j1) (gCons (gName j2) gNil))) tu) tz D σ H := s_forZ (D := { D with nx := tz D }) ha hx hb I h0 hs hd
/-! ### text.rstrip(letter), text.index(letter), the greatest letter -/
def rRstrip : V → List V → Hp → VK → Prop := fun x xs H Q => ∃ a b, x = .str a ∧ xs = [.str b] ∧ a.length ≤ sizeLine ∧ Q (.str (Txt.rstripChars a b)) H
theorem ev_rstrip {w : List Nat} {T : Nat} (h1 : Ev ta σ H (.str (S w))) (h2 : Ev tb σ H (.str (S [T]))) (hl : w.length ≤ 100000) : Ev (tBM K "str" rRstrip ta (tCons tb tNil)) σ H (.str (S (strip T w))) := fun H1 e _ q =>
  h1 H1 e _ fun H2 e2 => ⟨rfl, h2 H2 (e.trans e2) _ fun H3 e3 => ⟨S w, S [T], rfl, rfl, sz_txt hl, by
    rw [strip_S]
    exact q H3 (e2.trans e3)⟩⟩
def rSindex : V → List V → Hp → VK → Prop := fun x xs H Q => ∃ a b i rest, x = .str a ∧ xs = [.str b] ∧ Builtin.Str.occurrences a b 0 a.length 1 = i :: rest ∧ Q (.int (i : Nat)) H
theorem abc_index {c : Nat} (h : c ∈ abc) : ∃ rest, Builtin.Str.occurrences (S abc) (S [c]) 0 (S abc).length 1 = (c - 97) :: rest := by
  simp only [abc, List.mem_cons, List.not_mem_nil, or_false] at h
  rcases h with rfl | rfl | rfl | rfl | rfl | rfl | rfl | rfl <;> exact ⟨[], by decide +kernel⟩
theorem ev_index {c : Nat} (h1 : Ev ta σ H (.str (S abc))) (h2 : Ev tb σ H (.str (S [c]))) (hc : c ∈ abc) : Ev (tBM K "str" rSindex ta (tCons tb tNil)) σ H (.int ((c - 97 : Nat) : Int)) := fun H1 e _ q =>
  h1 H1 e _ fun H2 e2 => ⟨rfl, h2 H2 (e.trans e2) _ fun H3 e3 => by
    obtain ⟨rest, ho⟩ := abc_index hc
    exact ⟨S abc, S [c], _, rest, rfl, rfl, ho, q H3 (e2.trans e3)⟩⟩
end
theorem best_gt (val : Nat → Nat) : ∀ n, argBest (fun i j => decide (val j < val i)) n ≤ n ∧ ∀ j, j ≤ n → val j ≤ val (argBest (fun i j => decide (val j < val i)) n)
  | 0 => ⟨Nat.le_refl _, fun j hj => by
    have e : j = 0 := by omega
    subst e
    exact Nat.le_refl _⟩
  | n + 1 => by
    obtain ⟨h1, h2⟩ := best_gt val n
    unfold argBest
    by_cases c : val (argBest (fun i j => decide (val j < val i)) n) < val (n + 1)
    · rw [if_pos (decide_eq_true c)]
      refine ⟨Nat.le_refl _, fun j hj => ?_⟩
      by_cases hn : j ≤ n
      · have := h2 j hn
        omega
      · have e : j = n + 1 := by omega
        subst e
        exact Nat.le_refl _
    · rw [if_neg (by rw [decide_eq_false c]; decide)]
      refine ⟨by omega, fun j hj => ?_⟩
      by_cases hn : j ≤ n
      · exact h2 j hn
      · have e : j = n + 1 := by omega
        subst e
        omega
def rMaxT : List V → Hp → VK → Prop := fun vs H Q => ∃ l : List Nat, vs = [.str (S l)] ∧ l ≠ [] ∧ (∀ c ∈ l, c < 128) ∧ ∀ m, m ∈ l → (∀ y ∈ l, y ≤ m) → Q (.str (S [m])) H
theorem cr_maxT {X : Cx} (hc : X.calm = true) : CallR X (.builtin "max") rMaxT := by
  intro pins s σ H vs us Q I r h
  obtain ⟨l, rfl, hne, hA, q⟩ := h
  obtain ⟨u, rfl, ru⟩ := vals1 r
  obtain ⟨t, rfl⟩ := ru
  have hpos : 0 < l.length := List.length_pos_iff.mpr hne
  have hsz : (S l).cps.size = l.length := by simp
  have hall : (S l).cps.all (· < 128) = true := by
    rw [Array.all_eq_true_iff_forall_mem]
    intro c hc
    exact decide_eq_true (hA c (by simpa using hc))
  have at_ : ∀ (i : Nat) (v : Value), SignAt (S l) i v → ∃ t, v = .str (S [l.getD i 0]) t := by
    rintro i v ⟨c, t, e, rfl⟩
    have e' : l[i]? = some c := by simpa using e
    refine ⟨t, ?_⟩
    rw [List.getD_eq_getElem?_getD, e']
    rfl
  refine call_max_walk (wpAny_pyIter_ascii hall ?_)
  refine ⟨_, _, _, _, _, _, (fun i j => decide (l.getD j 0 < l.getD i 0)), rfl, Walks.strAscii (A := X.A.in1) (I.ok.hd hc) s.heap.objs.size (S l) t, ⟨_, Heap.get?_push_size _ rfl, rfl, rfl⟩, ?_, by rw [hsz]; exact hpos, ?_, ?_⟩
  · intro b hb
    show b < (s.heap.push _).objs.size
    rw [Heap.size_push]
    rcases List.mem_cons.mp hb with rfl | hb
    · exact Nat.lt_succ_self _
    · cases hb
  · intro i j vi vj s2 Q2 E2 hi hj hq
    obtain ⟨t1, rfl⟩ := at_ i vi hi
    obtain ⟨t2, rfl⟩ := at_ j vj hj
    have hq' : Q2 (.bool (decide ((S [l.getD j 0]).cps.toList < (S [l.getD i 0]).cps.toList))) s2 := by
      have e : decide ((S [l.getD j 0]).cps.toList < (S [l.getD i 0]).cps.toList) = decide (l.getD j 0 < l.getD i 0) := by
        show decide ([l.getD j 0] < [l.getD i 0]) = _
        rw [Bool.eq_iff_iff, decide_eq_true_eq, decide_eq_true_eq, List.cons_lt_cons_iff]
        simp
      rw [e]
      exact hq
    exact richCompare_gives (op := .Gt) (typeIs_str s2 _ t1) (typeIs_str s2 _ t2) F.slot_str_gt F.entry_str_gt (F.args_str_gt_2 _ _) (gives_str_gt _ _ t1 t2) (fun x => nomatch x) hq'
  · intro v h' tk hv hk
    rw [hsz] at hv
    obtain ⟨b1, b2⟩ := best_gt (fun i => l.getD i 0) (l.length - 1)
    obtain ⟨t3, rfl⟩ := at_ _ v hv
    refine ⟨.str _, H, I.kept (t' := tk) fun b o e => hk b o (fun z => ?_) (Heap.get?_push_of_some _ e), ⟨t3, rfl⟩, q _ ?_ fun y hy => ?_⟩
    · have z' : b = s.heap.objs.size := by simpa using z
      subst z'
      exact absurd (Heap.lt_size e) (Nat.lt_irrefl _)
    · have : argBest (fun i j => decide (l.getD j 0 < l.getD i 0)) (l.length - 1) < l.length := by omega
      rw [List.getD_eq_getElem?_getD, List.getElem?_eq_getElem this]
      exact List.getElem_mem _
    · obtain ⟨j, hj, rfl⟩ := List.mem_iff_getElem.mp hy
      have e := b2 j (by omega)
      rw [List.getD_eq_getElem?_getD, List.getElem?_eq_getElem hj] at e
      exact e
theorem ev_maxT {σ : L2.St} {H : Hp} {te : TE} {l : List Nat} {m : Nat} (h : Ev te σ H (.str (S l))) (hA : ∀ c ∈ l, c < 128) (hm : m ∈ l) (hl : ∀ y ∈ l, y ≤ m) : Ev (tCB rMaxT (tCons te tNil)) σ H (.str (S [m])) := ev_cb (ea_cons h ea_nil) fun H1 _ _ q => ⟨l, rfl, fun z => (by rw [z] at hm; cases hm), hA, fun m' h1 h2 => by
  have e : m = m' := Nat.le_antisymm (h2 m hm) (hl m' h1)
  subst e
  exact q H1 (Ex.refl H1)⟩
theorem max_ex : ∀ {l : List Nat}, l ≠ [] → ∃ m, m ∈ l ∧ ∀ y ∈ l, y ≤ m
  | [], h => absurd rfl h
  | [c], _ => ⟨c, List.mem_singleton.mpr rfl, fun y hy => by rw [List.mem_singleton.mp hy]; exact Nat.le_refl _⟩
  | c :: d :: l, _ => by
    obtain ⟨m, h1, h2⟩ := max_ex (l := d :: l) (List.cons_ne_nil _ _)
    by_cases h : m ≤ c
    · refine ⟨c, List.mem_cons_self, fun y hy => ?_⟩
      rcases List.mem_cons.mp hy with rfl | hy
      · exact Nat.le_refl _
      · exact Nat.le_trans (h2 y hy) h
    · refine ⟨m, List.mem_cons_of_mem _ h1, fun y hy => ?_⟩
      rcases List.mem_cons.mp hy with rfl | hy
      · omega
      · exact h2 y hy
/-! ### promises of the rings in order -/
def optS : Option (List Nat) → V
  | some w => .str (S w)
  | none => .non
def ringV : V → Bool
  | .str z => okS z.cps.toList && ringB z.cps.toList
  | _ => false
def sp_of_colours : Sp := fun vs H Q _ => ∃ (l : List Nat) (c : Nat), vs = [.str (S l), .int (c : Int)] ∧ l.length ≤ 1000 ∧ c ≤ 8 ∧ RetV (.bl (l.all fun d => decide (d ∈ few c))) H Q
def sp_behind : Sp := fun vs H Q _ => ∃ (l : List Nat) (c : Nat), vs = [.str (S l), .int (c : Int)] ∧ okS l = true ∧ Ring l ∧ 1 ≤ c ∧ c ≤ 8 ∧ (∀ d ∈ l, d ∈ few c) ∧ ∀ o, NextR (few c) l o → RetV (optS o) H Q
/-- what a ring and colours are refused for -/
def NeedRing (K : PySem.W.Frag) (CR CN : Addr) (v u : V) (H : Hp) (E : XK) : Prop := ThS K H v ∧ ThI K H u ∧ (ringV v = false → Ref E CR H) ∧ (ringV v = true → inB 8 u = false → Ref E CN H) ∧
  ∀ (l : List Nat) (c : Nat), v = .str (S l) → u = .int (c : Int) → okS l = true → Ring l → 1 ≤ c → c ≤ 8 → (¬ ∀ d ∈ l, d ∈ few c) → Ref E CR H
theorem NeedRing.mono {K : PySem.W.Frag} {CR CN : Addr} {v u : V} {H H' : Hp} {E : XK} (e : Ex H H') (h : NeedRing K CR CN v u H E) : NeedRing K CR CN v u H' E :=
  ⟨h.1.mono e, h.2.1.mono e, fun z => (h.2.2.1 z).mono e, fun z y => (h.2.2.2.1 z y).mono e, fun l c h1 h2 h3 h4 h5 h6 h7 => (h.2.2.2.2 l c h1 h2 h3 h4 h5 h6 h7).mono e⟩
def sp_need_ring (K : PySem.W.Frag) (CR CN : Addr) : Sp := fun vs H Q E => ∃ v u, vs = [v, u] ∧ NeedRing K CR CN v u H E ∧ ∀ (l : List Nat) (c : Nat), v = .str (S l) → u = .int (c : Int) → okS l = true → Ring l → 1 ≤ c → c ≤ 8 → (∀ d ∈ l, d ∈ few c) → RetV .non H Q
def sp_next_ring (K : PySem.W.Frag) (CR CN : Addr) : Sp := fun vs H Q E => ∃ v u, vs = [v, u] ∧ NeedRing K CR CN v u H E ∧ ∀ (l : List Nat) (c : Nat), v = .str (S l) → u = .int (c : Int) → okS l = true → Ring l → 1 ≤ c → c ≤ 8 → (∀ d ∈ l, d ∈ few c) → ∀ o, NextR (few c) l o → RetV (optS o) H Q
/-- how far the walk has come -/
def walkM (T n : Nat) (w : List Nat) : Nat := if strip T w = [] then 0 else n + 1 - (strip T w).length
theorem all_few {l : List Nat} {c : Nat} : (l.all fun d => decide (d ∈ few c)) = true ↔ ∀ d ∈ l, d ∈ few c := by
  rw [List.all_eq_true]
  simp only [decide_eq_true_eq]
theorem few_letters {c : Nat} (h : 1 ≤ c) : Letters (few c) (96 + c) := letters_few h
theorem find_hit {cs : List Nat} {p : Nat → Bool} {j s : Nat} (hj : cs[j]? = some s) (hn : ∀ d ∈ cs.take j, p d = false) (hp : p s = true) : cs.find? p = some s := by
  have e : cs = cs.take j ++ s :: cs.drop (j + 1) := by
    obtain ⟨hlt, hs⟩ := List.getElem?_eq_some_iff.mp hj
    rw [← hs, ← List.drop_eq_getElem_cons hlt, List.take_append_drop]
  rw [e, List.find?_append, List.find?_eq_none.mpr (fun d hd => by rw [hn d hd]; decide), List.find?_cons, hp]
  rfl
theorem take_step {cs : List Nat} {p : Nat → Bool} {j s : Nat} (hj : cs[j]? = some s) (hn : ∀ d ∈ cs.take j, p d = false) (hp : p s = false) : ∀ d ∈ cs.take (j + 1), p d = false := fun d hd => by
  rw [List.take_succ, hj] at hd
  rcases List.mem_append.mp hd with hd | hd
  · exact hn d hd
  · rw [List.mem_singleton.mp hd]
    exact hp
end Br
namespace Br
open PySem PySem.Spec PyProof.Rows L2 Evl SX

/-! ### all rings, told one by one -/
theorem low_min {B : Nat} : ∀ {w : List Nat}, (∀ c ∈ w, B ≤ c) → ¬ w < List.replicate w.length B
  | [], _ => fun h => by cases h
  | c :: w, h => fun z => by
    rw [List.length_cons, List.replicate_succ, List.cons_lt_cons_iff] at z
    have hc := h c List.mem_cons_self
    rcases z with z | ⟨_, z⟩
    · omega
    · exact low_min (fun d hd => h d (List.mem_cons_of_mem _ hd)) z
theorem first_ring {c n : Nat} (c1 : 1 ≤ c) : (allR (few c) n)[0]? = some (List.replicate n 97) := by
  have hm : List.replicate n 97 ∈ allR (few c) n := allR_mem.mpr ⟨ring_rep n 97, List.length_replicate, fun d hd => by
    rw [(List.mem_replicate.mp hd).2]
    exact few_in.mpr (by omega)⟩
  obtain ⟨k, hk, ek⟩ := List.getElem_of_mem hm
  have h0 : 0 < (allR (few c) n).length := by omega
  rw [List.getElem?_eq_getElem h0]
  by_cases k0 : k = 0
  · subst k0
    rw [ek]
  · exfalso
    have rise : (allR (few c) n).Pairwise (· < ·) := allR_rise (letters_few c1).rise n
    have hlt := (rise_at rise h0 hk).mpr (by omega)
    have r0 := allR_mem.mp (List.getElem_mem h0)
    rw [ek] at hlt
    have z := low_min (B := 97) (w := (allR (few c) n)[0]) fun d hd => (few_in.mp (r0.2.2 d hd)).1
    rw [r0.2.1] at z
    exact z hlt
theorem told_all : ((List.range 60).all fun i => (List.range 8).all fun j => decide (3000 < ringsN (1 + i) (1 + j)) || decide ((1 + j) ^ (1 + i) ≤ 40000)) = true := by decide +kernel
theorem told_bd {n c : Nat} (n1 : 1 ≤ n) (n2 : n ≤ 60) (c1 : 1 ≤ c) (c2 : c ≤ 8) (h : ringsN n c ≤ 3000) : c ^ n ≤ 40000 := by
  have z := List.all_eq_true.mp (List.all_eq_true.mp told_all (n - 1) (List.mem_range.mpr (by omega))) (c - 1) (List.mem_range.mpr (by omega))
  rw [show 1 + (n - 1) = n by omega, show 1 + (c - 1) = c by omega, Bool.or_eq_true, decide_eq_true_eq, decide_eq_true_eq] at z
  rcases z with z | z
  · omega
  · exact z
theorem allR_len {c n : Nat} : (allR (few c) n).length ≤ c ^ n := by
  have := List.length_filter_le ringB (allW (few c) n)
  rw [allW_len] at this
  exact this
theorem allR_ok {c n : Nat} (c2 : c ≤ 8) (n1 : 1 ≤ n) (n2 : n ≤ 60) {w : List Nat} (h : w ∈ allR (few c) n) : okS w = true := allW_ok c2 n1 n2 (List.mem_filter.mp h).1
theorem allR_nodup {c n : Nat} (c1 : 1 ≤ c) {i j : Nat} {w : List Nat} (hi : (allR (few c) n)[i]? = some w) (hj : (allR (few c) n)[j]? = some w) : i = j := by
  obtain ⟨h1, e1⟩ := List.getElem?_eq_some_iff.mp hi
  obtain ⟨h2, e2⟩ := List.getElem?_eq_some_iff.mp hj
  have rise : (allR (few c) n).Pairwise (· < ·) := allR_rise (letters_few c1).rise n
  rcases Nat.lt_trichotomy i j with z | z | z
  · have := (rise_at rise h1 h2).mpr z
    rw [e1, e2] at this
    exact absurd this (List.lt_irrefl _)
  · exact z
  · have := (rise_at rise h2 h1).mpr z
    rw [e1, e2] at this
    exact absurd this (List.lt_irrefl _)
theorem rep_ones (n T : Nat) : (List.replicate n [T]).flatten = List.replicate n T := by
  induction n with
  | zero => rfl
  | succ n ih => rw [List.replicate_succ, List.flatten_cons, ih, List.replicate_succ]; rfl
theorem flat_sV : ∀ ls : List (List Nat), (ls.map sV).all flatV = true
  | [] => rfl
  | l :: ls => by
    rw [List.map_cons, List.all_cons, flat_sV ls]
    rfl
theorem eqV_refl_sV (l : List Nat) : eqV (sV l) (sV l) = true := by
  show (S l == S l) = true
  rw [S_beq_eq]
  simp
theorem eqV_ne_sV {l m : List Nat} (h : l ≠ m) : eqV (sV l) (sV m) = false := by
  show (S l == S m) = false
  rw [S_beq_eq]
  simp [h]
def sp_need_few (CM : Addr) : Sp := fun vs H Q E => ∃ i : Int, vs = [.int i] ∧ (i ≤ 3000 → RetV .non H Q) ∧ (3000 < i → Ref E CM H)
/-- what a length and colours are refused for -/
def NeedLen (K : PySem.W.Frag) (CN CM : Addr) (v u : V) (H : Hp) (E : XK) : Prop := ThI K H v ∧ ThI K H u ∧ (inB 60 v = false → Ref E CN H) ∧ (inB 60 v = true → inB 8 u = false → Ref E CN H) ∧
  ∀ n c : Nat, v = .int (n : Int) → u = .int (c : Int) → 1 ≤ n → n ≤ 60 → 1 ≤ c → c ≤ 8 → 3000 < ringsN n c → Ref E CM H
theorem NeedLen.mono {K : PySem.W.Frag} {CN CM : Addr} {v u : V} {H H' : Hp} {E : XK} (e : Ex H H') (h : NeedLen K CN CM v u H E) : NeedLen K CN CM v u H' E :=
  ⟨h.1.mono e, h.2.1.mono e, fun z => (h.2.2.1 z).mono e, fun z y => (h.2.2.2.1 z y).mono e, fun n c h1 h2 h3 h4 h5 h6 h7 => (h.2.2.2.2 n c h1 h2 h3 h4 h5 h6 h7).mono e⟩
def sp_all_rings (K : PySem.W.Frag) (CN CM : Addr) : Sp := fun vs H Q E => ∃ v u, vs = [v, u] ∧ NeedLen K CN CM v u H E ∧ ∀ n c : Nat, v = .int (n : Int) → u = .int (c : Int) → 1 ≤ n → n ≤ 60 → 1 ≤ c → c ≤ 8 → ringsN n c ≤ 3000 → RetL ((allR (few c) n).map sV) H Q
def sp_number_of (K : PySem.W.Frag) (CR CN CM : Addr) : Sp := fun vs H Q E => ∃ v u, vs = [v, u] ∧ NeedRing K CR CN v u H E ∧ ∀ (l : List Nat) (c : Nat), v = .str (S l) → u = .int (c : Int) → okS l = true → Ring l → 1 ≤ c → c ≤ 8 → (∀ d ∈ l, d ∈ few c) →
  (3000 < ringsN l.length c → Ref E CM H) ∧ (ringsN l.length c ≤ 3000 → ∀ j : Nat, (allR (few c) l.length)[j]? = some l → RetV (.int (j : Int)) H Q)
/-- no number under which one of so many stands -/
def noNum (many : Nat) : V → Bool
  | .int i => !(decide (0 ≤ i) && decide (i < many))
  | _ => true
def sp_ring_at (K : PySem.W.Frag) (CN CM CO : Addr) : Sp := fun vs H Q E => ∃ x v u, vs = [x, v, u] ∧ ThI K H x ∧ NeedLen K CN CM v u H E ∧ ∀ n c : Nat, v = .int (n : Int) → u = .int (c : Int) → 1 ≤ n → n ≤ 60 → 1 ≤ c → c ≤ 8 → ringsN n c ≤ 3000 →
  (noNum (allR (few c) n).length x = true → Ref E CO H) ∧ ∀ (j : Nat) (w : List Nat), x = .int (j : Int) → (allR (few c) n)[j]? = some w → RetV (.str (S w)) H Q
end Br
namespace Br
open PySem PySem.Spec PyProof.Rows L2 Evl SX

/-! ### a set that is made of a list: what it holds, and that it can be walked -/
/-- two entries with no key in common -/
def Apart {P : Program} {w : World} {Kt : Type} [DecidableEq Kt] (knd : PySem.KeyKind P w Kt) (e e' : Int × Value) : Prop := ∀ k, knd.is k e.2 = true → knd.is k e'.2 = true → False
def SetG {P : Program} {w : World} {Kt : Type} [DecidableEq Kt] (knd : PySem.KeyKind P w Kt) (h : Heap) (a : Addr) (In : Kt → Prop) (n : Nat) : Prop :=
  ∃ o es ep t, h.get? a = some o ∧ o.ExactSet ∧ o.data = .set es ep t ∧ ElemsOf knd es.toList ∧ es.toList.Pairwise (Apart knd) ∧ (∀ k, In k ↔ ∃ e ∈ es.toList, knd.is k e.2 = true) ∧
    t.fits es.size = true ∧ Ris t.place.toList ∧ (w.params.followText "set-order" = true ∨ t.led = true) ∧ es.size ≤ n
section
variable {P : Program} {w : World} {A : Around} {E : Value → Shared → Prop} {s : Shared} {Kt : Type} [DecidableEq Kt] {knd : PySem.KeyKind P w Kt} {a : Addr} {In : Kt → Prop} {n : Nat}
theorem apart_swap {e e' : Int × Value} (h : Apart knd e e') : Apart knd e' e := fun k h1 h2 => h k h2 h1
theorem SetG.keep {h h' : Heap} (R : SetG knd h a In n) (k : ∀ o, h.get? a = some o → h'.get? a = some o) : SetG knd h' a In n := by
  obtain ⟨o, es, ep, t, ho, r⟩ := R
  exact ⟨o, es, ep, t, k o ho, r⟩
/-- entries anew in another order -/
theorem sg_of {h : Heap} {o : Obj} {es es' : Array (Int × Value)} {ep : Nat} {t : SetTable} (ho : h.get? a = some o) (hx : o.ExactSet) (hd : o.data = .set es' ep t) (pm : es'.toList.Perm es.toList) (el : ElemsOf knd es.toList) (ap : es.toList.Pairwise (Apart knd))
    (hm : ∀ k, In k ↔ ∃ e ∈ es.toList, knd.is k e.2 = true) (hf : t.fits es'.size = true) (hr : Ris t.place.toList) (hl : w.params.followText "set-order" = true ∨ t.led = true) (hz : es.size ≤ n) : SetG knd h a In n :=
  ⟨o, es', ep, t, ho, hx, hd, el.perm pm, (pm.pairwise_iff fun h => apart_swap h).mpr ap, fun k => (hm k).trans ⟨fun ⟨e, he, q⟩ => ⟨e, pm.mem_iff.mpr he, q⟩, fun ⟨e, he, q⟩ => ⟨e, pm.mem_iff.mp he, q⟩⟩, hf, hr, hl, by
    rw [← Array.length_toList, pm.length_eq, Array.length_toList]
    exact hz⟩
/-- the end of an add: stored, and laid anew where it is too full -/
theorem sg_tail {g : Bool → Sem Unit} (hg : ∀ (b : Bool) (s1 : Shared) (Q1 : Unit → Shared → Prop), Q1 () s1 → wpAny (model P w) A (g b) Q1 E s1) {o : Obj} {es es1 : Array (Int × Value)} {ep : Nat} {t t2 : SetTable}
    (ho : s.heap.get? a = some o) (hx : o.ExactSet) (hd : o.data = .set es ep t) (el : ElemsOf knd es1.toList) (ap : es1.toList.Pairwise (Apart knd)) (hm : ∀ k, In k ↔ ∃ e ∈ es1.toList, knd.is k e.2 = true) (hb : es1.size < scanBound)
    (hf : t2.fits es1.size = true) (hr : Ris t2.place.toList) (hl : w.params.followText "set-order" = true ∨ t2.led = true) (hz : es1.size ≤ n) {was : Bool} {R : Option Bool → Shared → Prop}
    (q : ∀ h', Heap.SameBut a s.heap h' → SetG knd h' a In n → R (some true) { s with heap := h' }) :
    wpAny (model P w) A (storeSet a es1 t2 >>= fun _ => if (!was && t2.tooFull) = true then (g (relayAll t2 es1 (SetTable.grown es1.size)).2.2 >>= fun _ => storeSet a (relayAll t2 es1 (SetTable.grown es1.size)).1 (relayAll t2 es1 (SetTable.grown es1.size)).2.1 >>= fun _ => pure (some true)) else pure (some true)) R E s := by
  refine wpAny_bind (wpAny_storeSet_of ho hd ?_ (fits_of_scanBound hb))
  have h1 := store_at (es' := es1) (t' := t2) ho hd
  have b1 := Heap.SameBut.update s.heap a (Obj.putSet es1 t2)
  by_cases c : (!was && t2.tooFull) = true
  · rw [if_pos c]
    have p2 := relayAll_perm t2 es1 (SetTable.grown es1.size)
    have f2 := relayAll_fits t2 es1 (SetTable.grown es1.size)
    have r2 := relayAll_ris t2 es1 (SetTable.grown es1.size)
    have l2 := relayAll_led t2 es1 (SetTable.grown es1.size)
    generalize relayAll t2 es1 (SetTable.grown es1.size) = Zr at p2 f2 r2 l2 ⊢
    obtain ⟨es2, t3, gv⟩ := Zr
    dsimp only at p2 f2 r2 l2 ⊢
    have z2 : es2.size = es1.size := by
      rw [← Array.length_toList, p2.length_eq, Array.length_toList]
    refine wpAny_bind (hg _ _ _ (wpAny_bind (wpAny_storeSet_of h1 rfl ?_ (fits_of_scanBound (by rw [z2]; exact hb)))))
    have h2 := store_at (es' := es2) (t' := t3) h1 rfl
    exact wpAny_pure (q _ (b1.trans (Heap.SameBut.update _ a _)) (sg_of h2 hx rfl p2 el ap hm f2 r2 (hl.imp id fun z => by rw [l2]; exact z) hz))
  · rw [if_neg c]
    exact wpAny_pure (q _ b1 (sg_of h1 hx rfl (List.Perm.refl _) el ap hm hf hr hl hz))
/-- an add of a key, whether it was in or not -/
theorem sg_add {k : Kt} {v : Value} {Q : Bool → Shared → Prop} (hk : knd.is k v = true) (hsc : v.scannable = true) (R : SetG knd s.heap a In n) (room : n + 1 < scanBound)
    (q : ∀ b h', Heap.SameBut a s.heap h' → SetG knd h' a (fun j => In j ∨ j = k) (n + 1) → Q b { s with heap := h' }) : wpAny (model P w) A (setAddHashed a v (knd.hash k)) Q E s := by
  obtain ⟨o, es, ep, t, ho, hx, hd, el, ap, hm, hf, hr, hl, hz⟩ := R
  have hb : es.size < scanBound := by omega
  unfold setAddHashed
  unfold setAddHashedIn
  refine wpAny_holding ?_
  refine wpAny_bind (wpAny_setState_of ho hd hf ?_)
  dsimp only
  rw [byScan_of hsc hb el, if_pos rfl]
  unfold setAddByScan
  refine wpAny_bind (wpAny_bind (wpAny_rule (wpAny_bind (wpAny_setScan_of hk ho hd hf el ?_))))
  cases hfi : es.toList.findIdx? (fun e => knd.is k e.2) with
  | some j =>
    dsimp only
    obtain ⟨hj, pj, _⟩ := List.findIdx?_eq_some_iff_getElem.mp hfi
    have hin : In k := (hm k).mpr ⟨_, List.getElem_mem hj, pj⟩
    refine wpAny_pure (wpAny_pure (q _ s.heap (Heap.SameBut.refl a s.heap) ⟨o, es, ep, t, ho, hx, hd, el, ap, fun i => ?_, hf, hr, hl, by omega⟩))
    rw [← hm i]
    exact ⟨fun z => z.elim id fun e => e ▸ hin, .inl⟩
  | none =>
    dsimp only
    have none_is : ∀ e ∈ es.toList, knd.is k e.2 = false := fun e he => by
      have := List.findIdx?_eq_none_iff.mp hfi e he
      exact this
    have pm := layNew_perm t es (knd.hash k) v
    have f1 := layNew_fits t es (knd.hash k) v
    have r1 := layNew_ris t es (knd.hash k) v hr
    have l1 := layNew_led t es (knd.hash k) v
    generalize layNew t es (knd.hash k) v = Zn at pm f1 r1 l1 ⊢
    obtain ⟨es1, t1, was, gave⟩ := Zn
    dsimp only at pm f1 r1 l1 ⊢
    rw [Array.toList_push] at pm
    have el1 : ElemsOf knd es1.toList := (el.push hk hsc).perm pm
    have ap1 : es1.toList.Pairwise (Apart knd) := by
      refine (pm.pairwise_iff fun h => apart_swap h).mpr (List.pairwise_append.mpr ⟨ap, List.pairwise_singleton _ _, fun e he e' he' i h1 h2 => ?_⟩)
      rw [List.mem_singleton.mp he'] at h2
      have := knd.inj v i k h2 hk
      subst this
      rw [none_is e he] at h1
      cases h1
    have m1 : ∀ i, (In i ∨ i = k) ↔ ∃ e ∈ es1.toList, knd.is i e.2 = true := fun i => by
      rw [hm i]
      constructor
      · rintro (⟨e, he, z⟩ | rfl)
        · exact ⟨e, pm.mem_iff.mpr (List.mem_append_left _ he), z⟩
        · exact ⟨_, pm.mem_iff.mpr (List.mem_append_right _ (List.mem_singleton.mpr rfl)), hk⟩
      · rintro ⟨e, he, z⟩
        rcases List.mem_append.mp (pm.mem_iff.mp he) with he | he
        · exact .inl ⟨e, he, z⟩
        · rw [List.mem_singleton.mp he] at z
          exact .inr (knd.inj v i k z hk)
    have z1 : es1.size = es.size + 1 := by
      rw [← Array.length_toList, pm.length_eq, List.length_append, Array.length_toList]
      rfl
    have led1 : w.params.followText "set-order" = true ∨ t1.led = true := hl.imp id fun z => by rw [l1]; exact z
    have quiet : ∀ (b : Bool) {s1 : Shared} {Q1 : Unit → Shared → Prop}, Q1 () s1 → wpAny (model P w) A (match b with | true => rule "set.scan.the-table-gave-way" | false => pure ()) Q1 E s1 := fun b s1 Q1 z => by
      cases b
      · exact wpAny_pure z
      · exact wpAny_rule z
    refine wpAny_bind (quiet _ ?_)
    by_cases hp : t1.plain = true
    · rw [if_pos hp]
      refine wpAny_bind ?_
      rw [hashByValue_scannable 8 hsc]
      refine wpAny_pure (sg_tail (n := n + 1) (fun b s1 Q1 z => ?_) ho hx hd el1 ap1 m1 (by omega) ?_ ?_ ?_ (by omega) fun h' sb r => ?_)
      · cases b
        · exact wpAny_pure z
        · exact wpAny_rule z
      · by_cases c : plainKind v = true
        · rw [if_pos c]
          exact f1
        · rw [if_neg c]
          exact SetTable.fits_plain_off f1
      · by_cases c : plainKind v = true
        · rw [if_pos c]
          exact r1
        · rw [if_neg c]
          exact r1
      · by_cases c : plainKind v = true
        · rw [if_pos c]
          exact led1
        · rw [if_neg c]
          exact led1
      · dsimp only
        exact wpAny_pure (q _ h' sb r)
    · rw [if_neg hp]
      refine wpAny_bind (wpAny_pure ?_)
      refine sg_tail (n := n + 1) (fun b s1 Q1 z => ?_) ho hx hd el1 ap1 m1 (by omega) f1 r1 led1 (by omega) fun h' sb r => ?_
      · cases b
        · exact wpAny_pure z
        · exact wpAny_rule z
      · dsimp only
        exact wpAny_pure (q _ h' sb r)
end
end Br
namespace Br
open PySem PySem.Spec PyProof.Rows L2 Evl SX

/-! ### set(a list) -/
/-- a new set, empty -/
abbrev freshSet (w : World) : Obj := { cls := .type "set", dict := none, data := .set #[] 0 (.fresh 0 0 (!w.params.followText "set-order")) }
section
variable {P : Program} {w : World} {A : Around} {E : Value → Shared → Prop} {s : Shared} {Kt : Type} [DecidableEq Kt] {knd : PySem.KeyKind P w Kt}
theorem sg_fresh {h : Heap} {a : Addr} (ho : h.get? a = some (freshSet w)) : SetG knd h a (fun _ => False) 0 :=
  ⟨_, #[], 0, _, ho, ⟨rfl, rfl, rfl⟩, rfl, (fun e he => by simp at he), List.Pairwise.nil, (fun k => by simp), (by rfl), List.Pairwise.nil, by
    show w.params.followText "set-order" = true ∨ (!w.params.followText "set-order") = true
    cases w.params.followText "set-order" <;> simp, Nat.le_refl _⟩
theorem SetG.same {h : Heap} {a : Addr} {In In' : Kt → Prop} {n n' : Nat} (R : SetG knd h a In n) (e : ∀ k, In' k ↔ In k) (hn : n ≤ n') : SetG knd h a In' n' := by
  obtain ⟨o, es, ep, t, ho, hx, hd, el, ap, hm, hf, hr, hl, hz⟩ := R
  exact ⟨o, es, ep, t, ho, hx, hd, el, ap, fun k => (e k).trans (hm k), hf, hr, hl, Nat.le_trans hz hn⟩
/-- all that a walk gives is put in -/
theorem sg_update {R : Result → Shared → Prop} {I : Addr} {fp wr : List Addr} {G : Array GenState → Array GenState → Prop} {n : Nat} {Pv : Nat → Value → Prop} {St : Nat → Shared → Prop} (W : WalksS P w A.in1 I fp wr G n Pv St) (Sa : Addr) (out : Sa ∉ fp)
    (key : Nat → Kt) (hkey : ∀ i v, Pv i v → knd.is (key i) v = true ∧ v.scannable = true) (hb : n + 1 < scanBound) : ∀ (left i : Nat) (s : Shared), n - i = left → i ≤ n → St i s → SetG knd s.heap Sa (fun x => ∃ j, j < i ∧ x = key j) i →
      (∀ s', Moved (Sa :: wr) G s s' → SetG knd s'.heap Sa (fun x => ∃ j, j < n ∧ x = key j) n → R (.ok (.ret .none)) s') → codeAny (model P w) A (.builtin "set.update.loop" ⟨[.ref Sa, .ref I], []⟩) R s := by
  have outw : Sa ∉ wr := fun z => out (W.sub _ z)
  have more : ∀ b ∈ wr, b ∈ Sa :: wr := fun b z => List.mem_cons_of_mem _ z
  intro left
  induction left with
  | zero =>
    intro i s hk hi hst hS hR
    obtain rfl : i = n := by omega
    refine codeAny_builtin F.entry_set_update_loop ?_
    rw [Around.under_plainId F.plain_set_update_loop _]
    refine wpAny_bind (m := pyNext (.ref I)) (W.done s _ _ hst fun s' hm => ?_)
    exact wpAny_pure (hR s' (hm.mono more) (hS.keep fun o e => hm.heap Sa o outw e))
  | succ left ih =>
    intro i s hk hi hst hS hR
    have hlt : i < n := by omega
    refine codeAny_builtin F.entry_set_update_loop ?_
    rw [Around.under_plainId F.plain_set_update_loop _]
    refine wpAny_bind (m := pyNext (.ref I)) (W.item i s _ _ hlt hst fun v s' hP hst' hm => ?_)
    obtain ⟨k1, k2⟩ := hkey i v hP
    have hS' := hS.keep (h' := s'.heap) fun o e => hm.heap Sa o outw e
    refine wpAny_bind (m := holding [v] (setAdd Sa v)) (wpAny_holding ?_)
    unfold setAdd
    refine wpAny_holding (wpAny_bind (knd.pyHash (k := key i) k1 ?_))
    refine sg_add (s := { s' with toks := s'.toks + 1 }) k1 k2 hS' (by omega) fun b h' sb hS2 => ?_
    have hS3 : SetG knd h' Sa (fun x => ∃ j, j < i + 1 ∧ x = key j) (i + 1) := hS2.same (fun k => ⟨fun ⟨j, hj, e⟩ => by
      by_cases c : j = i
      · subst c
        exact .inr e
      · exact .inl ⟨j, by omega, e⟩, fun z => by
      rcases z with ⟨j, hj, e⟩ | e
      · exact ⟨j, by omega, e⟩
      · exact ⟨i, by omega, e⟩⟩) (Nat.le_refl _)
    refine wpAny_pure ⟨plainId_quiet F.plain_set_update_loop _, ih (i + 1) _ (by omega) hlt (W.frame _ s' _ _ hst' (Nat.le_succ _) fun b hb o e => ?_) hS3 fun s2 hm2 hS4 => ?_⟩
    · rw [sb.2 b (fun z : b = Sa => out (z ▸ hb))]
      exact e
    · refine hR s2 (Moved.trans W.gtrans ((hm.mono more).then_heap (Nat.le_succ _) fun b o hb e => ?_) hm2) hS4
      rw [sb.2 b fun z => hb (z ▸ List.mem_cons_self)]
      exact e
theorem new_set {v : Value} {Q1 : Value → Shared → Prop} (h : Q1 (.ref s.heap.objs.size) { s with heap := s.heap.push (freshSet w) }) : codeAny (model P w) A (.call (.builtin "set.__new__") ⟨[.type "set", v], []⟩) (wants Q1 E) s := by
  refine codeAny_of_tree ?_
  refine wpAny_bind (m := checkBuiltinCall "set.__new__" ⟨[.type "set", v], []⟩) (wpAny_of_eq (F.newCall_set_1 v) (wpAny_pure ?_))
  refine ⟨plainId_quiet F.plain_set_new _, codeAny_builtin F.entry_set_new ?_⟩
  rw [Around.under_plainId F.plain_set_new _]
  unfold Builtin.«set.__new__»
  unfold Builtin.Frozenset.newClass
  have sub := sub_set_self
  obtain ⟨hp, g, d, tk, os⟩ := s
  dsimp only
  wp_walk
  refine wpAny_askSetting (wpAny_pure ?_)
  dsimp only
  simp only [newObj]
  exact wpAny_bind (wpAny_alloc (wpAny_pure (wpAny_pure h)))
set_option maxRecDepth 100000 in
set_option maxHeartbeats 4000000 in
theorem call_setG {l : Addr} {items : Array Value} (key : Nat → Kt) {Q : Value → Shared → Prop} (hh : A.handled = none) (hl : s.heap.IsList l items) (hi : ∀ (i : Nat) (v : Value), items[i]? = some v → knd.is (key i) v = true ∧ v.scannable = true) (hb : items.size + 1 < scanBound)
    (h : ∀ (h' : Heap) (tk : Nat), SetG knd h' s.heap.objs.size (fun x => ∃ j, j < items.size ∧ x = key j) items.size → (∀ b o, b < s.heap.objs.size → s.heap.get? b = some o → h'.get? b = some o) → Q (.ref s.heap.objs.size) { s with heap := h', toks := tk }) :
    wpAny (model P w) A (call (.type "set") [.ref l]) Q E s := by
  obtain ⟨c, tl, mro⟩ := F.called_set.mro
  have made := F.called_set.made
  have subT := F.called_set.sub
  have notT := F.called_set.notType
  have canC := F.called_set.canCreate
  have okT := F.typeCall_set_1 (.ref l)
  refine wpAny_call (codeAny_of_tree ?_)
  refine (show wpAny _ _ (callAny (.type "set") _) _ _ _ from ?_)
  refine wpAny_pure ⟨Code.quiet_builtin _ (by decide +kernel), codeAny_builtin F.entry_type_call ?_⟩
  rw [Around.under_plain (weight_type_call_type "set" [.ref l] []) rfl]
  repeat (any_goals (first | assumption | wp_step))
  refine codeAny_mono (new_set (v := .ref l) (E := E) (Q1 := fun ob s1 => ob = .ref s.heap.objs.size ∧ s1 = { s with heap := s.heap.push (freshSet w) }) ⟨rfl, rfl⟩) fun r s1 hr => ?_
  match r, hr with
  | .error e, hr => exact hr
  | .ok .next, hr => exact hr.elim
  | .ok .brk, hr => exact hr.elim
  | .ok .cont, hr => exact hr.elim
  | .ok (.ret ob), hr =>
    obtain ⟨rfl, rfl⟩ := hr
    have at0 : (s.heap.push (freshSet w)).get? s.heap.objs.size = some (freshSet w) := Heap.get?_push_size _ rfl
    have isT : Shared.TypeIs { s with heap := s.heap.push (freshSet w) } (.ref s.heap.objs.size) "set" := ⟨_, at0, rfl⟩
    have look := F.called_set.init.lookup
    have bound := F.called_set.init.bind (.ref s.heap.objs.size)
    repeat (any_goals (first | assumption | wp_step))
    refine codeAny_mono (codeAny_call_builtin (R := wants (fun r s2 => r = .none ∧ ∃ h' tk, s2 = { s with heap := h', toks := tk } ∧ SetG knd h' s.heap.objs.size (fun x => ∃ j, j < items.size ∧ x = key j) items.size ∧
        ∀ b o, b < s.heap.objs.size → s.heap.get? b = some o → h'.get? b = some o) E) F.called_set.init.plain F.entry_set_init (check_set_init_1 isT ?_)) fun r2 s2 hr2 => ?_
    · obtain ⟨ol, hol, hcl, nl, hdl⟩ := hl
      obtain ⟨k1, k2, k3, k4⟩ := ol
      dsimp only at hcl hdl
      subst hcl hdl
      have hol1 : (s.heap.push (freshSet w)).get? l = some { cls := .type "list", dict := k2, data := .seq items nl, slots := k4 } := Heap.get?_push_of_some _ hol
      have s1 := F.sub_list_set
      have s2 := F.sub_list_frozenset
      have s3 : (Value.type "list" == Value.type "dict") = false := by decide
      have isL : (s.heap.push (freshSet w)).IsList l items := ⟨_, hol1, rfl, nl, rfl⟩
      unfold Builtin.«set.__init__»
      unfold noKeywords
      unfold Builtin.Frozenset.updateFrom
      generalize ePI : pyIter = PI
      wp_walk
      subst ePI
      refine wpAny_pyIter_list isL (wpAny_bind (wpAny_runValue ?_))
      have lS : l < s.heap.objs.size := Heap.lt_size hol
      have sz1 : (s.heap.push (freshSet w)).objs.size = s.heap.objs.size + 1 := Heap.size_push _ _
      refine sg_update ((Walks.list (A := A.in1.in1.in1) (by simp [hh]) _ l (by rw [sz1]; exact Nat.ne_of_lt (Nat.lt_succ_of_lt lS)) items).toS) s.heap.objs.size (fun z => ?_) key (fun i v hv => hi i v hv) hb (items.size - 0) 0 _ (by omega) (Nat.zero_le _)
        ⟨⟨_, Heap.get?_push_size _ rfl, rfl, rfl⟩, isL.push _⟩ ((sg_fresh (Heap.get?_push_of_some _ at0)).same (fun k => ⟨fun ⟨j, hj, _⟩ => absurd hj (Nat.not_lt_zero _), fun z => z.elim⟩) (Nat.le_refl _)) fun s' hm hS' => ?_
      · rw [sz1] at z
        simp only [List.mem_cons, List.not_mem_nil, or_false] at z
        rcases z with z | z
        · exact absurd z (Nat.ne_of_lt (Nat.lt_succ_self _))
        · exact absurd z (Nat.ne_of_gt lS)
      · obtain ⟨h', g', d', tk', os'⟩ := s'
        obtain rfl : g' = s.gens := hm.gens
        obtain rfl : d' = s.drawn := hm.drawn
        obtain rfl : os' = s.os := hm.os
        refine wpAny_pure (wpAny_pure ⟨rfl, h', tk', rfl, hS', fun b o hb2 e => hm.heap b o (fun z => ?_) (Heap.get?_push_of_some _ (Heap.get?_push_of_some _ e))⟩)
        rw [sz1] at z
        simp only [List.mem_cons, List.not_mem_nil, or_false] at z
        rcases z with z | z
        · exact absurd z (Nat.ne_of_lt hb2)
        · exact absurd z (Nat.ne_of_lt (Nat.lt_succ_of_lt hb2))
    · match r2, hr2 with
      | .error e, hr2 => exact hr2
      | .ok .next, hr2 => exact hr2.elim
      | .ok .brk, hr2 => exact hr2.elim
      | .ok .cont, hr2 => exact hr2.elim
      | .ok (.ret r), hr2 =>
        obtain ⟨rfl, h', tk, rfl, hS', hk'⟩ := hr2
        repeat (any_goals (first | assumption | wp_step))
        exact h _ _ hS' hk'
end
end Br
namespace Br
open PySem PySem.Spec PyProof.Rows L2 Evl SX

/-! ### sorted lists of texts -/
theorem rises_all : ∀ {l : List Str} {p : Str}, risingS p l = true → (∀ x ∈ l, ¬ x.cps.toList < p.cps.toList) ∧ l.Pairwise fun a b => ¬ b.cps.toList < a.cps.toList
  | [], p, _ => ⟨fun x hx => (by cases hx), List.Pairwise.nil⟩
  | x :: r, p, h => by
    unfold risingS at h
    rw [Bool.and_eq_true, Bool.not_eq_true', ltCps_eq, decide_eq_false_iff_not] at h
    obtain ⟨h1, h2⟩ := rises_all h.2
    refine ⟨fun y hy => ?_, List.pairwise_cons.mpr ⟨h1, h2⟩⟩
    rcases List.mem_cons.mp hy with rfl | hy
    · exact h.1
    · exact le_le h.1 (h1 y hy)
theorem sorted_pw : ∀ {l : List Str}, sortedS l = true → l.Pairwise fun a b => ¬ b.cps.toList < a.cps.toList
  | [], _ => List.Pairwise.nil
  | x :: r, h => List.pairwise_cons.mpr (rises_all h)
theorem as_S (ss : List Str) : ss = (ss.map fun z => z.cps.toList).map S := by
  rw [List.map_map]
  have : (S ∘ fun z : Str => z.cps.toList) = id := funext fun z => by
    show S z.cps.toList = z
    exact TL.ext_tl rfl
  rw [this, List.map_id]
theorem perm_S {ss : List Str} {ls : List (List Nat)} (h : ss.Perm (ls.map S)) : (ss.map fun z => z.cps.toList).Perm ls := by
  have := h.map fun z : Str => z.cps.toList
  rw [List.map_map] at this
  have e : ((fun z : Str => z.cps.toList) ∘ S) = id := funext fun l => rfl
  rw [e, List.map_id] at this
  exact this
/-- strictly rising lists with the same members are one -/
theorem rise_one : ∀ {xs ys : List (List Nat)}, xs.Pairwise (· < ·) → ys.Pairwise (· < ·) → (∀ l, l ∈ xs ↔ l ∈ ys) → xs = ys
  | [], [], _, _, _ => rfl
  | [], y :: ys, _, _, h => by have := (h y).mpr List.mem_cons_self; cases this
  | x :: xs, [], _, _, h => by have := (h x).mp List.mem_cons_self; cases this
  | x :: xs, y :: ys, hx, hy, h => by
    obtain ⟨a1, a2⟩ := List.pairwise_cons.mp hx
    obtain ⟨b1, b2⟩ := List.pairwise_cons.mp hy
    have exy : x = y := by
      rcases List.mem_cons.mp ((h x).mp List.mem_cons_self) with e | e
      · exact e
      · rcases List.mem_cons.mp ((h y).mpr List.mem_cons_self) with e' | e'
        · exact e'.symm
        · exact absurd (List.lt_trans (b1 x e) (a1 y e')) (List.lt_irrefl _)
    subst exy
    refine congrArg (x :: ·) (rise_one a2 b2 fun l => ?_)
    constructor
    · intro hl
      rcases List.mem_cons.mp ((h l).mp (List.mem_cons_of_mem _ hl)) with e | e
      · rw [e] at hl
        exact absurd (a1 x hl) (List.lt_irrefl _)
      · exact e
    · intro hl
      rcases List.mem_cons.mp ((h l).mpr (List.mem_cons_of_mem _ hl)) with e | e
      · rw [e] at hl
        exact absurd (b1 x hl) (List.lt_irrefl _)
      · exact e
/-- rising and no two alike: strictly rising -/
theorem rise_strict {xs : List (List Nat)} (h : xs.Pairwise fun a b => ¬ b < a) (d : xs.Nodup) : xs.Pairwise (· < ·) := (List.pairwise_and_iff.mpr ⟨h, d⟩).imp fun {a b} z => lt_of_not z.1 z.2
/-- sorted lists that are one rearranged are one -/
theorem sort_one : ∀ {xs ys : List (List Nat)}, xs.Pairwise (fun a b => ¬ b < a) → ys.Pairwise (fun a b => ¬ b < a) → xs.Perm ys → xs = ys
  | [], ys, _, _, h => (List.Perm.eq_nil h.symm).symm
  | x :: xs, [], _, _, h => absurd h.length_eq (by simp)
  | x :: xs, y :: ys, hx, hy, h => by
    obtain ⟨a1, a2⟩ := List.pairwise_cons.mp hx
    obtain ⟨b1, b2⟩ := List.pairwise_cons.mp hy
    have exy : x = y := by
      have h1 : ¬ x < y := by
        rcases List.mem_cons.mp (h.mem_iff.mp List.mem_cons_self) with e | e
        · rw [e]
          exact List.lt_irrefl _
        · exact b1 x e
      have h2 : ¬ y < x := by
        rcases List.mem_cons.mp (h.mem_iff.mpr List.mem_cons_self) with e | e
        · rw [e]
          exact List.lt_irrefl _
        · exact a1 y e
      exact lt_tri h1 h2
    subst exy
    exact congrArg (x :: ·) (sort_one a2 b2 h.cons_inv)
/-- sorted(a list of texts) -/
def rSortL (K : PySem.W.Frag) : List V → Hp → VK → Prop := fun vs H Q => ∃ (a : Addr) (ls : List (List Nat)), vs = [.ref a] ∧ SqL K H a (ls.map sV) ∧ ls.length ≤ 100000 ∧
  ∀ ms : List (List Nat), ms.Perm ls → (ms.Pairwise fun a b => ¬ b < a) → ∀ p, H p = none → Q (.ref p) (upd H p (.lst (ms.map sV)))
theorem cr_sortL {X : Cx} : CallR X (.builtin "sorted") (rSortL X.K) := by
  intro pins s σ H vs us Q I r h
  obtain ⟨a, ls, rfl, hs, hl, q⟩ := h
  have e1 : ls.map sV = (ls.map S).map V.str := by
    rw [List.map_map]
    rfl
  rw [e1] at hs
  obtain ⟨its, rv, lst, hz⟩ := I.list hs
  rw [Vals.ref1 r]
  have hlen := rv.length
  rw [List.length_map, List.length_map] at hlen
  refine sorted_strsAny lst.isList rv.strs (by rw [← hlen]; exact sz_of hl) fun out ys k1 k2 k3 => ?_
  obtain ⟨ep, at1⟩ := sortedAll_at s.heap its out
  have hy : ys.map V.str = (ys.map fun z => z.cps.toList).map sV := by
    conv => lhs; rw [as_S ys]
    rw [List.map_map]
    rfl
  have fit : (ys.map V.str).length ≤ sizeLine := by
    rw [List.length_map, k2.length_eq, List.length_map]
    exact sz_of hl
  have hp := I.hok.fresh (Nat.le_succ s.heap.objs.size)
  refine ⟨.ref _, upd H (s.heap.objs.size + 1) (.lst (ys.map V.str)), I.laid (t' := s.toks) (fun _ _ => sortedAll_old) (Nat.le_succ _) ⟨fit, out.toList, ep, vals_of_strs k1, at1⟩, rfl, ?_⟩
  rw [hy]
  refine q _ (perm_S k2) (List.pairwise_map.mpr (sorted_pw k3)) _ hp
/-! ### set(a list), sorted(set(a list)) -/
def SetH (P : Program) (w : World) (a : Addr) (ks : List Key) : HO := .ext fun h => SetG (mixKind P w) h a (fun k => k ∈ ks) ks.length
def rSetL (K : PySem.W.Frag) (P : Program) (w : World) : List V → Hp → VK → Prop := fun vs H Q => ∃ (l : Addr) (ks : List Key), vs = [.ref l] ∧ SqL K H l (ks.map kV) ∧ ks.length ≤ 4000 ∧ ∀ a, H a = none → Q (.ref a) (upd H a (SetH P w a ks))
theorem cr_setL {X : Cx} (hc : X.calm = true) : CallR X (.type "set") (rSetL X.K X.prog X.w) := by
  intro pins s σ H vs us Q I r h
  obtain ⟨l, ks, rfl, hs, hl, q⟩ := h
  obtain ⟨its, rv, lst, hz⟩ := I.list hs
  rw [Vals.ref1 r]
  have hlen := rv.length
  rw [List.length_map] at hlen
  have sz : its.toArray.size = ks.length := by
    rw [List.size_toArray]
    exact hlen.symm
  have hn : H s.heap.objs.size = none := I.hok.fresh (Nat.le_refl _)
  refine call_setG (knd := mixKind X.prog X.w) (items := its.toArray) (fun i => ks.getD i (.inl 0)) (I.ok.hd hc) lst.isList (fun i v hv => ?_) (by rw [sz]; show ks.length + 1 < 4096; omega) fun h' tk R k => ?_
  · have hv' : its[i]? = some v := by simpa using hv
    have hlt : i < ks.length := by
      rw [hlen]
      exact (List.getElem?_eq_some_iff.mp hv').1
    obtain ⟨u, e1, e2⟩ := rv.get (i := i) (x := kV ks[i]) (by simp [hlt])
    rw [hv'] at e1
    obtain rfl := Option.some.inj e1
    have e3 : ks.getD i (.inl 0) = ks[i] := by simp [List.getD_eq_getElem?_getD, hlt]
    rw [e3]
    exact ⟨kV_is e2, key_scan e2⟩
  · rw [sz] at R
    have R2 : SetG (mixKind X.prog X.w) h' s.heap.objs.size (fun x => x ∈ ks) ks.length := R.same (fun x => by
      constructor
      · intro hx
        obtain ⟨j, hj, ej⟩ := List.getElem_of_mem hx
        exact ⟨j, hj, by rw [← ej]; simp [List.getD_eq_getElem?_getD, hj]⟩
      · rintro ⟨j, hj, ej⟩
        rw [ej]
        have e3 : ks.getD j (.inl 0) = ks[j] := by simp [List.getD_eq_getElem?_getD, hj]
        rw [e3]
        exact List.getElem_mem hj) (Nat.le_refl _)
    refine ⟨.ref s.heap.objs.size, upd H s.heap.objs.size (SetH X.prog X.w s.heap.objs.size ks), I.laid (t' := tk) (fun b o e => k b o (Heap.lt_size e) e) (Nat.le_refl _) ⟨R2, ?_, fun h1 h2 p kp => p.keep kp⟩, rfl, q _ hn⟩
    have ⟨o, _, _, _, ho, _⟩ := R2
    exact ⟨o, ho⟩
theorem mix_str {P : Program} {w : World} {x : Str} {v : Value} (h : (mixKind P w).is (.inr x) v = true) : ∃ t, v = .str x t := Value.isStrOf_shape h
theorem mix_int {P : Program} {w : World} {i : Int} {v : Value} (h : (mixKind P w).is (.inl i) v = true) : ∃ t, v = .int i t := by
  cases v with
  | int j t =>
    have e : (j == i) = true := h
    exact ⟨t, by rw [eq_of_beq e]⟩
  | _ => cases h
def textOf : Value → List Nat
  | .str x _ => x.cps.toList
  | _ => []
def intOf : Value → Int
  | .int i _ => i
  | _ => 0
theorem strs_by : ∀ {vs : List Value}, (∀ v ∈ vs, ∃ l t, v = .str (S l) t) → StrsAre vs ((vs.map textOf).map S)
  | [], _ => .nil
  | v :: vs, h => by
    obtain ⟨l, t, rfl⟩ := h v List.mem_cons_self
    exact .cons (S l) t (strs_by fun u hu => h u (List.mem_cons_of_mem _ hu))
theorem ints_by : ∀ {vs : List Value}, (∀ v ∈ vs, ∃ i t, v = .int i t) → IntsAre vs (vs.map intOf)
  | [], _ => .nil
  | v :: vs, h => by
    obtain ⟨i, t, rfl⟩ := h v List.mem_cons_self
    exact .cons i t (ints_by fun u hu => h u (List.mem_cons_of_mem _ hu))
section
variable {P : Program} {w : World} {A : Around} {E : Value → Shared → Prop} {s : Shared} {a : Addr} {n : Nat} {Q : Value → Shared → Prop}
theorem sorted_setT {ls : List (List Nat)} (R : SetG (mixKind P w) s.heap a (fun k => k ∈ ls.map fun l => (Sum.inr (S l) : Key)) n) (hh : A.handled = none) (hn : n < scanBound)
    (hQ : ∀ s' p (out : Array Value) (c : Nat) (ms : List (List Nat)), (∀ b o, s.heap.get? b = some o → s'.heap.get? b = some o) → s'.gens = s.gens → s'.os = s.os → s.heap.objs.size ≤ p → s'.heap.get? p = some (seqObj "list" out c) →
      StrsAre out.toList (ms.map S) → ms.Pairwise (· < ·) → (∀ l, l ∈ ms ↔ l ∈ ls) → ms.length ≤ n → Q (.ref p) s') : wpAny (model P w) A (call (.builtin "sorted") [.ref a]) Q E s := by
  obtain ⟨o, es, ep, t, ho, hx, hd, el, ap, hm, hf, hr, hl, hz⟩ := R
  refine Calls.call_function_entry kind_sorted plain_sorted entry_sorted (args_sorted1 _) ?_
  unfold Builtin.«sorted»
  refine wpAny_bind (m := checkCount "sorted" 1 1 _) (wpAny_pure (wpAny_bind ?_))
  refine collect_set (A := A.in1) hh ⟨o, ho, hx.1, hd⟩ hf (by omega) hr hl fun s1 vs kp hz1 g1 o1 pm => ?_
  have hvl : vs.length = es.size := by
    rw [pm.length_eq, List.length_map, Array.length_toList]
  have each : ∀ e ∈ es.toList, ∃ l tk, l ∈ ls ∧ e.2 = .str (S l) tk := fun e he => by
    obtain ⟨⟨k, hk, _⟩, _⟩ := el e he
    obtain ⟨l, hl1, rfl⟩ := List.mem_map.mp ((hm k).mpr ⟨e, he, hk⟩)
    obtain ⟨tk, e2⟩ := mix_str hk
    exact ⟨l, tk, hl1, e2⟩
  have vstr : ∀ v ∈ vs, ∃ l tk, v = .str (S l) tk := fun v hv => by
    obtain ⟨e, he, rfl⟩ := List.mem_map.mp (pm.mem_iff.mp hv)
    obtain ⟨l, tk, _, e2⟩ := each e he
    exact ⟨l, tk, e2⟩
  have hS := strs_by vstr
  have ptx : (vs.map textOf).Perm (es.toList.map fun e => textOf e.2) := by
    have := pm.map textOf
    rw [List.map_map] at this
    exact this
  have nd : (es.toList.map fun e => textOf e.2).Nodup := by
    refine List.pairwise_map.mpr (List.Pairwise.imp_of_mem (fun {e e'} he he' h z => ?_) ap)
    obtain ⟨l, tk, _, e2⟩ := each e he
    obtain ⟨l', tk', _, e2'⟩ := each e' he'
    rw [e2, e2'] at z
    have z : l = l' := z
    subst z
    refine h (.inr (S l)) ?_ ?_
    · rw [e2]
      exact kV_is (k := .inr (S l)) ⟨tk, rfl⟩
    · rw [e2']
      exact kV_is (k := .inr (S l)) ⟨tk', rfl⟩
  have mem : ∀ l, l ∈ (es.toList.map fun e => textOf e.2) ↔ l ∈ ls := fun l => by
    rw [List.mem_map]
    constructor
    · rintro ⟨e, he, rfl⟩
      obtain ⟨l, tk, hl1, e2⟩ := each e he
      rw [e2]
      exact hl1
    · intro hl1
      obtain ⟨e, he, hk⟩ := (hm (.inr (S l))).mp (List.mem_map.mpr ⟨l, hl1, rfl⟩)
      obtain ⟨tk, e2⟩ := mix_str hk
      exact ⟨e, he, by rw [e2]; rfl⟩
  have fit : vs.length ≤ sizeLine := by
    rw [hvl]
    exact sz_of (by have : es.size < 4096 := by (have : n < 4096 := hn); omega
                    omega)
  refine wpAny_bind (wpAny_newList ?_ fit)
  have atL : (s1.heap.push (seqObj "list" vs.toArray 0)).get? s1.heap.objs.size = some (seqObj "list" vs.toArray 0) := Heap.get?_push_size _ rfl
  refine wpAny_bind (wpAny_holding ?_)
  refine wpAny_call_entry slot_list_sort ⟨_, atL, rfl⟩ entry_list_sort ?_ (args_list_sort _)
  refine list_sort_treeKAny strKind_oneLt atL hS.keysOf (fun v1 v2 rest e => keyKind_strs (by rw [← e]; exact hS)) fit fun st' hp hs => ⟨_, rfl, ?_⟩
  obtain ⟨ys, k1, k2, k3⟩ := sorted_out_str hS hp hs
  obtain ⟨c, hc⟩ := sortedHeap_at (vs := vs) (out := (arrOf st').map (·.2)) atL
  have py : (ys.map fun z => z.cps.toList).Perm (es.toList.map fun e => textOf e.2) := (perm_S k2).trans ptx
  have k1' : StrsAre ((arrOf st').map (·.2)).toList ((ys.map fun z => z.cps.toList).map S) := by
    rw [← as_S ys]
    exact k1
  refine wpAny_pure ⟨_, rfl, hQ _ s1.heap.objs.size _ c _ (fun b u e => ?_) g1 o1 hz1 hc k1' (rise_strict (List.pairwise_map.mpr (sorted_pw k3)) (py.nodup_iff.mpr nd)) (fun l => py.mem_iff.trans (mem l)) (by rw [py.length_eq, List.length_map, Array.length_toList]; exact hz)⟩
  have q := kp b u e
  have lt := Heap.lt_size q
  refine (sortedHeap_old (Nat.ne_of_lt lt) ?_).trans (Heap.get?_push_of_some _ q)
  rw [size_push']
  exact Nat.lt_succ_of_lt lt
theorem sorted_setI {ns : List Int} (R : SetG (mixKind P w) s.heap a (fun k => k ∈ ns.map fun i => (Sum.inl i : Key)) n) (hh : A.handled = none) (hn : n < scanBound)
    (hQ : ∀ s' p (out : Array Value) (c : Nat) (ms : List Int), (∀ b o, s.heap.get? b = some o → s'.heap.get? b = some o) → s'.gens = s.gens → s'.os = s.os → s.heap.objs.size ≤ p → s'.heap.get? p = some (seqObj "list" out c) →
      IntsAre out.toList ms → ms.Pairwise (· ≤ ·) → (∀ i, i ∈ ms ↔ i ∈ ns) → ms.length ≤ n → Q (.ref p) s') : wpAny (model P w) A (call (.builtin "sorted") [.ref a]) Q E s := by
  obtain ⟨o, es, ep, t, ho, hx, hd, el, ap, hm, hf, hr, hl, hz⟩ := R
  refine Calls.call_function_entry kind_sorted plain_sorted entry_sorted (args_sorted1 _) ?_
  unfold Builtin.«sorted»
  refine wpAny_bind (m := checkCount "sorted" 1 1 _) (wpAny_pure (wpAny_bind ?_))
  refine collect_set (A := A.in1) hh ⟨o, ho, hx.1, hd⟩ hf (by omega) hr hl fun s1 vs kp hz1 g1 o1 pm => ?_
  have hvl : vs.length = es.size := by
    rw [pm.length_eq, List.length_map, Array.length_toList]
  have each : ∀ e ∈ es.toList, ∃ i tk, i ∈ ns ∧ e.2 = .int i tk := fun e he => by
    obtain ⟨⟨k, hk, _⟩, _⟩ := el e he
    obtain ⟨i, hi1, rfl⟩ := List.mem_map.mp ((hm k).mpr ⟨e, he, hk⟩)
    obtain ⟨tk, e2⟩ := mix_int hk
    exact ⟨i, tk, hi1, e2⟩
  have hI : IntsAre vs (vs.map intOf) := ints_by fun v hv => by
    obtain ⟨e, he, rfl⟩ := List.mem_map.mp (pm.mem_iff.mp hv)
    obtain ⟨i, tk, _, e2⟩ := each e he
    exact ⟨i, tk, e2⟩
  have ptx : (vs.map intOf).Perm (es.toList.map fun e => intOf e.2) := by
    have := pm.map intOf
    rw [List.map_map] at this
    exact this
  have mem : ∀ i, i ∈ (es.toList.map fun e => intOf e.2) ↔ i ∈ ns := fun i => by
    rw [List.mem_map]
    constructor
    · rintro ⟨e, he, rfl⟩
      obtain ⟨i, tk, hi1, e2⟩ := each e he
      rw [e2]
      exact hi1
    · intro hi1
      obtain ⟨e, he, hk⟩ := (hm (.inl i)).mp (List.mem_map.mpr ⟨i, hi1, rfl⟩)
      obtain ⟨tk, e2⟩ := mix_int hk
      exact ⟨e, he, by rw [e2]; rfl⟩
  have fit : vs.length ≤ sizeLine := by
    rw [hvl]
    exact sz_of (by have : es.size < 4096 := by (have : n < 4096 := hn); omega
                    omega)
  refine wpAny_bind (wpAny_newList ?_ fit)
  have atL : (s1.heap.push (seqObj "list" vs.toArray 0)).get? s1.heap.objs.size = some (seqObj "list" vs.toArray 0) := Heap.get?_push_size _ rfl
  refine wpAny_bind (wpAny_holding ?_)
  refine wpAny_call_entry slot_list_sort ⟨_, atL, rfl⟩ entry_list_sort ?_ (args_list_sort _)
  refine list_sort_treeAny atL hI fit fun out ns' k1 k2 k3 => ⟨_, rfl, ?_⟩
  obtain ⟨c, hc⟩ := sortedHeap_at (vs := vs) (out := out) atL
  have py := k2.trans ptx
  refine wpAny_pure ⟨_, rfl, hQ _ s1.heap.objs.size _ c ns' (fun b u e => ?_) g1 o1 hz1 hc k1 k3 (fun i => py.mem_iff.trans (mem i)) (by rw [py.length_eq, List.length_map, Array.length_toList]; exact hz)⟩
  have q := kp b u e
  have lt := Heap.lt_size q
  refine (sortedHeap_old (Nat.ne_of_lt lt) ?_).trans (Heap.get?_push_of_some _ q)
  rw [size_push']
  exact Nat.lt_succ_of_lt lt
end
/-- sorted(set): of texts, of numbers -/
def rSortSet (P : Program) (w : World) : List V → Hp → VK → Prop := fun vs H Q => ∃ a, vs = [.ref a] ∧
  ((∃ ls : List (List Nat), H a = some (SetH P w a (ls.map fun l => .inr (S l))) ∧ ls.length ≤ 4000 ∧ ∀ ms : List (List Nat), ms.Pairwise (· < ·) → (∀ l, l ∈ ms ↔ l ∈ ls) → ∀ p, H p = none → Q (.ref p) (upd H p (.lst (ms.map sV)))) ∨
   ∃ ns : List Int, H a = some (SetH P w a (ns.map fun i => .inl i)) ∧ ns.length ≤ 4000 ∧ ∀ ms : List Int, (∀ i, i ∈ ms ↔ i ∈ ns) → ms.length ≤ ns.length → ∀ p, H p = none → Q (.ref p) (upd H p (.lst (ms.map V.int))))
theorem cr_sortSet {X : Cx} (hc : X.calm = true) : CallR X (.builtin "sorted") (rSortSet X.prog X.w) := by
  intro pins s σ H vs us Q I r h
  obtain ⟨a, rfl, h⟩ := h
  rw [Vals.ref1 r]
  rcases h with ⟨ls, ha, hl, q⟩ | ⟨ns, ha, hl, q⟩
  · have R : SetG (mixKind X.prog X.w) s.heap a (fun k => k ∈ ls.map fun l => (Sum.inr (S l) : Key)) (ls.map fun l => (Sum.inr (S l) : Key)).length := (I.hok a _ ha).1
    rw [List.length_map] at R
    refine sorted_setT R (I.ok.hd hc) (by show ls.length < 4096; omega) fun s' p out c ms kp g o hp at1 hS rise mem hlen => ?_
    have fit : (ms.map sV).length ≤ sizeLine := by
      rw [List.length_map]
      exact sz_of (by omega)
    have e1 : ms.map sV = (ms.map S).map V.str := by
      rw [List.map_map]
      rfl
    have hn : H p = none := I.hok.fresh hp
    have J : Inv X pins σ (upd H p (.lst (ms.map sV))) { s with heap := s'.heap, gens := s'.gens, drawn := s'.drawn, toks := s'.toks } :=
      I.call (ch := []) (Un.laid kp hp hn) (I.hok.laid kp hp ⟨fit, out.toList, c, by rw [e1]; exact vals_of_strs hS, at1⟩) (by rw [g]; exact I.bare) (fun _ z => nomatch z)
    have e : s' = { s with heap := s'.heap, gens := s'.gens, drawn := s'.drawn, toks := s'.toks } := by
      cases s'
      cases s
      cases o
      rfl
    rw [e]
    exact ⟨.ref p, _, J, rfl, q ms rise mem p hn⟩
  · have R : SetG (mixKind X.prog X.w) s.heap a (fun k => k ∈ ns.map fun i => (Sum.inl i : Key)) (ns.map fun i => (Sum.inl i : Key)).length := (I.hok a _ ha).1
    rw [List.length_map] at R
    refine sorted_setI R (I.ok.hd hc) (by show ns.length < 4096; omega) fun s' p out c ms kp g o hp at1 hS rise mem hlen => ?_
    have fit : (ms.map V.int).length ≤ sizeLine := by
      rw [List.length_map]
      exact sz_of (by omega)
    have hn : H p = none := I.hok.fresh hp
    have J : Inv X pins σ (upd H p (.lst (ms.map V.int))) { s with heap := s'.heap, gens := s'.gens, drawn := s'.drawn, toks := s'.toks } :=
      I.call (ch := []) (Un.laid kp hp hn) (I.hok.laid kp hp ⟨fit, out.toList, c, vals_of_ints hS, at1⟩) (by rw [g]; exact I.bare) (fun _ z => nomatch z)
    have e : s' = { s with heap := s'.heap, gens := s'.gens, drawn := s'.drawn, toks := s'.toks } := by
      cases s'
      cases s
      cases o
      rfl
    rw [e]
    exact ⟨.ref p, _, J, rfl, q ms mem hlen p hn⟩
section
variable {K : PySem.W.Frag} {P : Program} {w : World} {σ : L2.St} {H : Hp} {te : TE}
theorem el_sortL {ls ms : List (List Nat)} (h : EvL te σ H (ls.map sV)) (hl : ls.length ≤ 100000) (hm : ∀ xs : List (List Nat), xs.Perm ls → (xs.Pairwise fun a b => ¬ b < a) → xs = ms) : EvL (tCB (rSortL K) (tCons te tNil)) σ H (ms.map sV) := fun H1 e Q q =>
  h H1 e _ fun p H2 _ e2 hp => ⟨p, ls, rfl, sq_of hp, hl, fun xs h1 h2 r hr => by
    rw [hm xs h1 h2]
    exact q r _ (fresh_back e2 hr) (e2.trans (Ex.new hr)) upd_same⟩
theorem el_setT {ls ms : List (List Nat)} (h : EvL te σ H (ls.map sV)) (hl : ls.length ≤ 4000) (hm : ∀ xs : List (List Nat), xs.Pairwise (· < ·) → (∀ l, l ∈ xs ↔ l ∈ ls) → xs = ms) :
    EvL (tCB (rSortSet P w) (tCons (tCB (rSetL K P w) (tCons te tNil)) tNil)) σ H (ms.map sV) := fun H1 e Q q =>
  h H1 e _ fun p H2 _ e2 hp => ⟨p, ls.map fun l => .inr (S l), rfl, by
    rw [List.map_map]
    exact sq_of hp, by rw [List.length_map]; exact hl, fun a ha => ⟨a, rfl, .inl ⟨ls, upd_same, hl, fun xs h1 h2 r hr => by
    rw [hm xs h1 h2]
    exact q r _ (fresh_back (e2.trans (Ex.new ha)) hr) ((e2.trans (Ex.new ha)).trans (Ex.new hr)) upd_same⟩⟩⟩
/-- sorted(set(numbers)): numbers of these alone -/
theorem ep_setI {p : Addr} {ns : List Int} (h : Ev te σ H (.ref p)) (hp : H p = some (.lst (ns.map V.int))) (hl : ns.length ≤ 4000) :
    EvP (tCB (rSortSet P w) (tCons (tCB (rSetL K P w) (tCons te tNil)) tNil)) σ H fun v H2 => ∃ (r : Addr) (ms : List Int), v = .ref r ∧ H2 r = some (.lst (ms.map V.int)) ∧ (∀ i, i ∈ ms ↔ i ∈ ns) ∧ ms.length ≤ ns.length := fun H1 e Q q =>
  h H1 e _ fun H2 e2 => ⟨p, ns.map fun i => .inl i, rfl, by
    rw [List.map_map]
    exact sq_of ((e.trans e2) p _ hp), by rw [List.length_map]; exact hl, fun a ha => ⟨a, rfl, .inr ⟨ns, upd_same, hl, fun ms h1 h2 r hr =>
    q _ _ (e2.trans ((Ex.new ha).trans (Ex.new hr))) ⟨r, ms, rfl, upd_same, h1, h2⟩⟩⟩⟩
end
end Br
namespace Br
open PySem PySem.Spec PyProof.Rows L2 Evl SX

/-! ### two lists told and changed -/
section
variable {K : PySem.W.Frag} {σ : L2.St} {H H' : Hp} {ta tb tc te tx : TE} {t : TT} {x y z v : V} {D : Ends} {tu tz : TS}
/-- all but what stands at p -/
def off (p : Addr) (H : Hp) : Hp := fun a => if a = p then none else H a
theorem off_at (p : Addr) (H : Hp) : off p H p = none := if_pos rfl
theorem off_ne {p a : Addr} (H : Hp) (h : a ≠ p) : off p H a = H a := if_neg h
theorem off_ex (p : Addr) (H : Hp) : Ex (off p H) H := fun a o e => by
  by_cases h : a = p
  · rw [h, off_at] at e
    cases e
  · rw [off_ne H h] at e
    exact e
theorem ex_off {p : Addr} (h : H p = none) (e : Ex H H') : Ex H (off p H') := fun a o ha => by
  have hne : a ≠ p := fun z => by
    rw [z, h] at ha
    cases ha
  rw [off_ne _ hne]
  exact e a o ha
/-- [f(a, b) for a, b in a list of two pairs], each giving a new list -/
theorem lc_two {q t0 t1 : Addr} {n0 c0 n1 c1 : V} {j1 j2 : Nat} {vs : List Nat} {A0 A1 : List V} (hv : Ev tx σ H (.ref q)) (hq : SqL K H q [.ref t0, .ref t1]) (h0 : SqT K H t0 [n0, c0]) (h1 : SqT K H t1 [n1, c1])
    (hw : ∀ x y, wipe (((wipe σ vs).set j1 (some x)).set j2 (some y)) vs = wipe σ vs) (e0 : ∀ H1, Ex H H1 → EvL te (((wipe σ vs).set j1 (some n0)).set j2 (some c0)) H1 A0) (e1 : ∀ H1, Ex H H1 → EvL te (((wipe σ vs).set j1 (some n1)).set j2 (some c1)) H1 A1)
    (Q : VK) (k : ∀ r p0 p1 H2, H r = none → H p0 = none → H p1 = none → p0 ≠ r → p1 ≠ r → p0 ≠ p1 → Ex H H2 → H2 r = some (.lst [.ref p0, .ref p1]) → H2 p0 = some (.lst A0) → H2 p1 = some (.lst A1) → Q (.ref r) H2) :
    tLc (iList K tx) (gTup K 2 (gCons (gName j1) (gCons (gName j2) gNil))) tYes te vs σ H Q := hv H (Ex.refl H) _ fun H1 x1 => ⟨q, rfl, ⟨_, ex_l x1 hq⟩, fun Dl hD => by
  refine lc_list (xs := [.ref t0, .ref t1]) (fun i H' => Ex H1 H' ∧ ((i = 0 ∧ H' Dl = some (.lst [])) ∨ (i = 1 ∧ ∃ p0, H p0 = none ∧ p0 ≠ Dl ∧ H' Dl = some (.lst [.ref p0]) ∧ H' p0 = some (.lst A0)) ∨
    (i = 2 ∧ ∃ p0 p1, H p0 = none ∧ H p1 = none ∧ p0 ≠ Dl ∧ p1 ≠ Dl ∧ p0 ≠ p1 ∧ H' Dl = some (.lst [.ref p0, .ref p1]) ∧ H' p0 = some (.lst A0) ∧ H' p1 = some (.lst A1)))) ⟨Ex.new hD, .inl ⟨rfl, upd_same⟩⟩ (fun i H' _ c => ex_l (x1.trans c.1) hq) ?_ ?_
  · rintro i x H2 hx ⟨x2, c⟩
    have e12 := x1.trans x2
    rcases c with ⟨rfl, hd⟩ | ⟨rfl, p0, f0, d0, hd, ha⟩ | ⟨rfl, _⟩
    · obtain rfl := Option.some.inj hx
      refine ⟨t0, _, rfl, ex_t e12 h0, rfl, _, _, rfl, _, _, rfl, rfl, hw _ _, tYes_if ?_⟩
      refine e0 H2 e12 H2 (Ex.refl H2) _ fun p H3 hp e3 h3 => ⟨[], e3 _ _ hd, by decide, Ex.mut (x2.trans e3) hD, .inr (.inl ⟨rfl, p, fresh_back e12 hp, ?_, upd_same, ?_⟩)⟩
      · exact fun z => by
          rw [z, hd] at hp
          cases hp
      · rw [upd_ne fun z => by
          rw [z, hd] at hp
          cases hp]
        exact h3
    · obtain rfl := Option.some.inj hx
      refine ⟨t1, _, rfl, ex_t e12 h1, rfl, _, _, rfl, _, _, rfl, rfl, hw _ _, tYes_if ?_⟩
      refine e1 H2 e12 H2 (Ex.refl H2) _ fun p H3 hp e3 h3 => ?_
      have pd : p ≠ Dl := fun z => by
        rw [z, hd] at hp
        cases hp
      have pp : p0 ≠ p := fun z => by
        rw [← z, ha] at hp
        cases hp
      refine ⟨[.ref p0], e3 _ _ hd, sz_lt (by show 1 < 100000; decide), Ex.mut (x2.trans e3) hD, .inr (.inr ⟨rfl, p0, p, f0, fresh_back e12 hp, d0, pd, pp, upd_same, ?_, ?_⟩)⟩
      · rw [upd_ne d0]
        exact e3 _ _ ha
      · rw [upd_ne pd]
        exact h3
    · cases hx
  · rintro H2 ⟨x2, c⟩
    rcases c with ⟨z, _⟩ | ⟨z, _⟩ | ⟨_, p0, p1, f0, f1, d0, d1, d2, hd, ha, hb⟩
    · cases z
    · cases z
    · exact k Dl p0 p1 H2 (fresh_back x1 hD) f0 f1 d0 d1 d2 (x1.trans x2) hd ha hb⟩
theorem q_two {q t0 t1 : Addr} {n0 c0 n1 c1 : V} {i j1 j2 : Nat} {vs : List Nat} {A0 A1 : List V} (hv : Ev tx σ H (.ref q)) (hq : SqL K H q [.ref t0, .ref t1]) (h0 : SqT K H t0 [n0, c0]) (h1 : SqT K H t1 [n1, c1])
    (hw : ∀ x y, wipe (((wipe σ vs).set j1 (some x)).set j2 (some y)) vs = wipe σ vs) (e0 : ∀ H1, Ex H H1 → EvL te (((wipe σ vs).set j1 (some n0)).set j2 (some c0)) H1 A0) (e1 : ∀ H1, Ex H H1 → EvL te (((wipe σ vs).set j1 (some n1)).set j2 (some c1)) H1 A1)
    (k : ∀ r p0 p1 H2, H r = none → H p0 = none → H p1 = none → p0 ≠ r → p1 ≠ r → p0 ≠ p1 → Ex H H2 → H2 r = some (.lst [.ref p0, .ref p1]) → H2 p0 = some (.lst A0) → H2 p1 = some (.lst A1) → tz D (σ.set i (some (.ref r))) H2) :
    tSeq (tAsg (tLc (iList K tx) (gTup K 2 (gCons (gName j1) (gCons (gName j2) gNil))) tYes te vs) (gName i)) tz D σ H := show tLc (iList K tx) (gTup K 2 (gCons (gName j1) (gCons (gName j2) gNil))) tYes te vs σ H (fun x H1 => gName i x σ H1 (tz D)) from lc_two (K := K) hv hq h0 h1 hw e0 e1 _ k
/-- repr of a list of texts, up to two thousand -/
theorem ev_reprS {p : Addr} {ls : List (List Nat)} (h : Ev te σ H (.ref p)) (hp : H p = some (.lst (ls.map sV))) (hw : ∀ l ∈ ls, okS l = true) (hl : ls.length ≤ 2000) : Ev (tCB (rReprD K) (tCons te tNil)) σ H (.str (PyData.list (ls.map dS)).shown) :=
  ev_cb (ea_cons h ea_nil) fun H1 e _ q => ⟨.ref p, .list (ls.map dS), rfl, .lst (sq_of (e p _ hp)) (dpa_strs ls), by
    unfold PyData.showable
    exact showable_all ls, by
    unfold PyData.hasDict
    exact nodict_all ls, by
    unfold PyData.depth
    rw [deep_strs]
    decide, by
    unfold PyData.shown
    rw [shown_all]
    have := shown_words hw
    exact Nat.le_trans (list_text_len _) (Nat.le_trans (Nat.add_le_add_right this 2) (Nat.le_trans (Nat.add_le_add_right (Nat.mul_le_mul_left 604 hl) 2) (by decide))), ⟨p, rfl⟩, q H1 (Ex.refl H1)⟩
theorem ev_reprNS {ls : List (List Nat)} (h : EvL te σ H (ls.map sV)) (hw : ∀ l ∈ ls, okS l = true) (hl : ls.length ≤ 2000) : Ev (tCB (rReprD K) (tCons te tNil)) σ H (.str (PyData.list (ls.map dS)).shown) := fun H1 e Q q =>
  h H1 e _ fun p H2 _ e2 hp => ⟨.ref p, .list (ls.map dS), rfl, .lst (sq_of hp) (dpa_strs ls), by
    unfold PyData.showable
    exact showable_all ls, by
    unfold PyData.hasDict
    exact nodict_all ls, by
    unfold PyData.depth
    rw [deep_strs]
    decide, by
    unfold PyData.shown
    rw [shown_all]
    have := shown_words hw
    exact Nat.le_trans (list_text_len _) (Nat.le_trans (Nat.add_le_add_right this 2) (Nat.le_trans (Nat.add_le_add_right (Nat.mul_le_mul_left 604 hl) 2) (by decide))), ⟨p, rfl⟩, q H2 e2⟩
/-- for (a, b), c in zip(two lists that stand) -/
theorem q_forZZ {p r : Addr} {xs ys : List V} {j1 j2 j3 : Nat} (ha : Ev ta σ H (.ref p)) (hb : Ev tb σ H (.ref r)) (Pv : Nat → L2.St → Hp → Prop) (h0 : Pv 0 σ H) (hl : ∀ i σ' H', Pv i σ' H' → SqL K H' p xs ∧ SqL K H' r ys)
    (hs : ∀ (N : L2.St → Hp → Prop) i x y σ' H', (∀ σ2 H2, Pv (i + 1) σ2 H2 → N σ2 H2) → Pv i σ' H' → xs[i]? = some x → ys[i]? = some y →
      gTup K 2 (gCons (gName j1) (gCons (gName j2) gNil)) x σ' H' fun σ2 H2 => tu { D with nx := N, ct := N, bk := tz D } (σ2.set j3 (some y)) H2)
    (hp : ∀ i σ' H' T o, Pv i σ' H' → H' T = none → Pv i σ' (upd H' T o)) (hq : ∀ H1, Ex H H1 → Pv 0 σ H1) (hd : ∀ σ' H', Pv (min xs.length ys.length) σ' H' → tz D σ' H') :
    tSeq (tFor (iZip K (tCons ta (tCons tb tNil))) (gTup K 2 (gCons (gTup K 2 (gCons (gName j1) (gCons (gName j2) gNil))) (gCons (gName j3) gNil))) tu) tz D σ H :=
  ha H (Ex.refl H) _ fun H1 e1 => hb H1 e1 _ fun H2 e2 => ⟨p, r, xs, ys, rfl, (hl 0 σ H2 (hq H2 (e1.trans e2))).1, (hl 0 σ H2 (hq H2 (e1.trans e2))).2,
    for_it (D := { D with nx := tz D }) (walk_zip (K := K) (a := p) (b := r) (xs := xs) (ys := ys) rfl) Pv (hq H2 (e1.trans e2)) (fun i σ' H' _ c => hl i σ' H' c)
      (fun i v σ' H3 H4 hi c y => by
        obtain ⟨T, a, b, rfl, hT, rfl, ea, eb⟩ := y
        refine ⟨T, _, rfl, st_of upd_same, rfl, _, _, rfl, ?_⟩
        have z := hs (Pv (i + 1)) i a b σ' (upd H3 T (.tup [a, b])) (fun _ _ h => h) (hp i σ' H3 T _ c hT) ea eb
        obtain ⟨t, zs, e1, e2, e3, u, v, e4, u2, v2, e5, e6, e7⟩ := z
        exact ⟨t, zs, e1, e2, e3, u, v, e4, u2, v2, e5, e6, _, _, rfl, rfl, e7⟩) hd⟩
/-- a, b = a pair that stands -/
theorem p_pair {i j : Nat} {tp : Addr} {u w : V} (h : Ev te σ H (.ref tp)) (hp : H tp = some (.tup [u, w])) (k : ∀ H1, Ex H H1 → tz D ((σ.set i (some u)).set j (some w)) H1) :
    tSeq (tAsg te (gTup K 2 (gCons (gName i) (gCons (gName j) gNil)))) tz D σ H := h H (Ex.refl H) _ fun H1 e => ⟨tp, _, rfl, st_of (e tp _ hp), rfl, _, _, rfl, _, _, rfl, rfl, k H1 e⟩
theorem cutV_last (xs : List V) (y : V) : cutV (xs ++ [y]) none (some (-1)) = xs := by
  unfold cutV
  rw [HT.sIx_none, List.drop_zero, Nat.sub_zero, List.length_append]
  show (xs ++ [y]).take (if (-1 : Int) < 0 then ((-1 : Int) + ((xs.length + 1 : Nat) : Int)).toNat else min (-1 : Int).toNat (xs.length + 1)) = xs
  rw [if_pos (by decide), show ((-1 : Int) + ((xs.length + 1 : Nat) : Int)).toNat = xs.length by omega, List.take_append_of_le_length (Nat.le_refl _), List.take_length]
end
theorem size_few {n c : Nat} (h : (n, c) ∈ sizes) : ((allR (few c) n).length : Int) = ringsN n c ∧ (allR (few c) n).length ≤ 1024 := by
  obtain ⟨n1, n2, c1, c2, hm⟩ := size_bd h
  have := counted h
  exact ⟨(List.cons.inj this).1, Nat.le_trans allR_len hm⟩
/-- the least turnings of all words, each once, rising, are all rings -/
theorem least_set {c n : Nat} (c1 : 1 ≤ c) (n1 : 1 ≤ n) {xs : List (List Nat)} (h : xs.Pairwise (· < ·)) (hm : ∀ l, l ∈ xs ↔ l ∈ (allW (few c) n).map leastL) : xs = allR (few c) n := by
  refine rise_one h (allR_rise (letters_few c1).rise n) fun l => (hm l).trans ?_
  rw [List.mem_map]
  constructor
  · rintro ⟨w, hw, rfl⟩
    obtain ⟨e, hc⟩ := allW_mem.mp hw
    have lst := leastL_is (l := w) (by omega)
    obtain ⟨k, hk, ek⟩ := mem_turns.mp lst.1
    refine allR_mem.mpr ⟨(ring_least (by rw [ek, turn_len]; omega)).mpr ?_, by rw [ek, turn_len]; exact e, fun d hd => ?_⟩
    · have z := (least_turn hk).mpr lst
      rw [← ek] at z
      exact z
    · rw [ek] at hd
      unfold turnL at hd
      rcases List.mem_append.mp hd with hd | hd
      · exact hc d (List.mem_of_mem_drop hd)
      · exact hc d (List.mem_of_mem_take hd)
  · intro hl
    have r := allR_mem.mp hl
    exact ⟨l, allW_mem.mpr ⟨r.2.1, r.2.2⟩, least_uniq (leastL_is (by have := r.2.1; omega)) ((ring_least (by have := r.2.1; omega)).mp r.1)⟩
end Br
namespace Br
open PySem PySem.Spec PyProof.Rows L2 Evl SX

/-! ### the long word -/
def insW (w : List Nat) : List (List Nat) → List (List Nat)
  | [] => [w]
  | v :: vs => if v < w then v :: insW w vs else w :: v :: vs
def sortW : List (List Nat) → List (List Nat)
  | [] => []
  | w :: ws => insW w (sortW ws)
theorem insW_perm (w : List Nat) : ∀ vs : List (List Nat), (insW w vs).Perm (w :: vs)
  | [] => List.Perm.refl _
  | v :: vs => by
    unfold insW
    split
    · exact ((insW_perm w vs).cons v).trans (List.Perm.swap w v vs)
    · exact List.Perm.refl _
theorem sortW_perm : ∀ ws : List (List Nat), (sortW ws).Perm ws
  | [] => List.Perm.refl _
  | w :: ws => (insW_perm w _).trans ((sortW_perm ws).cons w)
theorem insW_sorted {w : List Nat} : ∀ {vs : List (List Nat)}, (vs.Pairwise fun a b => ¬ b < a) → (insW w vs).Pairwise fun a b => ¬ b < a
  | [], _ => List.pairwise_singleton _ _
  | v :: vs, h => by
    obtain ⟨h1, h2⟩ := List.pairwise_cons.mp h
    unfold insW
    split
    · rename_i c
      refine List.pairwise_cons.mpr ⟨fun x hx => ?_, insW_sorted h2⟩
      rcases List.mem_cons.mp ((insW_perm w vs).mem_iff.mp hx) with rfl | hx
      · exact fun z => List.lt_irrefl _ (List.lt_trans z c)
      · exact h1 x hx
    · rename_i c
      refine List.pairwise_cons.mpr ⟨fun x hx => ?_, h⟩
      rcases List.mem_cons.mp hx with rfl | hx
      · exact c
      · exact le_le c (h1 x hx)
theorem sortW_sorted : ∀ ws : List (List Nat), (sortW ws).Pairwise fun a b => ¬ b < a
  | [] => List.Pairwise.nil
  | _ :: ws => insW_sorted (sortW_sorted ws)
/-- the period, by trying -/
def perL (l : List Nat) : Nat := (((List.range l.length).find? fun k => decide (turnL l (1 + k) = l)).getD (l.length - 1)) + 1
theorem perL_is {l : List Nat} (hl : 0 < l.length) : IsPer l (perL l) := by
  obtain ⟨p, h1, h2, h3, h4⟩ := per_ex hl
  have e : (List.range l.length).find? (fun k => decide (turnL l (1 + k) = l)) = some (p - 1) := by
    rw [List.find?_range_eq_some]
    refine ⟨decide_eq_true (by rw [show 1 + (p - 1) = p by omega]; exact h3), List.mem_range.mpr (by omega), fun j hj => ?_⟩
    rw [decide_eq_false (h4 (1 + j) (by omega) (by omega))]
    rfl
  have : perL l = p := by
    unfold perL
    rw [e]
    show p - 1 + 1 = p
    omega
  rw [this]
  exact ⟨h1, h2, h3, h4⟩
def prim (l : List Nat) : List Nat := l.take (perL l)
/-- the law's primes: of every size that goes into the length, by trying all words -/
def lynB (n : Nat) (w : List Nat) : Bool := ((List.range (n - 1)).filter fun k => !decide (w < turnL w (1 + k))).isEmpty
def lawPrimes (c n : Nat) : List (List Nat) := (List.range n).flatMap fun i => if n % (1 + i) = 0 then (allW (few c) (1 + i)).filter (lynB (1 + i)) else []
def chainP (n c : Nat) : List (List Nat) := sortW ((allR (few c) n).map prim)
def chainW (n c : Nat) : List Nat := (chainP n c).flatten
/-- read round it -/
def winsOf (n : Nat) : Nat → List Nat → List (List Nat)
  | 0, _ => []
  | m + 1, l => l.take n :: winsOf n m l.tail
theorem winsOf_at (n : Nat) : ∀ (m : Nat) (l : List Nat), winsOf n m l = (List.range m).map fun p => (l.drop p).take n
  | 0, l => rfl
  | m + 1, l => by
    unfold winsOf
    rw [winsOf_at n m, List.range_succ_eq_map, List.map_cons, List.map_map, List.drop_zero]
    congr 1
    refine List.map_congr_left fun p _ => ?_
    show (l.tail.drop p).take n = (l.drop (p + 1)).take n
    rw [List.drop_tail]
def code (k : Nat) (w : List Nat) : Nat := w.foldl (fun a c => a * k + (c - 97)) 0
def apart : List Nat → Nat → Bool
  | [], _ => true
  | v :: vs, m => !m.testBit v && apart vs (m ||| (1 <<< v))
theorem apart_ok : ∀ {vs : List Nat} {m : Nat}, apart vs m = true → vs.Nodup ∧ ∀ v ∈ vs, m.testBit v = false
  | [], m, _ => ⟨List.nodup_nil, fun v hv => by cases hv⟩
  | v :: vs, m, h => by
    unfold apart at h
    rw [Bool.and_eq_true, Bool.not_eq_true'] at h
    obtain ⟨h1, h2⟩ := apart_ok h.2
    have h3 : ∀ u ∈ vs, m.testBit u = false ∧ u ≠ v := fun u hu => by
      have z := h2 u hu
      rw [Nat.testBit_or, Bool.or_eq_false_iff] at z
      refine ⟨z.1, fun e => ?_⟩
      rw [e] at z
      have := z.2
      rw [Nat.testBit_shiftLeft] at this
      simp at this
    refine ⟨List.nodup_cons.mpr ⟨fun hv => (h3 v hv).2 rfl, h1⟩, fun u hu => ?_⟩
    rcases List.mem_cons.mp hu with rfl | hu
    · exact h.1
    · exact (h3 u hu).1
def chainB (n c : Nat) : Bool := decide (sortW (lawPrimes c n) = chainP n c) && decide ((chainW n c).length = c ^ n) && apart ((winsOf n (c ^ n) (cyc (chainW n c) (c ^ n + n))).map (code c)) 0
theorem prim_in {l : List Nat} {d : Nat} (h : d ∈ prim l) : d ∈ l := List.mem_of_mem_take h
theorem few_all : ((List.range 60).all fun i => (List.range 8).all fun j => decide (3000 < (1 + j) ^ (1 + i)) || (decide (ringsN (1 + i) (1 + j) ≤ 3000) && decide ((1 + i) * (1 + j) ^ (1 + i) ≤ 60000))) = true := by decide +kernel
theorem few_bd {n c : Nat} (n1 : 1 ≤ n) (n2 : n ≤ 60) (c1 : 1 ≤ c) (c2 : c ≤ 8) (h : c ^ n ≤ 3000) : ringsN n c ≤ 3000 ∧ n * c ^ n ≤ 60000 := by
  have z := List.all_eq_true.mp (List.all_eq_true.mp few_all (n - 1) (List.mem_range.mpr (by omega))) (c - 1) (List.mem_range.mpr (by omega))
  rw [show 1 + (n - 1) = n by omega, show 1 + (c - 1) = c by omega, Bool.or_eq_true, Bool.and_eq_true, decide_eq_true_eq, decide_eq_true_eq, decide_eq_true_eq] at z
  rcases z with z | z
  · omega
  · exact z
theorem prim_len {l : List Nat} (hl : 0 < l.length) : (prim l).length ≤ l.length ∧ 0 < (prim l).length := by
  obtain ⟨h1, h2, _⟩ := perL_is hl
  unfold prim
  rw [List.length_take]
  omega
theorem chain_len (n c : Nat) : (chainW n c).length ≤ n * c ^ n := by
  have h1 : ∀ ws : List (List Nat), (∀ w ∈ ws, w.length ≤ n) → ws.flatten.length ≤ n * ws.length := by
    intro ws
    induction ws with
    | nil => intro _; exact Nat.zero_le _
    | cons w ws ih =>
      intro h
      have a1 := ih fun u hu => h u (List.mem_cons_of_mem _ hu)
      have a2 := h w List.mem_cons_self
      rw [List.flatten_cons, List.length_append, List.length_cons, Nat.mul_succ]
      omega
  have h2 : (chainP n c).length ≤ c ^ n := by
    unfold chainP
    rw [(sortW_perm _).length_eq, List.length_map]
    have := List.length_filter_le ringB (allW (few c) n)
    rw [allW_many] at this
    have e : (few c).length = c := few_len c
    rw [e] at this
    exact this
  refine Nat.le_trans (h1 _ fun w hw => ?_) (Nat.mul_le_mul_left n h2)
  obtain ⟨r, hr, rfl⟩ := List.mem_map.mp ((sortW_perm _).mem_iff.mp hw)
  have := (allR_mem.mp hr).2.1
  unfold prim
  rw [List.length_take]
  omega

end Br
namespace Br
open PySem PySem.Spec PyProof.Rows L2 Evl SX

/-! ### the long word of the sizes tried -/
theorem chain_all : (sizes.all fun s => chainB s.1 s.2) = true := by decide +kernel
theorem nodup_all {α : Type} [DecidableEq α] : ∀ {xs ys : List α}, xs.Nodup → (∀ x ∈ xs, x ∈ ys) → ys.length ≤ xs.length → ∀ y ∈ ys, y ∈ xs
  | [], ys, _, _, hl, y, hy => by
    have : ys = [] := List.length_eq_zero_iff.mp (Nat.le_zero.mp hl)
    rw [this] at hy
    cases hy
  | x :: xs, ys, hn, hs, hl, y, hy => by
    obtain ⟨n1, n2⟩ := List.nodup_cons.mp hn
    by_cases e : y = x
    · rw [e]
      exact List.mem_cons_self
    · have hx := hs x List.mem_cons_self
      refine List.mem_cons_of_mem _ (nodup_all (ys := ys.erase x) n2 (fun z hz => (List.mem_erase_of_ne fun e => n1 (by rw [← e]; exact hz)).mpr (hs z (List.mem_cons_of_mem _ hz))) ?_ y ((List.mem_erase_of_ne e).mpr hy))
      rw [List.length_erase_of_mem hx]
      rw [List.length_cons] at hl
      omega
/-- a text told again and again, read from a place on -/
theorem round_at {W : List Nat} {m n p : Nat} (hW : 0 < W.length) (hm : W.length + n ≤ m * W.length) (hp : p ≤ W.length) : ((List.replicate m W).flatten.drop p).take n = ((cyc W (W.length + n)).drop p).take n := by
  refine (take_same (by rw [List.length_drop, flat_length]; omega) (by rw [List.length_drop, cyc_len hW]; omega)).mpr fun t ht => ?_
  rw [drop_getD, drop_getD, cyc_get hW (by omega), List.getD_eq_getElem?_getD, flat_at hW m (p + t) (by omega), List.getD_eq_getElem?_getD]
theorem round_len {W : List Nat} {n p : Nat} (hW : 0 < W.length) (hp : p ≤ W.length) : (((cyc W (W.length + n)).drop p).take n).length = n := by
  rw [List.length_take, List.length_drop, cyc_len hW]
  omega
def win (n c p : Nat) : List Nat := ((cyc (chainW n c) (c ^ n + n)).drop p).take n
structure Chain (n c : Nat) : Prop where
  same : sortW (lawPrimes c n) = chainP n c
  len : (chainW n c).length = c ^ n
  pos : 0 < c ^ n
  once : ((List.range (c ^ n)).map (win n c)).Nodup
  lets : ∀ d ∈ chainW n c, d ∈ few c
theorem chain {n c : Nat} (h : (n, c) ∈ sizes) : Chain n c := by
  have z := List.all_eq_true.mp chain_all _ h
  unfold chainB at z
  simp only [Bool.and_eq_true, decide_eq_true_eq] at z
  obtain ⟨⟨h1, h2⟩, h3⟩ := z
  have nd := (apart_ok h3).1
  rw [winsOf_at] at nd
  refine ⟨h1, h2, Nat.pow_pos (size_bd h).2.2.1, List.Pairwise.of_map (code c) (fun a b hab e => hab (congrArg (code c) e)) nd, fun d hd => ?_⟩
  obtain ⟨w, hw, hdw⟩ := List.mem_flatten.mp hd
  obtain ⟨r, hr, rfl⟩ := List.mem_map.mp ((sortW_perm _).mem_iff.mp hw)
  exact (allR_mem.mp hr).2.2 d (prim_in hdw)
theorem win_word {n c p : Nat} (C : Chain n c) (hp : p < c ^ n) : win n c p ∈ allW (few c) n := by
  refine allW_mem.mpr ⟨?_, fun d hd => C.lets d ?_⟩
  · unfold win
    rw [← C.len]
    exact round_len (by rw [C.len]; exact C.pos) (by rw [C.len]; omega)
  · exact cyc_mem (List.mem_of_mem_drop (List.mem_of_mem_take hd))
theorem win_one {n c p q : Nat} (C : Chain n c) (hp : p < c ^ n) (hq : q < c ^ n) (h : win n c p = win n c q) : p = q := by
  have up := List.pairwise_iff_getElem.mp C.once
  have at_ : ∀ (i : Nat) (hi : i < ((List.range (c ^ n)).map (win n c)).length), ((List.range (c ^ n)).map (win n c))[i] = win n c i := fun i hi => by simp
  have hl : ((List.range (c ^ n)).map (win n c)).length = c ^ n := by simp
  rcases Nat.lt_trichotomy p q with z | z | z
  · have := up p q (by omega) (by omega) z
    rw [at_, at_] at this
    exact absurd h this
  · exact z
  · have := up q p (by omega) (by omega) z
    rw [at_, at_] at this
    exact absurd h.symm this
theorem win_all {n c : Nat} (C : Chain n c) {w : List Nat} (hw : w ∈ allW (few c) n) : ∃ p, p < c ^ n ∧ win n c p = w := by
  have z := nodup_all C.once (ys := allW (few c) n) (fun x hx => by
    obtain ⟨p, hp, rfl⟩ := List.mem_map.mp hx
    exact win_word C (List.mem_range.mp hp)) (by rw [List.length_map, List.length_range, allW_many]; rw [few_len]; exact Nat.le_refl _) w hw
  obtain ⟨p, hp, e⟩ := List.mem_map.mp z
  exact ⟨p, List.mem_range.mp hp, e⟩

end Br
namespace Br
open PySem PySem.Spec PyProof.Rows L2 Evl SX

/-! ### longer products, dicts of texts, where a text is read -/
theorem lt_one {a b : Nat} (h : a + 64 < b) : a + 1 < b := by omega
def rMulS2 : R2 := fun x y H Q => ∃ (l : List Nat) (n : Nat), x = .str (S l) ∧ y = .int (n : Int) ∧ n ≤ 1000 ∧ l.length ≤ 100000 ∧ n * l.length ≤ 10000000 ∧ Q (.str (S (List.replicate n l).flatten)) H
theorem op_mulS2 {X : Cx} : OpR X (binaryOp .Mult) rMulS2 := by
  intro pins s σ H x y v u Q I rx ry h
  obtain ⟨l, n, rfl, rfl, h1, h2, h3, q⟩ := h
  obtain ⟨t, rfl⟩ := rx
  obtain ⟨t', rfl⟩ := ry
  have hl : (S l).length = l.length := S_len l
  have hp : l.length * n ≤ 10000000 := by
    rw [Nat.mul_comm]
    exact h3
  have hq : l.length * n ≤ 100000 * 1000 := Nat.mul_le_mul h2 h1
  refine SB.mul ⟨?_, fun a _ => ?_, fun a _ => ?_⟩ fun t2 k => ⟨.str (S (List.replicate n l).flatten), H, I.tok _, ⟨t2, by rw [mul_S]⟩, q⟩
  · rw [decide_eq_false (by omega : ¬ (n : Int) < -(2 ^ 63 : Int)), decide_eq_false (by omega : ¬ (n : Int) ≥ 2 ^ 63)]
    rfl
  · rw [hl]
    have : (100000 : Int) ≤ (2 ^ 63 - 1) / (n : Int) := (Int.le_ediv_iff_mul_le (by omega)).mpr (by omega)
    omega
  · rw [hl, Int.toNat_natCast]
    unfold Builtin.Str.tooLong
    rw [sizeLine_eq]
    exact decide_eq_false (by omega)
theorem rv_mulS2 {l : List Nat} {n : Nat} {i : Int} {H : Hp} (e : i = (n : Int)) (h1 : n ≤ 1000) (h2 : l.length ≤ 100000) (h3 : n * l.length ≤ 10000000) : RV rMulS2 (.str (S l)) (.int i) H (.str (S (List.replicate n l).flatten)) := fun H1 _ Q q =>
  ⟨l, n, rfl, by rw [e], h1, h2, h3, q H1 (Ex.refl H1)⟩
/-- text.find(text) -/
def rFind1 : V → List V → Hp → VK → Prop := fun x xs H Q => ∃ a b, x = .str a ∧ xs = [.str b] ∧ Q (.int (Txt.find a b)) H
theorem mt_find1 {X : Cx} : MtR X "str.find" rFind1 := mt_find
theorem ev_find1 {K : PySem.W.Frag} {σ : L2.St} {H : Hp} {ta tb : TE} {a b : Str} (h1 : Ev ta σ H (.str a)) (h2 : Ev tb σ H (.str b)) : Ev (tBM K "str" rFind1 ta (tCons tb tNil)) σ H (.int (Txt.find a b)) := fun H1 e _ q =>
  h1 H1 e _ fun H2 e2 => ⟨rfl, h2 H2 (e.trans e2) _ fun H3 e3 => ⟨a, b, rfl, rfl, q H3 (e2.trans e3)⟩⟩
theorem find_at {w l : List Nat} {p : Nat} (hl : 0 < l.length) (h : (w.drop p).take l.length = l) (hb : ∀ k, k < p → (w.drop k).take l.length ≠ l) : Txt.find (S w) (S l) = (p : Int) := by
  have hne : TL.tl (S l) ≠ [] := fun z => by
    have z' : l = [] := z
    rw [z'] at hl
    simp at hl
  have at_ : ∀ k, PySem.StrLaws.At (S w) (S l) (S w).length k ↔ (w.drop k).take l.length = l := fun k => by
    rw [TL.at_iff hne]
    show ((w.drop k).take l.length == l) = true ↔ _
    rw [beq_iff_eq]
  rcases find_whole (S w) (S l) with ⟨_, hn⟩ | ⟨i, e, ha, hb'⟩
  · exact absurd ((at_ p).mpr h) (hn p)
  · rw [e]
    have hip : ¬ p < i := fun z => hb' p z ((at_ p).mpr h)
    have hpi : ¬ i < p := fun z => hb i z ((at_ i).mp ha)
    omega
/-- sorted(a list that stands) -/
theorem el_sortLV {K : PySem.W.Frag} {σ : L2.St} {H : Hp} {te : TE} {p : Addr} {ls ms : List (List Nat)} (h : Ev te σ H (.ref p)) (hp : H p = some (.lst (ls.map sV))) (hl : ls.length ≤ 100000) (hm : ∀ xs : List (List Nat), xs.Perm ls → (xs.Pairwise fun a b => ¬ b < a) → xs = ms) :
    EvL (tCB (rSortL K) (tCons te tNil)) σ H (ms.map sV) := fun H1 e Q q =>
  h H1 e _ fun H2 e2 => ⟨p, ls, rfl, sq_of ((e.trans e2) p _ hp), hl, fun xs h1 h2 r hr => by
    rw [hm xs h1 h2]
    exact q r _ (fresh_back e2 hr) (e2.trans (Ex.new hr)) upd_same⟩
/-- texts, told place by place -/
theorem strs_by_place {us : List Value} : ∀ {ks : List Str}, ks.length = us.length → (∀ (j : Nat) (v : Value), us[j]? = some v → ∃ (x : Str) (t : Tok), ks[j]? = some x ∧ v = Value.str x t) → StrsAre us ks := by
  induction us with
  | nil =>
    intro ks hl _
    match ks, hl with
    | [], _ => exact .nil
  | cons u us ih =>
    intro ks hl h
    match ks, hl with
    | k :: ks, hl =>
      obtain ⟨x, t, e1, rfl⟩ := h 0 u rfl
      obtain rfl : k = x := Option.some.inj e1
      exact .cons k t (ih (Nat.succ.inj hl) fun j v e => h (j + 1) v e)
/-- sorted(a dict of texts) -/
def rSortDict : List V → Hp → VK → Prop := fun xs H Q => ∃ (a : Addr) (kvs : List (Key × V)) (ls : List (List Nat)), xs = [.ref a] ∧ H a = some (.dK kvs) ∧ kvs.map (·.1) = ls.map (fun l => Sum.inr (S l)) ∧ ls.length ≤ 100000 ∧
  ∀ ms : List (List Nat), ms.Perm ls → (ms.Pairwise fun a b => ¬ b < a) → ∀ p, H p = none → Q (.ref p) (upd H p (.lst (ms.map sV)))
theorem cr_sortDict {X : Cx} (hcalm : X.calm = true) : CallR X (.builtin "sorted") rSortDict := by
  intro pins s σ H xs us Q I r q
  obtain ⟨a, kvs, ls, ex, hd, hks0, hl0, q⟩ := q
  subst ex
  obtain ⟨u, eu, rx⟩ := vals1 r
  subst eu
  cases rx
  obtain ⟨z, lo, vs, rel, dd⟩ := dk_rd I.hok (.inl hd)
  obtain ⟨ep, hat⟩ := dd.dictAt
  have hks : kvs.map (·.1) = (ls.map S).map Sum.inr := by
    rw [hks0, List.map_map]
    rfl
  generalize hksS : ls.map S = ks at hks
  have hlk : ks.length = ls.length := by rw [← hksS, List.length_map]
  have hkeys : vs.map (·.1) = ks.map Sum.inr := rel.keys.symm.trans hks
  have hl : vs.length = ks.length := by
    have e := congrArg List.length hkeys
    rw [List.length_map, List.length_map] at e
    exact e
  have h16 : vs.length ≤ sizeLine := by rw [hl, hlk]; exact sz_of hl0
  refine Calls.call_function_entry PyProof.Rows.kind_sorted PyProof.Rows.plain_sorted PyProof.Rows.entry_sorted (PyProof.Rows.args_sorted1 _) ?_
  unfold Builtin.«sorted»
  refine wpAny_bind (m := checkCount "sorted" 1 1 _) (wpAny_pure ?_)
  refine wpAny_bind (PySem.W.kdu_collect (A := X.A.in1) (PySem.W.kdl_dict (knd := mixKind X.prog X.w) (kvs := vs) (ep := ep) lo) (I.ok.hd hcalm) hat h16 fun h' tk acc hk hacc => ?_)
  have hal : acc.toList.length = ks.length := by rw [Array.length_toList, hacc.1, hl]
  have hS : StrsAre acc.toList ks := strs_by_place hal.symm fun j v e => by
    obtain ⟨k, x, e1, e2⟩ := hacc.2 j v (by rw [← Array.getElem?_toList]; exact e)
    have e3 : (vs.map (·.1))[j]? = some k := by rw [List.getElem?_map, e1]; all_goals rfl
    rw [hkeys, List.getElem?_map] at e3
    cases e4 : ks[j]? with
    | none => rw [e4] at e3; cases e3
    | some y =>
      rw [e4] at e3
      have e5 : Sum.inr y = k := Option.some.inj e3
      subst e5
      obtain ⟨t, ev⟩ := Value.isStrOf_shape (x := y) (v := v) e2
      exact ⟨y, t, rfl, ev⟩
  have fit : acc.toList.length ≤ sizeLine := by
    rw [hal, hlk]
    exact sz_of hl0
  have I1 : Inv X pins σ H { s with heap := h', toks := tk } := I.kept hk
  refine wpAny_bind (wpAny_newList ?_ fit)
  have hoL : (h'.push (seqObj "list" acc.toList.toArray 0)).get? h'.objs.size = some (seqObj "list" acc.toList.toArray 0) := Heap.get?_push_size _ rfl
  show wpAny _ _ _ _ _ { s with heap := h'.push (seqObj "list" acc.toList.toArray 0), toks := tk }
  refine wpAny_bind (wpAny_holding (wpAny_call_entry PyProof.Rows.slot_list_sort ⟨_, hoL, rfl⟩ PyProof.Rows.entry_list_sort
    (list_sort_treeKAny strKind_oneLt (s := { s with heap := h'.push (seqObj "list" acc.toList.toArray 0), toks := tk }) hoL hS.keysOf (fun v₁ v₂ rest e => keyKind_strs (by rw [← e]; exact hS)) fit fun st' hp hs => ⟨_, rfl, ?_⟩)
    (PyProof.Rows.args_list_sort _)))
  obtain ⟨ys, g1, g2, g3⟩ := sorted_out_str hS hp hs
  obtain ⟨e', he'⟩ := PyProof.Rows.sortedHeap_at (vs := acc.toList) (out := (arrOf st').map (·.2)) hoL
  have hlen : (ys.map V.str).length ≤ sizeLine := by
    rw [List.length_map, g2.length_eq, hlk]
    exact sz_of hl0
  have hy : ys.map V.str = (ys.map fun z => z.cps.toList).map sV := by
    conv => lhs; rw [as_S ys]
    rw [List.map_map]
    rfl
  have hn : H h'.objs.size = none := I1.hok.fresh (Nat.le_refl _)
  refine wpAny_pure ⟨_, rfl, .ref h'.objs.size, upd H h'.objs.size (.lst (ys.map V.str)), I1.laid (t' := tk) (fun b u e => ?_) (Nat.le_refl _)
    (show ObjOk X.prog X.w _ _ _ (.lst (ys.map V.str)) from ⟨hlen, ((arrOf st').map (·.2)).toList, e', vals_of_strs g1, by rw [Array.toArray_toList]; exact he'⟩), rfl, ?_⟩
  · have hb : b < h'.objs.size := Heap.lt_size e
    rw [PyProof.Rows.sortedHeap_old (Nat.ne_of_lt hb) (by rw [size_push']; exact Nat.lt_succ_of_lt hb)]
    exact Heap.get?_push_of_some _ e
  · rw [hy]
    rw [← hksS] at g2
    exact q _ (perm_S g2) (List.pairwise_map.mpr (sorted_pw g3)) _ hn
section
variable {K : PySem.W.Frag} {σ : L2.St} {H : Hp} {td ty tv te ta : TE} {D : Ends} {tz : TS} {p : Addr} {kvs : List (Key × V)} {k : Key}
theorem el_sortD {ls ms : List (List Nat)} (h : Ev te σ H (.ref p)) (hp : H p = some (.dK kvs)) (hk : kvs.map (·.1) = ls.map fun l => (Sum.inr (S l) : Key)) (hl : ls.length ≤ 100000) (hm : ∀ xs : List (List Nat), xs.Perm ls → (xs.Pairwise fun a b => ¬ b < a) → xs = ms) :
    EvL (tCB rSortDict (tCons te tNil)) σ H (ms.map sV) := fun H1 e Q q =>
  h H1 e _ fun H2 e2 => ⟨p, kvs, ls, rfl, (e.trans e2) p _ hp, hk, hl, fun xs h1 h2 r hr => by
    rw [hm xs h1 h2]
    exact q r _ (fresh_back e2 hr) (e2.trans (Ex.new hr)) upd_same⟩
theorem et_inD (hy : Ev ty σ H (kV k)) (hd : Ev td σ H (.ref p)) (hp : H p = some (.dK kvs)) : EvT (tB (tDIn ty td)) σ H (valV kvs k).isSome := et_B fun H1 e Q q =>
  hy H1 e _ fun H2 e2 => hd H2 (e.trans e2) _ fun H3 e3 => ⟨p, _, rfl, .k (((e.trans e2).trans e3) p _ hp), q H3 (e2.trans e3)⟩
theorem ev_getD {v : V} (hd : Ev td σ H (.ref p)) (hy : Ev ty σ H (kV k)) (hp : H p = some (.dK kvs)) (hv : valV kvs k = some v) : Ev (tDGet td ty) σ H v := fun H1 e Q q =>
  hd H1 e _ fun H2 e2 => hy H2 (e.trans e2) _ fun H3 e3 => ⟨p, v, rfl, by
    have z := DGet.k (k := k) (((e.trans e2).trans e3) p _ hp)
    rw [hv] at z
    exact z, q H3 (e2.trans e3)⟩
theorem s_putD {v : V} (hv : Ev tv σ H v) (hd : Ev td σ H (.ref p)) (hy : Ev ty σ H (kV k)) (hp : H p = some (.dK kvs)) (hl : kvs.length < 100000) (g : ∀ H1, Ex H H1 → D.nx σ (upd H1 p (.dK (putK kvs k v)))) : sDPut td ty tv D σ H :=
  hv H (Ex.refl H) _ fun H1 e1 => hd H1 e1 _ fun H2 e2 => hy H2 (e1.trans e2) _ fun H3 e3 => ⟨p, _, rfl, .k (((e1.trans e2).trans e3) p _ hp) (Nat.lt_of_lt_of_le hl (sz_of (Nat.le_refl _))), g H3 ((e1.trans e2).trans e3)⟩
theorem q_newD {i : Nat} (g : ∀ p H1, H p = none → Ex H H1 → H1 p = some (.dK []) → tz D (σ.set i (some (.ref p))) H1) : tSeq (tAsg tDNewK (gName i)) tz D σ H := fun p hn => g p _ hn (Ex.new hn) upd_same
end
/-- the dict of the windows so far -/
def wkv (n c i : Nat) : List (Key × V) := (List.range i).map fun p => ((Sum.inr (S (win n c p)) : Key), V.int (p : Int))
theorem wkv_len (n c i : Nat) : (wkv n c i).length = i := by
  unfold wkv
  rw [List.length_map, List.length_range]
theorem wkv_keys (n c i : Nat) : (wkv n c i).map (·.1) = ((List.range i).map (win n c)).map fun l => (Sum.inr (S l) : Key) := by
  unfold wkv
  rw [List.map_map, List.map_map]
  rfl
theorem wkv_at {n c i p : Nat} (C : Chain n c) (hi : i ≤ c ^ n) (hp : p < i) : valV (wkv n c i) (.inr (S (win n c p))) = some (.int (p : Int)) := by
  induction i with
  | zero => omega
  | succ i ih =>
    have e : wkv n c (i + 1) = wkv n c i ++ [((Sum.inr (S (win n c i)) : Key), V.int (i : Int))] := by
      unfold wkv
      rw [List.range_succ, List.map_append]
      rfl
    rw [e]
    by_cases z : p = i
    · subst z
      unfold valV
      rw [List.find?_append, List.find?_eq_none.mpr]
      · simp
      · intro x hx
        obtain ⟨q, hq, rfl⟩ := List.mem_map.mp hx
        rw [List.mem_range] at hq
        intro hd
        have hd := of_decide_eq_true hd
        have := win_one C (by omega) (by omega) (S_inj (Sum.inr.inj hd))
        omega
    · have ih := ih (by omega) (by omega)
      unfold valV at ih ⊢
      rw [List.find?_append]
      cases f : (wkv n c i).find? fun kv => decide (kv.1 = (Sum.inr (S (win n c p)) : Key)) with
      | none =>
        rw [f] at ih
        cases ih
      | some y =>
        rw [f] at ih
        exact ih
theorem wkv_no {n c i : Nat} (C : Chain n c) (hi : i < c ^ n) : valV (wkv n c i) (.inr (S (win n c i))) = none := by
  unfold valV
  rw [List.find?_eq_none.mpr]
  · rfl
  · intro x hx
    obtain ⟨q, hq, rfl⟩ := List.mem_map.mp hx
    rw [List.mem_range] at hq
    intro hd
    have hd := of_decide_eq_true hd
    have := win_one C (by omega) (by omega) (S_inj (Sum.inr.inj hd))
    omega
theorem wkv_put {n c i : Nat} (C : Chain n c) (hi : i < c ^ n) : putK (wkv n c i) (.inr (S (win n c i))) (.int (i : Int)) = wkv n c (i + 1) := by
  unfold putK
  rw [valV_any, wkv_no C hi]
  show (if false = true then _ else _) = _
  rw [if_neg Bool.false_ne_true]
  unfold wkv
  rw [List.range_succ, List.map_append]
  rfl
/-- the windows, sorted, are all words -/
theorem wins_sorted {n c : Nat} (C : Chain n c) {xs : List (List Nat)} (h : xs.Perm ((List.range (c ^ n)).map (win n c))) (hp : xs.Pairwise fun a b => ¬ b < a) (hc : 1 ≤ c) : xs = allW (few c) n := by
  refine rise_one (rise_strict hp (h.nodup_iff.mpr C.once)) (allW_rise (few_letters hc).rise n) fun l => ?_
  rw [h.mem_iff]
  constructor
  · intro hl
    obtain ⟨p, hp, rfl⟩ := List.mem_map.mp hl
    exact win_word C (List.mem_range.mp hp)
  · intro hl
    obtain ⟨p, hp, rfl⟩ := win_all C hl
    exact List.mem_map.mpr ⟨p, List.mem_range.mpr hp, rfl⟩
/-- where place_of reads -/
def place (n c : Nat) (l : List Nat) : Int := Txt.find (S (List.replicate (n + 1) (chainW n c)).flatten) (S l)
theorem place_at {n c p : Nat} (C : Chain n c) (hn : 1 ≤ n) (hp : p < c ^ n) : place n c (win n c p) = (p : Int) := by
  have hW : 0 < (chainW n c).length := by rw [C.len]; exact C.pos
  have len : ∀ k, k < c ^ n → (win n c k).length = n := fun k hk => by
    unfold win
    rw [← C.len]
    exact round_len hW (by rw [C.len]; omega)
  have at_ : ∀ k, k < c ^ n → ((List.replicate (n + 1) (chainW n c)).flatten.drop k).take n = win n c k := fun k hk => by
    have z := round_at (W := chainW n c) (m := n + 1) (n := n) (p := k) hW (by
      have := Nat.mul_le_mul_left n (show 1 ≤ (chainW n c).length from hW)
      rw [Nat.succ_mul]
      omega) (by rw [C.len]; omega)
    rw [z, C.len]
    rfl
  refine find_at (by rw [len p hp]; exact hn) (by rw [len p hp]; exact at_ p hp) fun k hk e => ?_
  rw [len p hp, at_ k (by omega)] at e
  have := win_one C (by omega) hp e
  omega
/-- what a length and colours of a long word are refused for -/
def NeedLW (K : PySem.W.Frag) (CN CM : Addr) (v u : V) (H : Hp) (E : XK) : Prop := ThI K H v ∧ ThI K H u ∧ (inB 60 v = false → Ref E CN H) ∧ (inB 60 v = true → inB 8 u = false → Ref E CN H) ∧
  ∀ n c : Nat, v = .int (n : Int) → u = .int (c : Int) → 1 ≤ n → n ≤ 60 → 1 ≤ c → c ≤ 8 → 3000 < c ^ n → Ref E CM H
theorem NeedLW.mono {K : PySem.W.Frag} {CN CM : Addr} {v u : V} {H H' : Hp} {E : XK} (e : Ex H H') (h : NeedLW K CN CM v u H E) : NeedLW K CN CM v u H' E :=
  ⟨h.1.mono e, h.2.1.mono e, fun z => (h.2.2.1 z).mono e, fun z y => (h.2.2.2.1 z y).mono e, fun n c h1 h2 h3 h4 h5 h6 h7 => (h.2.2.2.2 n c h1 h2 h3 h4 h5 h6 h7).mono e⟩
def sp_long (K : PySem.W.Frag) (CN CM : Addr) : Sp := fun vs H Q E => ∃ v u, vs = [v, u] ∧ NeedLW K CN CM v u H E ∧ ∀ n c : Nat, v = .int (n : Int) → u = .int (c : Int) → 1 ≤ n → n ≤ 60 → 1 ≤ c → c ≤ 8 → c ^ n ≤ 3000 → RetV (.str (S (chainW n c))) H Q
/-- what is no word of a length and so many colours -/
def noRead (n c : Nat) : V → Bool
  | .str z => !(okS z.cps.toList && (decide (z.cps.toList.length = n) && z.cps.toList.all fun d => decide (d ∈ few c)))
  | _ => true
def sp_place (K : PySem.W.Frag) (CN CM CW : Addr) : Sp := fun vs H Q E => ∃ x v u, vs = [x, v, u] ∧ ThS K H x ∧ NeedLW K CN CM v u H E ∧ ∀ n c : Nat, v = .int (n : Int) → u = .int (c : Int) → 1 ≤ n → n ≤ 60 → 1 ≤ c → c ≤ 8 → c ^ n ≤ 3000 →
  (noRead n c x = true → Ref E CW H) ∧ ∀ l : List Nat, x = .str (S l) → noRead n c x = false → RetV (.int (place n c l)) H Q
def sp_lprimes : Sp := fun vs H Q _ => ∃ n c : Nat, vs = [.int (n : Int), .int (c : Int)] ∧ 1 ≤ n ∧ n ≤ 60 ∧ 1 ≤ c ∧ c ≤ 8 ∧ c ^ n ≤ 1024 ∧ RetL ((sortW (lawPrimes c n)).map sV) H Q
end Br
namespace Br
open PySem PySem.Spec PyProof.Rows L2 Evl SX

/-! ### what is refused, and by which class -/
def wRing : List Nat := [114, 105, 110, 103]
def wNone : List Nat := [110, 111, 110, 101]
def wMany : List Nat := [109, 97, 110, 121]
theorem wRing_S : (PySem.Str.ofString "ring" : Str) = S wRing := by decide +kernel
theorem wNone_S : (PySem.Str.ofString "none" : Str) = S wNone := by decide +kernel
theorem wMany_S : (PySem.Str.ofString "many" : Str) = S wMany := by decide +kernel
/-- the number, the letters of a value -/
def num : V → Nat
  | .int i => i.toNat
  | _ => 0
def txt : V → List Nat
  | .str z => z.cps.toList
  | _ => []
/-- the class of the refusal of each of the six, an empty one where nothing is refused -/
def kRing (v u : V) : List Nat := if ringV v = true then (if inB 8 u = true then (if ((txt v).all fun d => decide (d ∈ few (num u))) = true then [] else wRing) else wNumber) else wRing
def kNum (v u : V) : List Nat := if kRing v u = [] then (if 3000 < ringsN (txt v).length (num u) then wMany else []) else kRing v u
def kAll (v u : V) : List Nat := if inB 60 v = true then (if inB 8 u = true then (if 3000 < ringsN (num v) (num u) then wMany else []) else wNumber) else wNumber
def kLong (v u : V) : List Nat := if inB 60 v = true then (if inB 8 u = true then (if 3000 < (num u) ^ (num v) then wMany else []) else wNumber) else wNumber
def kAt (x v u : V) : List Nat := if kAll v u = [] then (if noNum (allR (few (num u)) (num v)).length x = true then wNone else []) else kAll v u
def kPl (x v u : V) : List Nat := if kLong v u = [] then (if noRead (num v) (num u) x = true then wWord else []) else kLong v u
/-- what is due of a call, by its number -/
def Right (K : PySem.W.Frag) (way : Nat) (xs : List V) (H : Hp) (nm : List Nat) : Prop :=
  (way = 0 → ∃ v u, xs = [v, u] ∧ ThS K H v ∧ ThI K H u ∧ kRing v u = nm) ∧ (way = 1 → ∃ v u, xs = [v, u] ∧ ThS K H v ∧ ThI K H u ∧ kNum v u = nm) ∧
  (way = 2 → ∃ v u, xs = [v, u] ∧ ThI K H v ∧ ThI K H u ∧ kAll v u = nm) ∧ (way = 3 → ∃ v u, xs = [v, u] ∧ ThI K H v ∧ ThI K H u ∧ kLong v u = nm) ∧
  (way = 4 → ∃ x v u, xs = [x, v, u] ∧ ThI K H x ∧ ThI K H v ∧ ThI K H u ∧ kAt x v u = nm) ∧ (5 ≤ way → ∃ x v u, xs = [x, v, u] ∧ ThS K H x ∧ ThI K H v ∧ ThI K H u ∧ kPl x v u = nm)
section
variable {K : PySem.W.Frag} {H H' : Hp}
theorem Right.mono {way : Nat} {xs : List V} {nm : List Nat} (e : Ex H H') (h : Right K way xs H nm) : Right K way xs H' nm := by
  obtain ⟨h0, h1, h2, h3, h4, h5⟩ := h
  refine ⟨fun z => ?_, fun z => ?_, fun z => ?_, fun z => ?_, fun z => ?_, fun z => ?_⟩
  · obtain ⟨v, u, a, b, c, d⟩ := h0 z
    exact ⟨v, u, a, b.mono e, c.mono e, d⟩
  · obtain ⟨v, u, a, b, c, d⟩ := h1 z
    exact ⟨v, u, a, b.mono e, c.mono e, d⟩
  · obtain ⟨v, u, a, b, c, d⟩ := h2 z
    exact ⟨v, u, a, b.mono e, c.mono e, d⟩
  · obtain ⟨v, u, a, b, c, d⟩ := h3 z
    exact ⟨v, u, a, b.mono e, c.mono e, d⟩
  · obtain ⟨x, v, u, a, b, c, d, f⟩ := h4 z
    exact ⟨x, v, u, a, b.mono e, c.mono e, d.mono e, f⟩
  · obtain ⟨x, v, u, a, b, c, d, f⟩ := h5 z
    exact ⟨x, v, u, a, b.mono e, c.mono e, d.mono e, f⟩
/-- of a ring and colours, of both calls -/
theorem right01 {way : Nat} {v u : V} {nm : List Nat} (hw : way ≤ 1) (hv : ThS K H v) (hu : ThI K H u) (h0 : kRing v u = nm) (h1 : kNum v u = nm) : Right K way [v, u] H nm :=
  ⟨fun _ => ⟨v, u, rfl, hv, hu, h0⟩, fun _ => ⟨v, u, rfl, hv, hu, h1⟩, fun z => by omega, fun z => by omega, fun z => by omega, fun z => by omega⟩
theorem right0 {v u : V} {nm : List Nat} (hv : ThS K H v) (hu : ThI K H u) (h0 : kRing v u = nm) : Right K 0 [v, u] H nm :=
  ⟨fun _ => ⟨v, u, rfl, hv, hu, h0⟩, fun z => by omega, fun z => by omega, fun z => by omega, fun z => by omega, fun z => by omega⟩
theorem right1 {v u : V} {nm : List Nat} (hv : ThS K H v) (hu : ThI K H u) (h1 : kNum v u = nm) : Right K 1 [v, u] H nm :=
  ⟨fun z => by omega, fun _ => ⟨v, u, rfl, hv, hu, h1⟩, fun z => by omega, fun z => by omega, fun z => by omega, fun z => by omega⟩
theorem right23 {way : Nat} {v u : V} {nm : List Nat} (hw : way = 2 ∨ way = 3) (hv : ThI K H v) (hu : ThI K H u) (h2 : kAll v u = nm) (h3 : kLong v u = nm) : Right K way [v, u] H nm :=
  ⟨fun z => by omega, fun z => by omega, fun _ => ⟨v, u, rfl, hv, hu, h2⟩, fun _ => ⟨v, u, rfl, hv, hu, h3⟩, fun z => by omega, fun z => by omega⟩
theorem right2 {v u : V} {nm : List Nat} (hv : ThI K H v) (hu : ThI K H u) (h2 : kAll v u = nm) : Right K 2 [v, u] H nm :=
  ⟨fun z => by omega, fun z => by omega, fun _ => ⟨v, u, rfl, hv, hu, h2⟩, fun z => by omega, fun z => by omega, fun z => by omega⟩
theorem right3 {v u : V} {nm : List Nat} (hv : ThI K H v) (hu : ThI K H u) (h3 : kLong v u = nm) : Right K 3 [v, u] H nm :=
  ⟨fun z => by omega, fun z => by omega, fun z => by omega, fun _ => ⟨v, u, rfl, hv, hu, h3⟩, fun z => by omega, fun z => by omega⟩
theorem right45 {way : Nat} {x v u : V} {nm : List Nat} (hw : way = 4 ∨ way = 5) (hx : ThI K H x) (hx' : ThS K H x) (hv : ThI K H v) (hu : ThI K H u) (h4 : kAt x v u = nm) (h5 : kPl x v u = nm) : Right K way [x, v, u] H nm :=
  ⟨fun z => by omega, fun z => by omega, fun z => by omega, fun z => by omega, fun _ => ⟨x, v, u, rfl, hx, hv, hu, h4⟩, fun _ => ⟨x, v, u, rfl, hx', hv, hu, h5⟩⟩
theorem right4 {x v u : V} {nm : List Nat} (hx : ThI K H x) (hv : ThI K H v) (hu : ThI K H u) (h4 : kAt x v u = nm) : Right K 4 [x, v, u] H nm :=
  ⟨fun z => by omega, fun z => by omega, fun z => by omega, fun z => by omega, fun _ => ⟨x, v, u, rfl, hx, hv, hu, h4⟩, fun z => by omega⟩
theorem right5 {x v u : V} {nm : List Nat} (hx : ThS K H x) (hv : ThI K H v) (hu : ThI K H u) (h5 : kPl x v u = nm) : Right K 5 [x, v, u] H nm :=
  ⟨fun z => by omega, fun z => by omega, fun z => by omega, fun z => by omega, fun z => by omega, fun _ => ⟨x, v, u, rfl, hx, hv, hu, h5⟩⟩
/-- a try: a pair of a call and of what is due -/
def TryP (K : PySem.W.Frag) (v : V) (H : Hp) : Prop := ∃ (t p : Addr) (way : Nat) (xs : List V) (nm : List Nat), v = .ref t ∧ H t = some (.tup [.int (way : Int), .ref p, .str (S nm)]) ∧ H p = some (.lst xs) ∧ Right K way xs H nm
theorem TryP.mono (v : V) (H1 H2 : Hp) (e : Ex H1 H2) (h : TryP K v H1) : TryP K v H2 := by
  obtain ⟨t, p, way, xs, nm, rfl, h1, h2, h3⟩ := h
  exact ⟨t, p, way, xs, nm, rfl, e t _ h1, e p _ h2, h3.mono e⟩
theorem ex_off2 {p : Addr} (e : Ex H H') : Ex (off p H) (off p H') := fun a o ha => by
  by_cases z : a = p
  · rw [z, off_at] at ha
    cases ha
  · rw [off_ne _ z] at ha ⊢
    exact e a o ha
theorem off_upd {p : Addr} {o : HO} : off p (upd H p o) = off p H := funext fun a => by
  by_cases z : a = p
  · rw [z, off_at, off_at]
  · rw [off_ne _ z, off_ne _ z, upd_ne z]
/-- a list of tries, itself in none of them -/
def TrL (K : PySem.W.Frag) (p : Addr) (xs : List V) (H : Hp) : Prop := H p = some (.lst xs) ∧ ∀ x ∈ xs, TryP K x (off p H)
theorem TrL.mono {p : Addr} {xs : List V} (e : Ex H H') (h : TrL K p xs H) : TrL K p xs H' := ⟨e p _ h.1, fun x hx => TryP.mono x _ _ (ex_off2 e) (h.2 x hx)⟩
theorem TrL.all {p : Addr} {xs : List V} (h : TrL K p xs H) : ∀ x ∈ xs, TryP K x H := fun x hx => TryP.mono x _ _ (off_ex p H) (h.2 x hx)
end
section
variable {K : PySem.W.Frag} {σ : L2.St} {H H' B : Hp} {ta tb tc te tl tw tk tx : TE} {t : TA} {a b c x y z v : V} {P : V → Hp → Prop} {D : Ends} {tu tz : TS} {way : Nat} {nm : List Nat} {g : TG}
/-- a call that is told with a thing of some kind -/
theorem ev_callP {sp : Sp} {E : XK} (h : EvP te σ H P) (hs : ∀ v H1, Ex H H1 → P v H1 → ∀ Q : VK, RetV z H1 Q → sp [v] H1 Q E) : Ev (tCall sp [] E (tCons te tNil)) σ H z := fun H1 e Q q =>
  h H1 e _ fun v H2 e2 hv => hs v H2 (e.trans e2) hv Q fun H3 e3 => q H3 (e2.trans e3)
theorem try2 (hw : Ev tw σ H (.int (way : Int))) (ha : Ev ta σ H a) (hb : Ev tb σ H b) (hk : Ev tk σ H (.str (S nm))) (hR : ∀ H1, Ex H H1 → Right K way [a, b] H1 nm) :
    EvP (tTup (tCons tw (tCons (tLst (tCons ta (tCons tb tNil))) (tCons tk tNil)))) σ H (TryP K) := fun H1 e Q q =>
  hw H1 e _ fun H2 e2 => ha H2 (e.trans e2) _ fun H3 e3 => hb H3 ((e.trans e2).trans e3) _ fun H4 e4 => ⟨sz_of (by show 2 ≤ 100000; decide), fun r hr => by
    have er := (e2.trans (e3.trans e4)).trans (Ex.new (o := .lst [a, b]) hr)
    exact hk _ (e.trans er) _ fun H5 e5 => ⟨sz_of (by show 3 ≤ 100000; decide), fun s hs => by
      have es := (er.trans e5).trans (Ex.new (o := .tup [.int (way : Int), .ref r, .str (S nm)]) hs)
      exact q _ _ es ⟨s, r, way, [a, b], nm, rfl, upd_same, (e5.trans (Ex.new hs)) r _ upd_same, hR _ (e.trans es)⟩⟩⟩
theorem try3 (hw : Ev tw σ H (.int (way : Int))) (ha : Ev ta σ H a) (hb : Ev tb σ H b) (hc : Ev tc σ H c) (hk : Ev tk σ H (.str (S nm))) (hR : ∀ H1, Ex H H1 → Right K way [a, b, c] H1 nm) :
    EvP (tTup (tCons tw (tCons (tLst (tCons ta (tCons tb (tCons tc tNil)))) (tCons tk tNil)))) σ H (TryP K) := fun H1 e Q q =>
  hw H1 e _ fun H2 e2 => ha H2 (e.trans e2) _ fun H3 e3 => hb H3 ((e.trans e2).trans e3) _ fun H4 e4 => hc H4 (((e.trans e2).trans e3).trans e4) _ fun H5 e5 => ⟨sz_of (by show 3 ≤ 100000; decide), fun r hr => by
    have er := (e2.trans (e3.trans (e4.trans e5))).trans (Ex.new (o := .lst [a, b, c]) hr)
    exact hk _ (e.trans er) _ fun H6 e6 => ⟨sz_of (by show 3 ≤ 100000; decide), fun s hs => by
      have es := (er.trans e6).trans (Ex.new (o := .tup [.int (way : Int), .ref r, .str (S nm)]) hs)
      exact q _ _ es ⟨s, r, way, [a, b, c], nm, rfl, upd_same, (e6.trans (Ex.new hs)) r _ upd_same, hR _ (e.trans es)⟩⟩⟩
/-- one that touches no list that stood -/
def TryE (K : PySem.W.Frag) (te : TE) (σ : L2.St) (H : Hp) (p : Addr) : Prop := ∀ H1, Ex H H1 → ∀ Q : VK, (∀ v H2, Ex H1 H2 → TryP K v (off p H2) → Q v H2) → te σ H1 Q
theorem try3E {p : Addr} {o : HO} (hp : H p = some o) (hw : Ev tw σ H (.int (way : Int))) (ha : Ev ta σ H a) (hb : Ev tb σ H b) (hc : Ev tc σ H c) (hk : Ev tk σ H (.str (S nm))) (hR : ∀ H1, Ex H H1 → Right K way [a, b, c] (off p H1) nm) :
    TryE K (tTup (tCons tw (tCons (tLst (tCons ta (tCons tb (tCons tc tNil)))) (tCons tk tNil)))) σ H p := fun H1 e Q q =>
  hw H1 e _ fun H2 e2 => ha H2 (e.trans e2) _ fun H3 e3 => hb H3 ((e.trans e2).trans e3) _ fun H4 e4 => hc H4 (((e.trans e2).trans e3).trans e4) _ fun H5 e5 => ⟨sz_of (by show 3 ≤ 100000; decide), fun r hr => by
    have er := (e2.trans (e3.trans (e4.trans e5))).trans (Ex.new (o := .lst [a, b, c]) hr)
    have rp : r ≠ p := fun z => by
      rw [z, (e.trans (e2.trans (e3.trans (e4.trans e5)))) p _ hp] at hr
      cases hr
    exact hk _ (e.trans er) _ fun H6 e6 => ⟨sz_of (by show 3 ≤ 100000; decide), fun s hs => by
      have es := (er.trans e6).trans (Ex.new (o := .tup [.int (way : Int), .ref r, .str (S nm)]) hs)
      have sp : s ≠ p := fun z => by
        rw [z, (e.trans (er.trans e6)) p _ hp] at hs
        cases hs
      exact q _ _ es ⟨s, r, way, [a, b, c], nm, rfl, by rw [off_ne _ sp]; exact upd_same, by rw [off_ne _ rp]; exact (e6.trans (Ex.new hs)) r _ upd_same, hR _ (e.trans es)⟩⟩⟩
/-- tried = tried + [..] -/
theorem s_catT {i n : Nat} {p : Addr} {xs : List V} (hi : σ[i]? = some (some (.ref p))) (hT : TrL K p xs H) (h : EvAll t σ H n (TryP K)) (hn : xs.length + n ≤ 1000)
    (k : ∀ r ys H1, H r = none → Ex H H1 → TrL K r ys H1 → ys.length = xs.length + n → D.nx (σ.set i (some (.ref r))) H1) : tAsg (tOp rCat (tVar i) (tLst t)) (gName i) D σ H :=
  show tOp rCat (tVar i) (tLst t) σ H (fun x H1 => gName i x σ H1 D.nx) from ev_var hi H (Ex.refl H) _ fun H2 e2 => h H2 e2 _ fun vs H3 e3 hl hv => ⟨sz_of (by omega), fun r hr => ⟨p, r, xs, vs, rfl, rfl, ((e2.trans e3).trans (Ex.new hr)) p _ hT.1, upd_same, sz_of (by omega), fun s hs => by
    have e4 := (e2.trans e3).trans (Ex.new (o := .lst vs) hr)
    have off4 := ex_off hs (Ex.new (o := .lst (xs ++ vs)) hs)
    refine k s (xs ++ vs) _ (fresh_back e4 hs) (e4.trans (Ex.new hs)) ⟨upd_same, fun x hm => ?_⟩ (by rw [List.length_append, hl])
    rcases List.mem_append.mp hm with hm | hm
    · exact TryP.mono x _ _ (e4.trans off4) (hT.all x hm)
    · exact TryP.mono x _ _ ((Ex.new hr).trans off4) (hv x hm)⟩⟩
theorem q_catT {i n : Nat} {p : Addr} {xs : List V} (hi : σ[i]? = some (some (.ref p))) (hT : TrL K p xs H) (h : EvAll t σ H n (TryP K)) (hn : xs.length + n ≤ 1000)
    (k : ∀ r ys H1, H r = none → Ex H H1 → TrL K r ys H1 → ys.length = xs.length + n → tz D (σ.set i (some (.ref r))) H1) : tSeq (tAsg (tOp rCat (tVar i) (tLst t)) (gName i)) tz D σ H := s_catT (D := { D with nx := tz D }) hi hT h hn k
/-- tried = [..] -/
theorem q_lstT {i n : Nat} (h : EvAll t σ H n (TryP K)) (hn : n ≤ 1000) (k : ∀ r ys H1, H r = none → Ex H H1 → TrL K r ys H1 → ys.length = n → tz D (σ.set i (some (.ref r))) H1) : tSeq (tAsg (tLst t) (gName i)) tz D σ H :=
  h H (Ex.refl H) _ fun vs H2 e2 hl hv => ⟨sz_of (by omega), fun s hs => k s vs _ (fresh_back e2 hs) (e2.trans (Ex.new hs)) ⟨upd_same, fun x hm => TryP.mono x _ _ (ex_off hs (Ex.new hs)) (hv x hm)⟩ hl⟩
/-- tried.append(..) -/
theorem s_appT {p : Addr} {xs : List V} (hB : B p = none) (e0 : Ex B H) (hT : TrL K p xs H) (ha : Ev ta σ H (.ref p)) (h : TryE K te σ H p) (hz : xs.length < 1000) (k : ∀ ys H1, Ex B H1 → TrL K p ys H1 → ys.length = xs.length + 1 → D.nx σ H1) :
    tDrop (tBM K "list" rAppend ta (tCons te tNil)) D σ H := ha H (Ex.refl H) _ fun H1 e1 =>
  ⟨Or.inl ⟨rfl, xs, sq_of (e1 p _ hT.1)⟩, h H1 e1 _ fun v H2 e2 hv => ⟨p, xs, v, rfl, rfl, (e1.trans e2) p _ hT.1, sz_lt (by omega), k (xs ++ [v]) _ (Ex.mut ((e0.trans e1).trans e2) hB) ⟨upd_same, fun x hm => by
    rw [off_upd]
    rcases List.mem_append.mp hm with hm | hm
    · exact TryP.mono x _ _ (ex_off2 (e1.trans e2)) (hT.2 x hm)
    · rw [List.mem_singleton.mp hm]
      exact hv⟩ (by rw [List.length_append]; rfl)⟩⟩
/-- a loop over a tuple that is written in its head, the last of a block -/
theorem s_forNT {xs : List V} {tl : TE} (h : EvU tl σ H xs) (Pv : Addr → Nat → L2.St → Hp → Prop) (h0 : ∀ p H1, H p = none → Ex H H1 → H1 p = some (.tup xs) → Pv p 0 σ H1) (hl : ∀ p i σ' H', i ≤ xs.length → Pv p i σ' H' → SqT K H' p xs)
    (hs : ∀ p i x σ' H', xs[i]? = some x → Pv p i σ' H' → g x σ' H' fun σ2 H2 => tu { D with nx := Pv p (i + 1), ct := Pv p (i + 1), bk := D.nx } σ2 H2) (hd : ∀ p σ' H', Pv p xs.length σ' H' → D.nx σ' H') : tFor (iTup K tl) g tu D σ H :=
  h H (Ex.refl H) _ fun p H1 hp e h1 => ⟨p, rfl, ⟨xs, st_of h1⟩, for_tup (D := D) (Pv p) (h0 p H1 hp e h1) (hl p) (hs p) (hd p)⟩
end
/-! ### things that go in anywhere -/
section
variable {K : PySem.W.Frag} {H : Hp}
theorem th_int (i : Int) : ThI K H (.int i) := .inl ⟨i, rfl⟩
theorem th_txt {l : List Nat} (h : l.length ≤ 100000) : ThS K H (.str (S l)) := .inl ⟨l, rfl, h⟩
end
end Br
namespace Br
open PySem PySem.Spec PyProof.Rows L2 Evl SX

/-! ### the classes, by what is wrong -/
theorem ring_is {l : List Nat} (ok : okS l = true) (h : Ring l) : ringV (.str (S l)) = true := by
  show (okS l && ringB l) = true
  rw [ok, ringB_iff.mpr h]
  rfl
theorem wRing_ne : wRing ≠ [] := by decide
theorem wNumber_ne : wNumber ≠ [] := by decide
theorem wMany_ne : wMany ≠ [] := by decide
theorem kRing_bad {v u : V} (h : ringV v = false) : kRing v u = wRing := by
  unfold kRing
  rw [h]
  rfl
theorem kRing_num {v u : V} (h : ringV v = true) (h' : inB 8 u = false) : kRing v u = wNumber := by
  unfold kRing
  rw [h, h']
  rfl
theorem lets_all {l : List Nat} {c : Nat} (h : ∀ d ∈ l, d ∈ few c) : (l.all fun d => decide (d ∈ few c)) = true := List.all_eq_true.mpr fun d hd => decide_eq_true (h d hd)
theorem lets_no {l : List Nat} {c : Nat} (h : ¬ ∀ d ∈ l, d ∈ few c) : (l.all fun d => decide (d ∈ few c)) = false := by
  cases e : (l.all fun d => decide (d ∈ few c)) with
  | false => rfl
  | true => exact absurd (fun d hd => of_decide_eq_true (List.all_eq_true.mp e d hd)) h
theorem kRing_let {l : List Nat} {c : Nat} (ok : okS l = true) (hr : Ring l) (c1 : 1 ≤ c) (c2 : c ≤ 8) (h : ¬ ∀ d ∈ l, d ∈ few c) : kRing (.str (S l)) (.int (c : Int)) = wRing := by
  unfold kRing
  rw [if_pos (ring_is ok hr), if_pos (show inB 8 (.int (c : Int)) = true from inB_ok (top := 8) c1 c2), if_neg]
  show ¬ (l.all fun d => decide (d ∈ few ((c : Int).toNat))) = true
  rw [Int.toNat_natCast, lets_no h]
  exact Bool.false_ne_true
theorem kRing_ok {l : List Nat} {c : Nat} (ok : okS l = true) (hr : Ring l) (c1 : 1 ≤ c) (c2 : c ≤ 8) (h : ∀ d ∈ l, d ∈ few c) : kRing (.str (S l)) (.int (c : Int)) = [] := by
  unfold kRing
  rw [if_pos (ring_is ok hr), if_pos (show inB 8 (.int (c : Int)) = true from inB_ok (top := 8) c1 c2), if_pos]
  show (l.all fun d => decide (d ∈ few ((c : Int).toNat))) = true
  rw [Int.toNat_natCast, lets_all h]
theorem kNum_bad {v u : V} {w : List Nat} (h : kRing v u = w) (hw : w ≠ []) : kNum v u = w := by
  unfold kNum
  rw [h, if_neg hw]
theorem kNum_many {l : List Nat} {c : Nat} (h : kRing (.str (S l)) (.int (c : Int)) = []) (hm : 3000 < ringsN l.length c) : kNum (.str (S l)) (.int (c : Int)) = wMany := by
  unfold kNum
  rw [h, if_pos rfl, if_pos]
  show 3000 < ringsN l.length ((c : Int).toNat)
  rw [Int.toNat_natCast]
  exact hm
theorem kNum_ok {l : List Nat} {c : Nat} (h : kRing (.str (S l)) (.int (c : Int)) = []) (hm : ringsN l.length c ≤ 3000) : kNum (.str (S l)) (.int (c : Int)) = [] := by
  unfold kNum
  rw [h, if_pos rfl, if_neg]
  show ¬ 3000 < ringsN l.length ((c : Int).toNat)
  rw [Int.toNat_natCast]
  omega
theorem kAll_len {v u : V} (h : inB 60 v = false) : kAll v u = wNumber := by
  unfold kAll
  rw [h]
  rfl
theorem kAll_num {v u : V} (h : inB 60 v = true) (h' : inB 8 u = false) : kAll v u = wNumber := by
  unfold kAll
  rw [h, h']
  rfl
theorem kAll_many {n c : Nat} (n1 : 1 ≤ n) (n2 : n ≤ 60) (c1 : 1 ≤ c) (c2 : c ≤ 8) (hm : 3000 < ringsN n c) : kAll (.int (n : Int)) (.int (c : Int)) = wMany := by
  unfold kAll
  rw [if_pos (show inB 60 (.int (n : Int)) = true from inB_ok (top := 60) n1 n2), if_pos (show inB 8 (.int (c : Int)) = true from inB_ok (top := 8) c1 c2), if_pos]
  show 3000 < ringsN ((n : Int).toNat) ((c : Int).toNat)
  rw [Int.toNat_natCast, Int.toNat_natCast]
  exact hm
theorem kAll_ok {n c : Nat} (n1 : 1 ≤ n) (n2 : n ≤ 60) (c1 : 1 ≤ c) (c2 : c ≤ 8) (hm : ringsN n c ≤ 3000) : kAll (.int (n : Int)) (.int (c : Int)) = [] := by
  unfold kAll
  rw [if_pos (show inB 60 (.int (n : Int)) = true from inB_ok (top := 60) n1 n2), if_pos (show inB 8 (.int (c : Int)) = true from inB_ok (top := 8) c1 c2), if_neg]
  show ¬ 3000 < ringsN ((n : Int).toNat) ((c : Int).toNat)
  rw [Int.toNat_natCast, Int.toNat_natCast]
  omega
theorem kLong_len {v u : V} (h : inB 60 v = false) : kLong v u = wNumber := by
  unfold kLong
  rw [h]
  rfl
theorem kLong_num {v u : V} (h : inB 60 v = true) (h' : inB 8 u = false) : kLong v u = wNumber := by
  unfold kLong
  rw [h, h']
  rfl
theorem kLong_many {n c : Nat} (n1 : 1 ≤ n) (n2 : n ≤ 60) (c1 : 1 ≤ c) (c2 : c ≤ 8) (hm : 3000 < c ^ n) : kLong (.int (n : Int)) (.int (c : Int)) = wMany := by
  unfold kLong
  rw [if_pos (show inB 60 (.int (n : Int)) = true from inB_ok (top := 60) n1 n2), if_pos (show inB 8 (.int (c : Int)) = true from inB_ok (top := 8) c1 c2), if_pos]
  show 3000 < ((c : Int).toNat) ^ ((n : Int).toNat)
  rw [Int.toNat_natCast, Int.toNat_natCast]
  exact hm
theorem kLong_ok {n c : Nat} (n1 : 1 ≤ n) (n2 : n ≤ 60) (c1 : 1 ≤ c) (c2 : c ≤ 8) (hm : c ^ n ≤ 3000) : kLong (.int (n : Int)) (.int (c : Int)) = [] := by
  unfold kLong
  rw [if_pos (show inB 60 (.int (n : Int)) = true from inB_ok (top := 60) n1 n2), if_pos (show inB 8 (.int (c : Int)) = true from inB_ok (top := 8) c1 c2), if_neg]
  show ¬ 3000 < ((c : Int).toNat) ^ ((n : Int).toNat)
  rw [Int.toNat_natCast, Int.toNat_natCast]
  omega
theorem kAt_bad {x v u : V} {w : List Nat} (h : kAll v u = w) (hw : w ≠ []) : kAt x v u = w := by
  unfold kAt
  rw [h, if_neg hw]
theorem kAt_of {x : V} {n c : Nat} (h : kAll (.int (n : Int)) (.int (c : Int)) = []) : kAt x (.int (n : Int)) (.int (c : Int)) = if noNum (allR (few c) n).length x = true then wNone else [] := by
  unfold kAt
  rw [h, if_pos rfl]
  show (if noNum (allR (few ((c : Int).toNat)) ((n : Int).toNat)).length x = true then wNone else []) = _
  rw [Int.toNat_natCast, Int.toNat_natCast]
theorem kPl_bad {x v u : V} {w : List Nat} (h : kLong v u = w) (hw : w ≠ []) : kPl x v u = w := by
  unfold kPl
  rw [h, if_neg hw]
theorem kPl_of {x : V} {n c : Nat} (h : kLong (.int (n : Int)) (.int (c : Int)) = []) : kPl x (.int (n : Int)) (.int (c : Int)) = if noRead n c x = true then wWord else [] := by
  unfold kPl
  rw [h, if_pos rfl]
  show (if noRead ((n : Int).toNat) ((c : Int).toNat) x = true then wWord else []) = _
  rw [Int.toNat_natCast, Int.toNat_natCast]
/-- the promises -/
def sp_kinds5 (CN CR CW CO CM : Addr) : Sp := fun vs H Q E => sp_kind CN wNumber vs H Q E ∨ sp_kind CR wRing vs H Q E ∨ sp_kind CW wWord vs H Q E ∨ sp_kind CO wNone vs H Q E ∨ sp_kind CM wMany vs H Q E
def sp_called (K : PySem.W.Frag) (CN CR CW CO CM : Addr) : Sp := fun vs H Q E => ∃ (way : Nat) (p : Addr) (xs : List V) (nm : List Nat), vs = [.int (way : Int), .ref p] ∧ H p = some (.lst xs) ∧ Right K way xs H nm ∧
  (nm = [] → ∀ v H2, Ex H H2 → Q v H2) ∧ (nm = wNumber → Ref E CN H) ∧ (nm = wRing → Ref E CR H) ∧ (nm = wWord → Ref E CW H) ∧ (nm = wNone → Ref E CO H) ∧ (nm = wMany → Ref E CM H)
def sp_said5 (K : PySem.W.Frag) : Sp := fun vs H Q _ => ∃ (way : Nat) (p : Addr) (xs : List V) (nm : List Nat), vs = [.int (way : Int), .ref p] ∧ H p = some (.lst xs) ∧ Right K way xs H nm ∧ RetV (.str (S nm)) H Q
def sp_tried (K : PySem.W.Frag) : Sp := fun vs H Q _ => ∃ (v : V) (n : Nat), vs = [v] ∧ n ≤ 1000 ∧ AllP (TryP K) n v H ∧ RetV (.bl true) H Q
def sp_rightR (K : PySem.W.Frag) : Sp := fun vs H Q _ => ∃ v u, vs = [v, u] ∧ ThS K H v ∧ ringV v = false ∧ ThI K H u ∧ inB 8 u = false ∧ RetV (.bl true) H Q
def sp_rightB : Sp := fun vs H Q _ => vs = [] ∧ RetV (.bl true) H Q
def sp_rightS (K : PySem.W.Frag) : Sp := fun vs H Q _ => ∃ v u, vs = [v, u] ∧ ThI K H v ∧ inB 60 v = false ∧ ThI K H u ∧ inB 8 u = false ∧ RetV (.bl true) H Q
def sp_rightL : Sp := fun vs H Q _ => ∃ n c k : Nat, vs = [.int (n : Int), .int (c : Int), .int (k : Int)] ∧ 1 ≤ n ∧ n ≤ 5 ∧ 1 ≤ c ∧ c ≤ 4 ∧ k < 1000 ∧ RetV (.bl true) H Q
/-- every kind of a refusal has one of the names -/
theorem names_of {way : Nat} {xs : List V} {nm : List Nat} {K : PySem.W.Frag} {H : Hp} (h : Right K way xs H nm) : nm = [] ∨ nm = wNumber ∨ nm = wRing ∨ nm = wWord ∨ nm = wNone ∨ nm = wMany := by
  have r : ∀ v u, kRing v u = [] ∨ kRing v u = wNumber ∨ kRing v u = wRing := fun v u => by
    unfold kRing
    split <;> (try split) <;> (try split) <;> simp
  have a : ∀ v u, kAll v u = [] ∨ kAll v u = wNumber ∨ kAll v u = wMany := fun v u => by
    unfold kAll
    split <;> (try split) <;> (try split) <;> simp
  have l : ∀ v u, kLong v u = [] ∨ kLong v u = wNumber ∨ kLong v u = wMany := fun v u => by
    unfold kLong
    split <;> (try split) <;> (try split) <;> simp
  obtain ⟨h0, h1, h2, h3, h4, h5⟩ := h
  rcases (show way = 0 ∨ way = 1 ∨ way = 2 ∨ way = 3 ∨ way = 4 ∨ 5 ≤ way by omega) with z | z | z | z | z | z
  · obtain ⟨v, u, _, _, _, rfl⟩ := h0 z
    rcases r v u with e | e | e <;> simp [e]
  · obtain ⟨v, u, _, _, _, rfl⟩ := h1 z
    unfold kNum
    split
    · split <;> simp
    · rcases r v u with e | e | e <;> simp [e]
  · obtain ⟨v, u, _, _, _, rfl⟩ := h2 z
    rcases a v u with e | e | e <;> simp [e]
  · obtain ⟨v, u, _, _, _, rfl⟩ := h3 z
    rcases l v u with e | e | e <;> simp [e]
  · obtain ⟨x, v, u, _, _, _, _, rfl⟩ := h4 z
    unfold kAt
    split
    · split <;> simp
    · rcases a v u with e | e | e <;> simp [e]
  · obtain ⟨x, v, u, _, _, _, _, rfl⟩ := h5 z
    unfold kPl
    split
    · split <;> simp
    · rcases l v u with e | e | e <;> simp [e]
end Br
namespace Br
open PySem PySem.Spec PyProof.Rows L2 Evl SX
def topS (i : Nat) : Stmt := PySem.Challenge.pw_beadrings_k11_refused.main.body.getD i (.Pass ⟨0, 0, 0, 0⟩)
abbrev s_is_whole : Stmt := topS 12
abbrev N_is_whole : List Str := ["thing"]
theorem sc_is_whole : FnScope N_is_whole ["thing"] (defScope s_is_whole) := ⟨rfl, rfl, rfl, by decide +kernel, rfl, by decide +kernel, by decide +kernel⟩
abbrev s_need_length : Stmt := topS 13
abbrev N_need_length : List Str := ["thing"]
theorem sc_need_length : FnScope N_need_length ["thing"] (defScope s_need_length) := ⟨rfl, rfl, rfl, by decide +kernel, rfl, by decide +kernel, by decide +kernel⟩
abbrev s_need_colours : Stmt := topS 14
abbrev N_need_colours : List Str := ["thing"]
theorem sc_need_colours : FnScope N_need_colours ["thing"] (defScope s_need_colours) := ⟨rfl, rfl, rfl, by decide +kernel, rfl, by decide +kernel, by decide +kernel⟩
abbrev s_need_few : Stmt := topS 15
abbrev N_need_few : List Str := ["many"]
theorem sc_need_few : FnScope N_need_few ["many"] (defScope s_need_few) := ⟨rfl, rfl, rfl, by decide +kernel, rfl, by decide +kernel, by decide +kernel⟩
abbrev s_many_words : Stmt := topS 17
abbrev N_many_words : List Str := ["length", "colours", "many", "_"]
theorem sc_many_words : FnScope N_many_words ["length", "colours"] (defScope s_many_words) := ⟨rfl, rfl, rfl, by decide +kernel, rfl, by decide +kernel, by decide +kernel⟩
abbrev s_many_rings : Stmt := topS 18
abbrev N_many_rings : List Str := ["length", "colours", "total", "part"]
theorem sc_many_rings : FnScope N_many_rings ["length", "colours"] (defScope s_many_rings) := ⟨rfl, rfl, rfl, by decide +kernel, rfl, by decide +kernel, by decide +kernel⟩
abbrev s_divisors : Stmt := topS 19
abbrev N_divisors : List Str := ["number", "part"]
theorem sc_divisors : FnScope N_divisors ["number"] (defScope s_divisors) := ⟨rfl, rfl, rfl, by decide +kernel, rfl, by decide +kernel, by decide +kernel⟩
abbrev s_many_coprime : Stmt := topS 20
abbrev N_many_coprime : List Str := ["number", "part"]
theorem sc_many_coprime : FnScope N_many_coprime ["number"] (defScope s_many_coprime) := ⟨rfl, rfl, rfl, by decide +kernel, rfl, by decide +kernel, by decide +kernel⟩
abbrev s_is_word : Stmt := topS 23
abbrev N_is_word : List Str := ["thing", "letter"]
theorem sc_is_word : FnScope N_is_word ["thing"] (defScope s_is_word) := ⟨rfl, rfl, rfl, by decide +kernel, rfl, by decide +kernel, by decide +kernel⟩
abbrev s_need_word : Stmt := topS 24
abbrev N_need_word : List Str := ["thing"]
theorem sc_need_word : FnScope N_need_word ["thing"] (defScope s_need_word) := ⟨rfl, rfl, rfl, by decide +kernel, rfl, by decide +kernel, by decide +kernel⟩
abbrev s_is_of_colours : Stmt := topS 25
abbrev N_is_of_colours : List Str := ["word", "colours", "letter"]
theorem sc_is_of_colours : FnScope N_is_of_colours ["word", "colours"] (defScope s_is_of_colours) := ⟨rfl, rfl, rfl, by decide +kernel, rfl, by decide +kernel, by decide +kernel⟩
abbrev s_turned : Stmt := topS 26
abbrev N_turned : List Str := ["word", "by", "start"]
theorem sc_turned : FnScope N_turned ["word", "by"] (defScope s_turned) := ⟨rfl, rfl, rfl, by decide +kernel, rfl, by decide +kernel, by decide +kernel⟩
abbrev s_turnings : Stmt := topS 27
abbrev N_turnings : List Str := ["word", "by"]
theorem sc_turnings : FnScope N_turnings ["word"] (defScope s_turnings) := ⟨rfl, rfl, rfl, by decide +kernel, rfl, by decide +kernel, by decide +kernel⟩
abbrev s_ring_of : Stmt := topS 29
abbrev N_ring_of : List Str := ["word"]
theorem sc_ring_of : FnScope N_ring_of ["word"] (defScope s_ring_of) := ⟨rfl, rfl, rfl, by decide +kernel, rfl, by decide +kernel, by decide +kernel⟩
abbrev s_is_ring : Stmt := topS 30
abbrev N_is_ring : List Str := ["thing"]
theorem sc_is_ring : FnScope N_is_ring ["thing"] (defScope s_is_ring) := ⟨rfl, rfl, rfl, by decide +kernel, rfl, by decide +kernel, by decide +kernel⟩
abbrev s_period : Stmt := topS 31
abbrev N_period : List Str := ["word", "twice"]
theorem sc_period : FnScope N_period ["word"] (defScope s_period) := ⟨rfl, rfl, rfl, by decide +kernel, rfl, by decide +kernel, by decide +kernel⟩
abbrev s_next_ring : Stmt := topS 33
abbrev N_next_ring : List Str := ["ring", "colours"]
theorem sc_next_ring : FnScope N_next_ring ["ring", "colours"] (defScope s_next_ring) := ⟨rfl, rfl, rfl, by decide +kernel, rfl, by decide +kernel, by decide +kernel⟩
abbrev s_all_rings : Stmt := topS 34
abbrev N_all_rings : List Str := ["length", "colours", "rings", "ring"]
theorem sc_all_rings : FnScope N_all_rings ["length", "colours"] (defScope s_all_rings) := ⟨rfl, rfl, rfl, by decide +kernel, rfl, by decide +kernel, by decide +kernel⟩
abbrev s_number_of : Stmt := topS 35
abbrev N_number_of : List Str := ["ring", "colours"]
theorem sc_number_of : FnScope N_number_of ["ring", "colours"] (defScope s_number_of) := ⟨rfl, rfl, rfl, by decide +kernel, rfl, by decide +kernel, by decide +kernel⟩
abbrev s_ring_at : Stmt := topS 36
abbrev N_ring_at : List Str := ["number", "length", "colours", "rings"]
theorem sc_ring_at : FnScope N_ring_at ["number", "length", "colours"] (defScope s_ring_at) := ⟨rfl, rfl, rfl, by decide +kernel, rfl, by decide +kernel, by decide +kernel⟩
abbrev s_need_ring : Stmt := topS 37
abbrev N_need_ring : List Str := ["thing", "colours"]
theorem sc_need_ring : FnScope N_need_ring ["thing", "colours"] (defScope s_need_ring) := ⟨rfl, rfl, rfl, by decide +kernel, rfl, by decide +kernel, by decide +kernel⟩
abbrev s_ring_behind : Stmt := topS 38
abbrev N_ring_behind : List Str := ["ring", "colours", "last", "word", "stem", "prime"]
theorem sc_ring_behind : FnScope N_ring_behind ["ring", "colours"] (defScope s_ring_behind) := ⟨rfl, rfl, rfl, by decide +kernel, rfl, by decide +kernel, by decide +kernel⟩
abbrev s_long_word : Stmt := topS 40
abbrev N_long_word : List Str := ["length", "colours", "ring", "primes"]
theorem sc_long_word : FnScope N_long_word ["length", "colours"] (defScope s_long_word) := ⟨rfl, rfl, rfl, by decide +kernel, rfl, by decide +kernel, by decide +kernel⟩
abbrev s_place_of : Stmt := topS 41
abbrev N_place_of : List Str := ["text", "length", "colours", "told"]
theorem sc_place_of : FnScope N_place_of ["text", "length", "colours"] (defScope s_place_of) := ⟨rfl, rfl, rfl, by decide +kernel, rfl, by decide +kernel, by decide +kernel⟩
abbrev s__law_mixed : Stmt := topS 43
abbrev N__law_mixed : List Str := ["_law_cell", "_law_k", "_law_number_here"]
theorem sc__law_mixed : FnScope N__law_mixed ["_law_cell", "_law_k"] (defScope s__law_mixed) := ⟨rfl, rfl, rfl, by decide +kernel, rfl, by decide +kernel, by decide +kernel⟩
abbrev s__law_number : Stmt := topS 44
abbrev N__law_number : List Str := ["_law_script", "_law_k", "_law_cell"]
theorem sc__law_number : FnScope N__law_number ["_law_script", "_law_k"] (defScope s__law_number) := ⟨rfl, rfl, rfl, by decide +kernel, rfl, by decide +kernel, by decide +kernel⟩
abbrev s__law_kind : Stmt := topS 45
abbrev N__law_kind : List Str := ["_law_e", "_law_found"]
theorem sc__law_kind : FnScope N__law_kind ["_law_e"] (defScope s__law_kind) := ⟨rfl, rfl, rfl, by decide +kernel, rfl, by decide +kernel, by decide +kernel⟩
abbrev s__law_called : Stmt := topS 46
abbrev N__law_called : List Str := ["_law_way", "_law_things"]
theorem sc__law_called : FnScope N__law_called ["_law_way", "_law_things"] (defScope s__law_called) := ⟨rfl, rfl, rfl, by decide +kernel, rfl, by decide +kernel, by decide +kernel⟩
abbrev s__law_said : Stmt := topS 47
abbrev N__law_said : List Str := ["_law_way", "_law_things", "_law_error", "_law_e"]
theorem sc__law_said : FnScope N__law_said ["_law_way", "_law_things"] (defScope s__law_said) := ⟨rfl, rfl, rfl, by decide +kernel, rfl, by decide +kernel, by decide +kernel⟩
abbrev s__law_all : Stmt := topS 48
abbrev N__law_all : List Str := ["_law_tried", "_law_one"]
theorem sc__law_all : FnScope N__law_all ["_law_tried"] (defScope s__law_all) := ⟨rfl, rfl, rfl, by decide +kernel, rfl, by decide +kernel, by decide +kernel⟩
abbrev s__law_rings_right : Stmt := topS 49
abbrev N__law_rings_right : List Str := ["_law_odd", "_law_bad", "_law_tried", "_law_way"]
theorem sc__law_rings_right : FnScope N__law_rings_right ["_law_odd", "_law_bad"] (defScope s__law_rings_right) := ⟨rfl, rfl, rfl, by decide +kernel, rfl, by decide +kernel, by decide +kernel⟩
abbrev s__law_bounds_right : Stmt := topS 50
abbrev N__law_bounds_right : List Str := ["_law_tried"]
theorem sc__law_bounds_right : FnScope N__law_bounds_right [] (defScope s__law_bounds_right) := ⟨rfl, rfl, rfl, by decide +kernel, rfl, by decide +kernel, by decide +kernel⟩
abbrev s__law_sizes_right : Stmt := topS 51
abbrev N__law_sizes_right : List Str := ["_law_length", "_law_bad", "_law_tried", "_law_way", "_law_thing"]
theorem sc__law_sizes_right : FnScope N__law_sizes_right ["_law_length", "_law_bad"] (defScope s__law_sizes_right) := ⟨rfl, rfl, rfl, by decide +kernel, rfl, by decide +kernel, by decide +kernel⟩
abbrev s__law_last_right : Stmt := topS 52
abbrev N__law_last_right : List Str := ["_law_length", "_law_colours", "_law_cell", "_law_most", "_law_tried", "_law_thing", "_law_beyond"]
theorem sc__law_last_right : FnScope N__law_last_right ["_law_length", "_law_colours", "_law_cell"] (defScope s__law_last_right) := ⟨rfl, rfl, rfl, by decide +kernel, rfl, by decide +kernel, by decide +kernel⟩
abbrev s_law : Stmt := topS 53
abbrev N_law : List Str := ["_law_script", "_law_k", "_law_cell", "_law_odd", "_law_bad", "_law_none", "_law_more"]
theorem sc_law : FnScope N_law ["_law_script"] (defScope s_law) := ⟨rfl, rfl, rfl, by decide +kernel, rfl, by decide +kernel, by decide +kernel⟩
structure Txt (K : PySem.W.Frag) (mg : Str → Option Value) (cE cN cR cW cO cM : Addr) : Prop where
  b_ValueError : mg "ValueError" = none
  b_all : mg "all" = none
  b_bool : mg "bool" = none
  b_int : mg "int" = none
  b_isinstance : mg "isinstance" = none
  b_len : mg "len" = none
  b_min : mg "min" = none
  b_range : mg "range" = none
  b_sorted : mg "sorted" = none
  b_str : mg "str" = none
  g_gcd : mg "gcd" = some (.builtin "math.gcd")
  c_MOST_LETTERS : ∃ u, mg "MOST_LETTERS" = some u ∧ RelV (.int 60) u
  c_MOST_COLOURS : ∃ u, mg "MOST_COLOURS" = some u ∧ RelV (.int 8) u
  c_MOST_TOLD : ∃ u, mg "MOST_TOLD" = some u ∧ RelV (.int 3000) u
  c_LETTERS : ∃ u, mg "LETTERS" = some u ∧ RelV (.str "abcdefgh") u
  k_BeadError : mg "BeadError" = some (.ref cE)
  k_BadNumber : mg "BadNumber" = some (.ref cN)
  k_BadRing : mg "BadRing" = some (.ref cR)
  k_BadWord : mg "BadWord" = some (.ref cW)
  k_NoRing : mg "NoRing" = some (.ref cO)
  k_TooMany : mg "TooMany" = some (.ref cM)
  x_BadNumber : PySem.W.excIn K cN [.type "ValueError", .type "Exception", .type "BaseException", .type "object"] "ValueError.__new__" = true
  p_BadNumber : PySem.W.keepIn K (.ref cN) = true
  s_BadNumber : PySem.W.subIn K (.ref cN) (.type "BaseException") = some true
  y_BadNumber : PySem.W.typeIn K (.ref cN) = some (.type "type")
  x_TooMany : PySem.W.excIn K cM [.type "ValueError", .type "Exception", .type "BaseException", .type "object"] "ValueError.__new__" = true
  p_TooMany : PySem.W.keepIn K (.ref cM) = true
  s_TooMany : PySem.W.subIn K (.ref cM) (.type "BaseException") = some true
  y_TooMany : PySem.W.typeIn K (.ref cM) = some (.type "type")
  x_BadWord : PySem.W.excIn K cW [.type "ValueError", .type "Exception", .type "BaseException", .type "object"] "ValueError.__new__" = true
  p_BadWord : PySem.W.keepIn K (.ref cW) = true
  s_BadWord : PySem.W.subIn K (.ref cW) (.type "BaseException") = some true
  y_BadWord : PySem.W.typeIn K (.ref cW) = some (.type "type")
  x_NoRing : PySem.W.excIn K cO [.type "ValueError", .type "Exception", .type "BaseException", .type "object"] "ValueError.__new__" = true
  p_NoRing : PySem.W.keepIn K (.ref cO) = true
  s_NoRing : PySem.W.subIn K (.ref cO) (.type "BaseException") = some true
  y_NoRing : PySem.W.typeIn K (.ref cO) = some (.type "type")
  x_BadRing : PySem.W.excIn K cR [.type "ValueError", .type "Exception", .type "BaseException", .type "object"] "ValueError.__new__" = true
  p_BadRing : PySem.W.keepIn K (.ref cR) = true
  s_BadRing : PySem.W.subIn K (.ref cR) (.type "BaseException") = some true
  y_BadRing : PySem.W.typeIn K (.ref cR) = some (.type "type")
  ga_BadNumber : PySem.W.findIn K (.ref cN) "__getattribute__" = some (some (.builtin "BaseException.__getattribute__"))
  gg_BadNumber : PySem.W.findIn K (.ref cN) "__getattr__" = some none
  hd_BadNumber : PySem.W.hasDictIn K cN = true
  hc_BadNumber : PySem.W.findIn K (.ref cN) "__class__" = some (some (.builtin "object.__class__"))
  mo_BadNumber : PySem.W.mroIn K cN (.type "object") = some true
  i_BadNumber_BadNumber : PySem.W.kitOne K (.ref cN) (.ref cN) = some true
  i_BadNumber_BadRing : PySem.W.kitOne K (.ref cN) (.ref cR) = some false
  i_BadNumber_BadWord : PySem.W.kitOne K (.ref cN) (.ref cW) = some false
  i_BadNumber_NoRing : PySem.W.kitOne K (.ref cN) (.ref cO) = some false
  i_BadNumber_TooMany : PySem.W.kitOne K (.ref cN) (.ref cM) = some false
  i_BadNumber_V : PySem.W.kitOne K (.ref cN) (.type "ValueError") = some true
  m_BadNumber : PySem.W.subIn K (.ref cN) (.ref cE) = some true
  ga_BadRing : PySem.W.findIn K (.ref cR) "__getattribute__" = some (some (.builtin "BaseException.__getattribute__"))
  gg_BadRing : PySem.W.findIn K (.ref cR) "__getattr__" = some none
  hd_BadRing : PySem.W.hasDictIn K cR = true
  hc_BadRing : PySem.W.findIn K (.ref cR) "__class__" = some (some (.builtin "object.__class__"))
  mo_BadRing : PySem.W.mroIn K cR (.type "object") = some true
  i_BadRing_BadNumber : PySem.W.kitOne K (.ref cR) (.ref cN) = some false
  i_BadRing_BadRing : PySem.W.kitOne K (.ref cR) (.ref cR) = some true
  i_BadRing_BadWord : PySem.W.kitOne K (.ref cR) (.ref cW) = some false
  i_BadRing_NoRing : PySem.W.kitOne K (.ref cR) (.ref cO) = some false
  i_BadRing_TooMany : PySem.W.kitOne K (.ref cR) (.ref cM) = some false
  i_BadRing_V : PySem.W.kitOne K (.ref cR) (.type "ValueError") = some true
  m_BadRing : PySem.W.subIn K (.ref cR) (.ref cE) = some true
  ga_BadWord : PySem.W.findIn K (.ref cW) "__getattribute__" = some (some (.builtin "BaseException.__getattribute__"))
  gg_BadWord : PySem.W.findIn K (.ref cW) "__getattr__" = some none
  hd_BadWord : PySem.W.hasDictIn K cW = true
  hc_BadWord : PySem.W.findIn K (.ref cW) "__class__" = some (some (.builtin "object.__class__"))
  mo_BadWord : PySem.W.mroIn K cW (.type "object") = some true
  i_BadWord_BadNumber : PySem.W.kitOne K (.ref cW) (.ref cN) = some false
  i_BadWord_BadRing : PySem.W.kitOne K (.ref cW) (.ref cR) = some false
  i_BadWord_BadWord : PySem.W.kitOne K (.ref cW) (.ref cW) = some true
  i_BadWord_NoRing : PySem.W.kitOne K (.ref cW) (.ref cO) = some false
  i_BadWord_TooMany : PySem.W.kitOne K (.ref cW) (.ref cM) = some false
  i_BadWord_V : PySem.W.kitOne K (.ref cW) (.type "ValueError") = some true
  m_BadWord : PySem.W.subIn K (.ref cW) (.ref cE) = some true
  ga_NoRing : PySem.W.findIn K (.ref cO) "__getattribute__" = some (some (.builtin "BaseException.__getattribute__"))
  gg_NoRing : PySem.W.findIn K (.ref cO) "__getattr__" = some none
  hd_NoRing : PySem.W.hasDictIn K cO = true
  hc_NoRing : PySem.W.findIn K (.ref cO) "__class__" = some (some (.builtin "object.__class__"))
  mo_NoRing : PySem.W.mroIn K cO (.type "object") = some true
  i_NoRing_BadNumber : PySem.W.kitOne K (.ref cO) (.ref cN) = some false
  i_NoRing_BadRing : PySem.W.kitOne K (.ref cO) (.ref cR) = some false
  i_NoRing_BadWord : PySem.W.kitOne K (.ref cO) (.ref cW) = some false
  i_NoRing_NoRing : PySem.W.kitOne K (.ref cO) (.ref cO) = some true
  i_NoRing_TooMany : PySem.W.kitOne K (.ref cO) (.ref cM) = some false
  i_NoRing_V : PySem.W.kitOne K (.ref cO) (.type "ValueError") = some true
  m_NoRing : PySem.W.subIn K (.ref cO) (.ref cE) = some true
  ga_TooMany : PySem.W.findIn K (.ref cM) "__getattribute__" = some (some (.builtin "BaseException.__getattribute__"))
  gg_TooMany : PySem.W.findIn K (.ref cM) "__getattr__" = some none
  hd_TooMany : PySem.W.hasDictIn K cM = true
  hc_TooMany : PySem.W.findIn K (.ref cM) "__class__" = some (some (.builtin "object.__class__"))
  mo_TooMany : PySem.W.mroIn K cM (.type "object") = some true
  i_TooMany_BadNumber : PySem.W.kitOne K (.ref cM) (.ref cN) = some false
  i_TooMany_BadRing : PySem.W.kitOne K (.ref cM) (.ref cR) = some false
  i_TooMany_BadWord : PySem.W.kitOne K (.ref cM) (.ref cW) = some false
  i_TooMany_NoRing : PySem.W.kitOne K (.ref cM) (.ref cO) = some false
  i_TooMany_TooMany : PySem.W.kitOne K (.ref cM) (.ref cM) = some true
  i_TooMany_V : PySem.W.kitOne K (.ref cM) (.type "ValueError") = some true
  m_TooMany : PySem.W.subIn K (.ref cM) (.ref cE) = some true
  sp : PySem.W.specialIn K (.builtin "object.__class__") "__get__" = some (some (.builtin "getset_descriptor.__get__"))
  tk : PySem.W.takesIn K (.builtin "object.__class__") = some true
  sE : PySem.W.subIn K (.ref cE) (.type "BaseException") = some true
  hE : PySem.W.hasDictIn K cE = true
  yE : PySem.W.typeIn K (.ref cE) = some (.type "type")
theorem Txt.exc_BadNumber {K : PySem.W.Frag} {mg : Str → Option Value} {cE cN cR cW cO cM : Addr} (T : Txt K mg cE cN cR cW cO cM) : ExcC K cN := ⟨T.ga_BadNumber, T.gg_BadNumber, T.s_BadNumber, T.hd_BadNumber, T.hc_BadNumber, T.sp, T.tk, T.mo_BadNumber⟩
theorem Txt.hit_BadNumber {K : PySem.W.Frag} {mg : Str → Option Value} {cE cN cR cW cO cM : Addr} (T : Txt K mg cE cN cR cW cO cM) : PySem.W.exmOne K (.ref cN) (.ref cE) = some true := PySem.W.exm_ref T.sE T.hE T.yE T.m_BadNumber
theorem Txt.exc_BadRing {K : PySem.W.Frag} {mg : Str → Option Value} {cE cN cR cW cO cM : Addr} (T : Txt K mg cE cN cR cW cO cM) : ExcC K cR := ⟨T.ga_BadRing, T.gg_BadRing, T.s_BadRing, T.hd_BadRing, T.hc_BadRing, T.sp, T.tk, T.mo_BadRing⟩
theorem Txt.hit_BadRing {K : PySem.W.Frag} {mg : Str → Option Value} {cE cN cR cW cO cM : Addr} (T : Txt K mg cE cN cR cW cO cM) : PySem.W.exmOne K (.ref cR) (.ref cE) = some true := PySem.W.exm_ref T.sE T.hE T.yE T.m_BadRing
theorem Txt.exc_BadWord {K : PySem.W.Frag} {mg : Str → Option Value} {cE cN cR cW cO cM : Addr} (T : Txt K mg cE cN cR cW cO cM) : ExcC K cW := ⟨T.ga_BadWord, T.gg_BadWord, T.s_BadWord, T.hd_BadWord, T.hc_BadWord, T.sp, T.tk, T.mo_BadWord⟩
theorem Txt.hit_BadWord {K : PySem.W.Frag} {mg : Str → Option Value} {cE cN cR cW cO cM : Addr} (T : Txt K mg cE cN cR cW cO cM) : PySem.W.exmOne K (.ref cW) (.ref cE) = some true := PySem.W.exm_ref T.sE T.hE T.yE T.m_BadWord
theorem Txt.exc_NoRing {K : PySem.W.Frag} {mg : Str → Option Value} {cE cN cR cW cO cM : Addr} (T : Txt K mg cE cN cR cW cO cM) : ExcC K cO := ⟨T.ga_NoRing, T.gg_NoRing, T.s_NoRing, T.hd_NoRing, T.hc_NoRing, T.sp, T.tk, T.mo_NoRing⟩
theorem Txt.hit_NoRing {K : PySem.W.Frag} {mg : Str → Option Value} {cE cN cR cW cO cM : Addr} (T : Txt K mg cE cN cR cW cO cM) : PySem.W.exmOne K (.ref cO) (.ref cE) = some true := PySem.W.exm_ref T.sE T.hE T.yE T.m_NoRing
theorem Txt.exc_TooMany {K : PySem.W.Frag} {mg : Str → Option Value} {cE cN cR cW cO cM : Addr} (T : Txt K mg cE cN cR cW cO cM) : ExcC K cM := ⟨T.ga_TooMany, T.gg_TooMany, T.s_TooMany, T.hd_TooMany, T.hc_TooMany, T.sp, T.tk, T.mo_TooMany⟩
theorem Txt.hit_TooMany {K : PySem.W.Frag} {mg : Str → Option Value} {cE cN cR cW cO cM : Addr} (T : Txt K mg cE cN cR cW cO cM) : PySem.W.exmOne K (.ref cM) (.ref cE) = some true := PySem.W.exm_ref T.sE T.hE T.yE T.m_TooMany
section
variable {P : Program} {w : World} {K : PySem.W.Frag} {mg : Str → Option Value} {base : Heap} {cE cN cR cW cO cM : Addr}

local macro_rules | `(tactic| walk_at "br_rv") => `(tactic| first
  | exact rv_I0
  | exact rv_I (show (0 : Int) < _ by omega)
  | exact rv_I (show CDiv _ _ from ⟨by omega, by omega⟩)
  | exact rv_I (show CMul _ _ from Or.inl ⟨by omega, by omega⟩)
  | exact rv_I (show CMul _ _ from Or.inr ⟨by omega, by omega⟩)
  | exact rv_eqI
  | exact rv_neI
  | exact rv_eqS
  | exact rv_neS
  | exact rv_ltS
  | exact rv_leS)
local macro_rules | `(tactic| walk_at "br_ev") => `(tactic| first
  | exact ev_c
  | exact ev_var rfl
  | (apply ev_op; walk_at "br_ev"; walk_at "br_ev"; walk_at "br_rv"))

theorem has__law_mixed (T : Txt K mg cE cN cR cW cO cM) (S0 : Src K mg "_law_mixed" s__law_mixed ["_law_cell", "_law_k"]) : Has P w K mg base CX0 1 "_law_mixed" ["_law_cell", "_law_k"] sp_mixed := by
  obtain ⟨f, fd, gm, F, b⟩ := S0
  refine ⟨f, fd, gm, F.kp, b, F.ok sc__law_mixed (fun vs H Q E h => ?_) (fun cdv A outer s H vs Q E hr h => ⟨_, (pss_cons (ps_set (i := 2) sc__law_mixed.nd rfl (Or.inl rfl) (pe_op op_mod (pe_op op_mul (pe_op op_add (pe_op op_add (pe_op op_add (pe_op op_mod (pv 0) pe_int) (pe_op op_mul (pe_op op_mul pe_int (pv 1)) (pv 1))) (pe_op op_mul pe_int (pv 1))) pe_int) pe_int) pe_int)) (pss_one (ps_ret (pe_op op_fdiv (pe_op op_mod (pe_op op_mul (pv 2) (pe_op op_add (pe_op op_mod (pv 2) pe_int) pe_int)) pe_int) pe_int)))), ?_⟩)⟩
  · obtain ⟨c, k, rfl, _⟩ := h
    rfl
  · obtain ⟨c, k, rfl, k0, k1, q⟩ := h
    have hk : 0 ≤ k * k ∧ k * k ≤ 100000 * 100000 := ⟨Int.mul_nonneg k0 k0, Int.mul_le_mul k1 k1 k0 (by decide)⟩
    have e1 : 7919 * k * k = 7919 * (k * k) := Int.mul_assoc _ _ _
    have hc : 0 ≤ c % 1000000007 ∧ c % 1000000007 < 1000000007 := ⟨Int.emod_nonneg _ (by decide), Int.emod_lt_of_pos _ (by decide)⟩
    have hn : 0 ≤ mixN c k ∧ mixN c k < 2147483647 := ⟨Int.emod_nonneg _ (by decide), Int.emod_lt_of_pos _ (by decide)⟩
    refine q_asg (v := .int (mixN c k)) (ev_is (v := .int ((c % 1000000007 + 7919 * k * k + 31 * k + 17) * 48271 % 2147483647)) (by walk_at "br_ev") rfl) fun H1 e1' => ?_
    refine s_ret (v := .int (mixed c k)) (ev_is (v := .int (mixN c k * (mixN c k % 65521 + 16807) % 2147483629 / 4)) (by walk_at "br_ev") rfl) fun H2 e2' => ?_
    exact q H2 (e1'.trans e2')

theorem has__law_number (T : Txt K mg cE cN cR cW cO cM) (S0 : Src K mg "_law_number" s__law_number ["_law_script", "_law_k"]) (D__law_mixed : Has P w K mg base CX0 1 "_law_mixed" ["_law_cell", "_law_k"] sp_mixed) :
    Has P w K mg base CX0 2 "_law_number" ["_law_script", "_law_k"] (sp_number K) := by
  obtain ⟨f, fd, gm, F, b⟩ := S0
  refine ⟨f, fd, gm, F.kp, b, F.ok sc__law_number (fun vs H Q E h => ?_) (fun cdv A outer s H vs Q E hr h => ⟨_, (pss_cons (ps_set (i := 2) sc__law_number.nd rfl (Or.inl rfl) pe_int) (pss_cons (ps_if (pt_cmpR op_gt (pe_callB (id := "len") call_len_seq (by rfl) T.b_len PySem.boot_len (pa_cons (pv 0) pa_nil)) pe_int (nomark _)) (pss_one (ps_set (i := 2) sc__law_number.nd rfl (Or.inl rfl) (pe_ix ix_list (pv 0) (pe_op op_mod (pv 1) (pe_callB (id := "len") call_len_seq (by rfl) T.b_len PySem.boot_len (pa_cons (pv 0) pa_nil))) (fun _ _ => rfl)))) pss_nil) (pss_one (ps_ret (pe_has D__law_mixed (hr.mono (by decide)) rfl pass0 (pa_cons (pv 2) (pa_cons (pv 1) pa_nil))))))), ?_⟩)⟩
  · obtain ⟨a, ns, k, rfl, _⟩ := h
    rfl
  · obtain ⟨a, ns, k, rfl, hs, k0, k1, q⟩ := h
    refine q_asg (v := .int 0) ev_c fun H1 e1 => ?_
    have hs1 := ex_l e1 hs
    have last : ∀ (c : Int) (H2 : Hp), Ex H H2 → c = (if 0 < ns.length then ns.getD (k % ns.length).toNat 0 else 0) →
        tRet (tCall sp_mixed [] E0 (tCons (tVar 2) (tCons (tVar 1) tNil))) { nx := fun _ H' => Q .non H', rt := Q } [some (.ref a), some (.int k), some (.int c)] H2 := by
      intro c H2 e2 ec
      refine s_ret (v := .int (number ns k)) (ev_call (ea_cons (ev_var rfl) (ea_cons (ev_var rfl) ea_nil)) fun H3 e3 Q3 q3 E3 => ⟨c, k, rfl, k0, k1, ?_⟩) fun H3 e3 => q H3 (e2.trans e3)
      have en : mixed c k = number ns k := by
        rw [ec]
        rfl
      rw [en]
      exact q3
    have hlen : Ev (tCB (rLenS K) (tCons (tVar 0) tNil)) [some (.ref a), some (.int k), some (.int 0)] H1 (.int (ns.length : Int)) := ev_lenI (ev_var rfl) hs1
    refine q_when (b := decide ((0 : Int) < ns.length)) (et_test (ev_op hlen ev_c rv_I0)) (fun hb H2 e2 => ?_) (fun hb H2 e2 => ?_)
    · have hpos : (0 : Int) < ns.length := of_decide_eq_true hb
      have hm0 : 0 ≤ k % (ns.length : Int) := Int.emod_nonneg _ (by omega)
      have hm1 : k % (ns.length : Int) < (ns.length : Int) := Int.emod_lt_of_pos _ hpos
      have hlt : (k % (ns.length : Int)).toNat < ns.length := by omega
      refine s_asg (v := .int ns[(k % (ns.length : Int)).toNat]) (ev_op (ev_var rfl) (ev_op (ev_var rfl) (hlen.mono e2) (rv_I hpos)) (rv_ixI (ex_l e2 hs1) (atI_get hm0 hm1))) fun H3 e3 => ?_
      refine last _ H3 ((e1.trans e2).trans e3) ?_
      rw [if_pos (by omega), List.getD_eq_getElem?_getD, List.getElem?_eq_getElem hlt]
      rfl
    · have hz : ¬ 0 < ns.length := by
        have := of_decide_eq_false hb
        omega
      exact last 0 H2 (e1.trans e2) (by rw [if_neg hz])

theorem all_in {l : List Nat} : (l.map fun c => decide (c ∈ ((PySem.Str.ofString "abcdefgh" : Str)).cps.toList)).all id = l.all fun c => decide (c ∈ [97, 98, 99, 100, 101, 102, 103, 104]) := by
  have e : ((PySem.Str.ofString "abcdefgh" : Str)).cps.toList = [97, 98, 99, 100, 101, 102, 103, 104] := by decide +kernel
  rw [e, List.all_map]
  rfl
theorem has_is_word (T : Txt K mg cE cN cR cW cO cM) (S0 : Src K mg "is_word" s_is_word ["thing"]) : Has P w K mg base CX0 1 "is_word" ["thing"] (sp_is_word K) := by
  obtain ⟨f, fd, gm, F, b⟩ := S0
  refine ⟨f, fd, gm, F.kp, b, F.ok sc_is_word (fun vs H Q E h => ?_) (fun cdv A outer s H vs Q E hr h => ⟨_, (pss_cons (ps_if (pt_not (pt_val (pe_callB (id := "isinstance") call_isi (by rfl) T.b_isinstance (by decide +kernel) (pa_cons (pv 0) (pa_cons (pe_bltn (v := .ty "str") (u := .type "str") (by rfl) T.b_str (by decide +kernel) rfl) pa_nil))))) (pss_one (ps_ret pe_bl)) pss_nil) (pss_cons (ps_if (pt_not (pt_chain op_le op_le pe_int (pe_callB (id := "len") call_len_str (by rfl) T.b_len PySem.boot_len (pa_cons (pv 0) pa_nil)) (pe_globC rfl T.c_MOST_LETTERS))) (pss_one (ps_ret pe_bl)) pss_nil) (pss_one (ps_ret (pe_callB (id := "all") (cr_all rfl) (by rfl) T.b_all (by decide +kernel) (pa_cons (pe_lc (own := [("letter", 1)]) (g := gName 1) rfl sc_is_word.nd (pi_str (pv 0)) (blkOk_by (own := [("letter", 1)]) (N := N_is_word) (sc := (defScope s_is_word)) (by decide +kernel)) (fun _ _ _ _ _ => (pg_name (i := 1) sc_is_word.nd rfl (Or.inl rfl))) (fun _ _ _ _ _ => pts_nil) (fun _ _ _ _ _ => (pe_cmpR op_in_sign (pv 1) (pe_globC rfl T.c_LETTERS) rfl))) pa_nil)))))), ?_⟩)⟩
  · obtain ⟨v, rfl, _⟩ := h
    rfl
  · obtain ⟨v, rfl, th, q⟩ := h
    rcases th with ⟨l, rfl, hl⟩ | ⟨Ty, ht, hk, hn⟩
    · have q : RetV (.bl (okS l)) H Q := q
      refine q_when (b := false) (et_not (et_B (ev_isi (b := true) (ev_var rfl) (.base (.str _)) (by decide +kernel)))) (fun hb => nomatch hb) (fun _ H1 e1 => ?_)
      refine q_when (b := !(decide ((1 : Int) ≤ l.length) && decide ((l.length : Int) ≤ 60))) (et_not (et_chain ev_c (ev_lenS (ev_var rfl) hl) rv_I0 (fun _ => ev_c) (fun _ => rv_I0))) (fun hb H2 e2 => ?_) (fun hb H2 e2 => ?_)
      · refine s_ret (v := .bl false) ev_c fun H3 e3 => ?_
        have e : okS l = false := by
          cases c : okS l with
          | false => rfl
          | true =>
            obtain ⟨h1, h2, _⟩ := word_ok c
            rw [decide_eq_true (by omega : (1 : Int) ≤ l.length), decide_eq_true (by omega : (l.length : Int) ≤ 60)] at hb
            cases hb
        rw [e] at q
        exact q H3 ((e1.trans e2).trans e3)
      · rw [Bool.not_eq_false', Bool.and_eq_true, decide_eq_true_eq, decide_eq_true_eq] at hb
        refine s_ret (v := .bl (okS l)) (ev_is (v := .bl ((l.map fun c => decide (c ∈ ((PySem.Str.ofString "abcdefgh" : Str)).cps.toList)).all id)) (ev_all ?_) ?_) fun H3 e3 => q H3 ((e1.trans e2).trans e3)
        · -- the signs, one by one
          intro H3 e3 Q3 q3
          refine ⟨_, rfl, S l, rfl, fun Dl hD => ?_⟩
          refine lc_it (walk_str (z := S l)) (fun i H' => Ex H3 H' ∧ H' Dl = some (.lst ((l.take i).map fun c => V.bl (decide (c ∈ ((PySem.Str.ofString "abcdefgh" : Str)).cps.toList))))) ⟨Ex.new hD, upd_same⟩ (fun _ _ _ _ => True.intro) ?_ ?_
          · rintro i v H4 H5 hi ⟨p1, p2⟩ ⟨rfl, c, hc, rfl⟩
            have hc' : l[i]? = some c := by simpa using hc
            have hlt : i < l.length := (List.getElem?_eq_some_iff.mp hc').1
            refine ⟨rfl, tYes_if ?_⟩
            refine ⟨.str ⟨#[c]⟩, rfl, c, "abcdefgh", rfl, rfl, _, p2, sz_lt (by rw [List.length_map, List.length_take]; omega), Ex.mut p1 hD, ?_⟩
            rw [upd_same, List.take_succ, hc']
            simp
          · rintro H4 ⟨p1, p2⟩
            have hs : (S l).cps.size = l.length := by simp
            rw [hs, List.take_length] at p2
            exact q3 Dl H4 hD p1 (by rw [p2, List.map_map]; rfl)
        · unfold okS
          rw [all_in, decide_eq_true (by omega : 1 ≤ l.length), decide_eq_true (by omega : l.length ≤ 60)]
          rfl
    · have e : isWordV v = false := by
        cases v with
        | str z => exact absurd rfl (hn z)
        | _ => rfl
      rw [e] at q
      refine q_when (b := true) (et_not (et_B (ev_isi (b := false) (ev_var rfl) ht hk))) (fun _ H1 e1 => ?_) (fun hb => nomatch hb)
      exact s_ret (v := .bl false) ev_c fun H2 e2 => q H2 (e1.trans e2)

theorem has_need_word (T : Txt K mg cE cN cR cW cO cM) (S0 : Src K mg "need_word" s_need_word ["thing"]) (D_is_word : Has P w K mg base CX0 1 "is_word" ["thing"] (sp_is_word K)) :
    Has P w K mg base (L2.CX P w) 2 "need_word" ["thing"] (sp_need_word K cW) := by
  obtain ⟨f, fd, gm, F, b⟩ := S0
  refine ⟨f, fd, gm, F.kp, b, F.okX sc_need_word (fun vs H Q E h => ?_) (fun cdv A outer s H vs Q E hr h => ⟨_, (pss_one (ps_if (pt_not (pt_val (pe_has D_is_word (hr.mono (by decide)) rfl pass0 (pa_cons (pv 0) pa_nil)))) (pss_one (ps_raise rfl (takes_of rfl rfl rfl rfl) (pmk_own PySem.F.excBase_ValueError T.x_BadWord T.k_BadWord T.p_BadWord (raises_own T.s_BadWord T.y_BadWord) rfl))) pss_nil)), ?_⟩)⟩
  · obtain ⟨v, rfl, _⟩ := h
    rfl
  · obtain ⟨v, rfl, th, q1, q2⟩ := h
    refine s_when (b := !isWordV v) (et_not (et_B (ev_call (ea_cons (ev_var rfl) ea_nil) fun H3 e3 Q3 q3 E3 => ⟨v, rfl, th.mono e3, q3⟩))) (fun hb H1 e1 => ?_) (fun hb H1 e1 => ?_)
    · exact q2 (by rw [Bool.not_eq_true'] at hb; exact hb) H1 e1
    · exact q1 (by rw [Bool.not_eq_false'] at hb; exact hb) H1 e1

theorem has_is_whole (T : Txt K mg cE cN cR cW cO cM) (S0 : Src K mg "is_whole" s_is_whole ["thing"]) : Has P w K mg base CX0 1 "is_whole" ["thing"] (sp_is_whole K) := by
  obtain ⟨f, fd, gm, F, b⟩ := S0
  refine ⟨f, fd, gm, F.kp, b, F.ok sc_is_whole (fun vs H Q E h => ?_) (fun cdv A outer s H vs Q E hr h => ⟨_, (pss_one (ps_ret (pe_and (pe_callB (id := "isinstance") call_isi (by rfl) T.b_isinstance (by decide +kernel) (pa_cons (pv 0) (pa_cons (pe_bltn (v := .ty "int") (u := .type "int") (by rfl) T.b_int (by decide +kernel) rfl) pa_nil))) (pe_one (pe_not (pe_callB (id := "isinstance") call_isi (by rfl) T.b_isinstance (by decide +kernel) (pa_cons (pv 0) (pa_cons (pe_bltn (v := .ty "bool") (u := .type "bool") (by rfl) T.b_bool (by decide +kernel) rfl) pa_nil)))))))), ?_⟩)⟩
  · obtain ⟨v, rfl, _⟩ := h
    rfl
  · obtain ⟨v, rfl, th, q⟩ := h
    rcases th with ⟨i, rfl⟩ | ⟨c, rfl⟩ | ⟨Ty, ht, hk, hn⟩
    · exact s_ret (ev_andV (ev_isi (b := true) (ev_var rfl) (.base (.int _)) (by decide +kernel)) fun _ => ev_notV (ev_isi (b := false) (ev_var rfl) (.base (.int _)) (by decide +kernel))) fun H1 e1 => q H1 e1
    · exact s_ret (ev_andV (ev_isi (b := true) (ev_var rfl) (.base (.bl _)) (by decide +kernel)) fun _ => ev_notV (ev_isi (b := true) (ev_var rfl) (.base (.bl _)) (by decide +kernel))) fun H1 e1 => q H1 e1
    · have e : isWholeV v = false := by
        cases v with
        | int z => exact absurd rfl (hn z)
        | _ => rfl
      rw [e] at q
      exact s_ret (ev_andV (b := true) (ev_isi (b := false) (ev_var rfl) ht hk) fun z => nomatch z) fun H1 e1 => q H1 e1

theorem has_turned (T : Txt K mg cE cN cR cW cO cM) (S0 : Src K mg "turned" s_turned ["word", "by"]) (D_need_word : Has P w K mg base (L2.CX P w) 2 "need_word" ["thing"] (sp_need_word K cW)) (D_is_whole : Has P w K mg base CX0 1 "is_whole" ["thing"] (sp_is_whole K)) :
    Has P w K mg base (L2.CX P w) 3 "turned" ["word", "by"] (sp_turned K cW cN) := by
  obtain ⟨f, fd, gm, F, b⟩ := S0
  refine ⟨f, fd, gm, F.kp, b, F.okX sc_turned (fun vs H Q E h => ?_) (fun cdv A outer s H vs Q E hr h => ⟨_, (pss_cons (ps_expr (pe_has D_need_word (hr.mono (by decide)) rfl (passes_call (takes_of rfl rfl rfl rfl) fun _ _ _ _ z => z) (pa_cons (pv 0) pa_nil))) (pss_cons (ps_if (pt_not (pt_val (pe_has D_is_whole (hr.mono (by decide)) rfl pass0 (pa_cons (pv 1) pa_nil)))) (pss_one (ps_raise rfl (takes_of rfl rfl rfl rfl) (pmk_own PySem.F.excBase_ValueError T.x_BadNumber T.k_BadNumber T.p_BadNumber (raises_own T.s_BadNumber T.y_BadNumber) rfl))) pss_nil) (PSs.nox (pss_cons (ps_set (i := 2) sc_turned.nd rfl (Or.inl rfl) (pe_op op_mod (pv 1) (pe_callB (id := "len") call_len_str (by rfl) T.b_len PySem.boot_len (pa_cons (pv 0) pa_nil)))) (pss_one (ps_ret (pe_op op_add_str (pe_slice sl_str (pv 0) (po_some (pv 2)) po_none) (pe_slice sl_str (pv 0) po_none (po_some (pv 2)))))))))), ?_⟩)⟩
  · obtain ⟨v, u, rfl, _⟩ := h
    rfl
  · obtain ⟨v, u, rfl, th, ti, q1, q2, q3⟩ := h
    cases hv : isWordV v with
    | false => exact ⟨v, rfl, v, rfl, th, fun z => absurd (hv.symm.trans z) Bool.false_ne_true, fun _ => q1 hv⟩
    | true =>
      refine q_drop (ev_call (z := .non) (ea_cons (ev_var rfl) ea_nil) fun H3 e3 Q3 q4 E3 => ⟨v, rfl, th.mono e3, fun _ => q4, fun z => absurd (hv.symm.trans z) (fun y => nomatch y)⟩) fun H1 e1 => ?_
      refine q_when (b := !isWholeV u) (et_not (et_B (ev_call (ea_cons (ev_var rfl) ea_nil) fun H3 e3 Q3 q4 E3 => ⟨u, rfl, (ti.mono e1).mono e3, q4⟩))) (fun hb H2 e2 => ?_) (fun hb H2 e2 => ?_)
      · exact q2 hv (by rw [Bool.not_eq_true'] at hb; exact hb) H2 (e1.trans e2)
      · rw [Bool.not_eq_false'] at hb
        rcases th with ⟨l, rfl, hl⟩ | ⟨_, _, _, hn⟩
        · cases u with
          | int i =>
            have ok : okS l = true := hv
            obtain ⟨w1, w2, _⟩ := word_ok ok
            have hpos : (0 : Int) < (l.length : Int) := by omega
            have m0 : 0 ≤ i % (l.length : Int) := Int.emod_nonneg _ (by omega)
            have m1 : i % (l.length : Int) < (l.length : Int) := Int.emod_lt_of_pos _ hpos
            refine q_asg (v := .int (i % (l.length : Int))) (ev_op (ev_var rfl) (ev_lenS (ev_var rfl) hl) (rv_I hpos)) fun H3 e3 => ?_
            refine s_ret (ev_op (ev_from (ev_var rfl) hl (ev_var rfl) m0) (ev_to (ev_var rfl) hl (ev_var rfl) m0) (rv_catS ?_)) fun H4 e4 => q3 l i rfl ok rfl H4 (((e1.trans e2).trans e3).trans e4)
            rw [List.length_drop, List.length_take]
            omega
          | _ => cases hb
        · cases v with
          | str z => exact absurd rfl (hn z)
          | _ => cases hv

theorem has_turnings (T : Txt K mg cE cN cR cW cO cM) (S0 : Src K mg "turnings" s_turnings ["word"]) (D_need_word : Has P w K mg base (L2.CX P w) 2 "need_word" ["thing"] (sp_need_word K cW)) (D_turned : Has P w K mg base (L2.CX P w) 3 "turned" ["word", "by"] (sp_turned K cW cN)) :
    Has P w K mg base (L2.CX P w) 4 "turnings" ["word"] (sp_turnings K cW) := by
  obtain ⟨f, fd, gm, F, b⟩ := S0
  refine ⟨f, fd, gm, F.kp, b, F.okX sc_turnings (fun vs H Q E h => ?_) (fun cdv A outer s H vs Q E hr h => ⟨_, (pss_cons (ps_expr (pe_has D_need_word (hr.mono (by decide)) rfl (passes_call (takes_of rfl rfl rfl rfl) fun _ _ _ _ z => z) (pa_cons (pv 0) pa_nil))) (pss_one (ps_ret (pe_lc (own := [("by", 1)]) (g := gName 1) rfl sc_turnings.nd (pi_range1 rfl T.b_range (pa_cons (pe_callB (id := "len") call_len_str (by rfl) T.b_len PySem.boot_len (pa_cons (pv 0) pa_nil)) pa_nil)) (blkOk_by (own := [("by", 1)]) (N := N_turnings) (sc := (defScope s_turnings)) (by decide +kernel)) (fun _ _ _ _ _ => (pg_name (i := 1) sc_turnings.nd rfl (Or.inl rfl))) (fun _ _ _ _ _ => pts_nil) (fun _ _ _ _ _ => (pe_has D_turned (hr.mono (by decide)) rfl passL (pa_cons (pv 0) (pa_cons (pv 1) pa_nil)))))))), ?_⟩)⟩
  · obtain ⟨v, rfl, _⟩ := h
    rfl
  · obtain ⟨v, rfl, th, q1, q2⟩ := h
    cases hv : isWordV v with
    | false => exact ⟨v, rfl, v, rfl, th, fun z => absurd (hv.symm.trans z) Bool.false_ne_true, fun _ => q1 hv⟩
    | true =>
      refine q_drop (ev_call (z := .non) (ea_cons (ev_var rfl) ea_nil) fun H3 e3 Q3 q4 E3 => ⟨v, rfl, th.mono e3, fun _ => q4, fun z => absurd (hv.symm.trans z) (fun y => nomatch y)⟩) fun H1 e1 => ?_
      rcases th with ⟨l, rfl, hl⟩ | ⟨_, _, _, hn⟩
      · have ok : okS l = true := hv
        obtain ⟨w1, w2, _⟩ := word_ok ok
        refine s_retL (xs := (turnsL l).map fun l => V.str (S l)) ?_ fun p H2 hp e2 h2 => q2 l rfl ok p H2 (fresh_back e1 hp) (e1.trans e2) h2
        have e := el_lcR1 (ta := tCons (tCB rLenT (tCons (tVar 0) tNil)) tNil) (te := tCall (sp_turned K cW cN) [] E0 (tCons (tVar 0) (tCons (tVar 1) tNil))) (t := tYes) (j := 1) (vs := [1]) (σ := [some (.str (S l)), none]) (H := H1) (n := (l.length : Int)) (fun _ => true) (fun k => V.str (S (turnL l k)))
          (ea_cons (ev_lenS (ev_var rfl) hl) ea_nil) (by omega) (fun _ => rfl) (fun _ _ _ _ => et_yes) (fun k H2 e2 hk _ => ev_call (ea_cons (ev_var rfl) (ea_cons (ev_var rfl) ea_nil)) fun H3 e3 Q3 q4 E3 =>
            ⟨.str (S l), .int (k : Int), rfl, .inl ⟨l, rfl, hl⟩, .inl ⟨_, rfl⟩, fun z => absurd (hv.symm.trans z) (fun y => nomatch y), (fun _ z => nomatch z), fun l' i e5 _ e6 => by
              have e7 : l = l' := S_inj (V.str.inj e5)
              have e8 : (k : Int) = i := V.int.inj e6
              subst e7 e8
              rw [show (k : Int) % (l.length : Int) = (k : Int) from Int.emod_eq_of_lt (by omega) hk, Int.toNat_natCast]
              exact q4⟩)
        rw [given_all, Int.toNat_natCast] at e
        unfold turnsL
        rw [List.map_map]
        exact e
      · cases v with
        | str z => exact absurd rfl (hn z)
        | _ => cases hv

def sp_ring_of (K : PySem.W.Frag) (CW : Addr) : Sp := fun vs H Q E => ∃ v, vs = [v] ∧ ThS K H v ∧ (isWordV v = false → Ref E CW H) ∧ ∀ l m : List Nat, v = .str (S l) → okS l = true → IsLeast l m → RetV (.str (S m)) H Q
theorem has_ring_of (T : Txt K mg cE cN cR cW cO cM) (S0 : Src K mg "ring_of" s_ring_of ["word"]) (D_turnings : Has P w K mg base (L2.CX P w) 4 "turnings" ["word"] (sp_turnings K cW)) : Has P w K mg base (L2.CX P w) 5 "ring_of" ["word"] (sp_ring_of K cW) := by
  obtain ⟨f, fd, gm, F, b⟩ := S0
  refine ⟨f, fd, gm, F.kp, b, F.okX sc_ring_of (fun vs H Q E h => ?_) (fun cdv A outer s H vs Q E hr h => ⟨_, (pss_one (ps_ret (pe_callB (id := "min") (cr_minS rfl) (by rfl) T.b_min (by decide +kernel) (pa_cons (pe_has D_turnings (hr.mono (by decide)) rfl (passes_call (takes_of rfl rfl rfl rfl) fun _ _ _ _ z => z) (pa_cons (pv 0) pa_nil)) pa_nil)))), ?_⟩)⟩
  · obtain ⟨v, rfl, _⟩ := h
    rfl
  · obtain ⟨v, rfl, th, q1, q2⟩ := h
    cases hv : isWordV v with
    | false => exact ⟨v, rfl, v, rfl, th, fun _ => q1 hv, fun l e ok => by
        subst e
        exact absurd (hv.symm.trans (show isWordV (.str (S l)) = true from ok)) Bool.false_ne_true⟩
    | true =>
      rcases th with ⟨l, rfl, hl⟩ | ⟨_, _, _, hn⟩
      · have ok : okS l = true := hv
        have hm := leastL_is (l := l) (by have := (word_ok ok).1; omega)
        refine s_ret (ev_minS (ys := turnsL l) (m := leastL l) (el_call (ea_cons (ev_var rfl) ea_nil) fun H1 e1 Q1 q3 E1 => ⟨.str (S l), rfl, .inl ⟨l, rfl, hl⟩, fun z => absurd (hv.symm.trans z) (fun y => nomatch y), fun l' e _ => ?_⟩) hm.1 hm.2) fun H1 e1 => q2 l _ rfl ok hm H1 e1
        have e' : l = l' := S_inj (V.str.inj e)
        subst e'
        exact q3
      · cases v with
        | str z => exact absurd rfl (hn z)
        | _ => cases hv

def sp_is_ring (K : PySem.W.Frag) : Sp := fun vs H Q _ => ∃ v, vs = [v] ∧ ThS K H v ∧ (isWordV v = false → RetV (.bl false) H Q) ∧ ∀ l m : List Nat, v = .str (S l) → okS l = true → IsLeast l m → RetV (.bl (decide (m = l))) H Q
theorem has_is_ring (T : Txt K mg cE cN cR cW cO cM) (S0 : Src K mg "is_ring" s_is_ring ["thing"]) (D_is_word : Has P w K mg base CX0 1 "is_word" ["thing"] (sp_is_word K)) (D_ring_of : Has P w K mg base (L2.CX P w) 5 "ring_of" ["word"] (sp_ring_of K cW)) :
    Has P w K mg base CX0 6 "is_ring" ["thing"] (sp_is_ring K) := by
  obtain ⟨f, fd, gm, F, b⟩ := S0
  refine ⟨f, fd, gm, F.kp, b, F.ok sc_is_ring (fun vs H Q E h => ?_) (fun cdv A outer s H vs Q E hr h => ⟨_, (pss_one (ps_ret (pe_and (pe_has D_is_word (hr.mono (by decide)) rfl pass0 (pa_cons (pv 0) pa_nil)) (pe_one (pe_cmpR op_eq (pe_has D_ring_of (hr.mono (by decide)) rfl passL (pa_cons (pv 0) pa_nil)) (pv 0) (nomark _)))))), ?_⟩)⟩
  · obtain ⟨v, rfl, _⟩ := h
    rfl
  · obtain ⟨v, rfl, th, q1, q2⟩ := h
    have hw : Ev (tCall (sp_is_word K) [] E0 (tCons (tVar 0) tNil)) (L2.start N_is_ring [v]) H (.bl (isWordV v)) := ev_call (ea_cons (ev_var rfl) ea_nil) fun H3 e3 Q3 q4 E3 => ⟨v, rfl, th.mono e3, q4⟩
    cases hv : isWordV v with
    | false =>
      rw [hv] at hw
      exact s_ret (ev_andV (b := true) hw fun z => nomatch z) fun H1 e1 => q1 hv H1 e1
    | true =>
      rw [hv] at hw
      rcases th with ⟨l, rfl, hl⟩ | ⟨_, _, _, hn⟩
      · have ok : okS l = true := hv
        have hm := leastL_is (l := l) (by have := (word_ok ok).1; omega)
        refine s_ret (ev_andV hw fun _ => ev_op (ev_call (z := .str (S (leastL l))) (ea_cons (ev_var rfl) ea_nil) fun H1 e1 Q1 q3 E1 => ⟨.str (S l), rfl, .inl ⟨l, rfl, hl⟩, fun z => absurd (hv.symm.trans z) (fun y => nomatch y), fun l' m e _ hm' => ?_⟩) (ev_var rfl) rv_eqS) fun H1 e1 => q2 l _ rfl ok hm H1 e1
        have e' : l = l' := S_inj (V.str.inj e)
        subst e'
        rw [least_uniq hm' hm]
        exact q3
      · cases v with
        | str z => exact absurd rfl (hn z)
        | _ => cases hv

def sp_period (K : PySem.W.Frag) (CW : Addr) : Sp := fun vs H Q E => ∃ v, vs = [v] ∧ ThS K H v ∧ (isWordV v = false → Ref E CW H) ∧ ∀ (l : List Nat) (p : Nat), v = .str (S l) → okS l = true → IsPer l p → RetV (.int p) H Q
theorem has_period (T : Txt K mg cE cN cR cW cO cM) (S0 : Src K mg "period" s_period ["word"]) (D_need_word : Has P w K mg base (L2.CX P w) 2 "need_word" ["thing"] (sp_need_word K cW)) : Has P w K mg base (L2.CX P w) 3 "period" ["word"] (sp_period K cW) := by
  obtain ⟨f, fd, gm, F, b⟩ := S0
  refine ⟨f, fd, gm, F.kp, b, F.okX sc_period (fun vs H Q E h => ?_) (fun cdv A outer s H vs Q E hr h => ⟨_, (pss_cons (ps_expr (pe_has D_need_word (hr.mono (by decide)) rfl (passes_call (takes_of rfl rfl rfl rfl) fun _ _ _ _ z => z) (pa_cons (pv 0) pa_nil))) (PSs.nox (pss_cons (ps_set (i := 1) sc_period.nd rfl (Or.inl rfl) (pe_op op_add_str (pv 0) (pv 0))) (pss_one (ps_ret (pe_bm PySem.F.plainAttrs_str PySem.F.slot_str_find PySem.F.type_str_find mt_find3 (pv 1) (pa_cons (pv 0) (pa_cons pe_int pa_nil)))))))), ?_⟩)⟩
  · obtain ⟨v, rfl, _⟩ := h
    rfl
  · obtain ⟨v, rfl, th, q1, q2⟩ := h
    cases hv : isWordV v with
    | false => exact ⟨v, rfl, v, rfl, th, fun z => absurd (hv.symm.trans z) Bool.false_ne_true, fun _ => q1 hv⟩
    | true =>
      refine q_drop (ev_call (z := .non) (ea_cons (ev_var rfl) ea_nil) fun H3 e3 Q3 q4 E3 => ⟨v, rfl, th.mono e3, fun _ => q4, fun z => absurd (hv.symm.trans z) (fun y => nomatch y)⟩) fun H1 e1 => ?_
      rcases th with ⟨l, rfl, hl⟩ | ⟨_, _, _, hn⟩
      · have ok : okS l = true := hv
        obtain ⟨w1, w2, _⟩ := word_ok ok
        obtain ⟨p, hp⟩ := per_ex (l := l) (by omega)
        refine q_asg (v := .str (S (l ++ l))) (ev_op (ev_var rfl) (ev_var rfl) (rv_catS (by omega))) fun H2 e2 => ?_
        have e := ev_find3 (K := K) (σ := [some (.str (S l)), some (.str (S (l ++ l)))]) (H := H2) (ta := tVar 1) (tb := tVar 0) (tc := tC (.int 1)) (ev_var rfl) (ev_var rfl) ev_c
        rw [find_per hp] at e
        exact s_ret e fun H3 e3 => q2 l p rfl ok hp H3 ((e1.trans e2).trans e3)
      · cases v with
        | str z => exact absurd rfl (hn z)
        | _ => cases hv

theorem has_need_length (T : Txt K mg cE cN cR cW cO cM) (S0 : Src K mg "need_length" s_need_length ["thing"]) (D_is_whole : Has P w K mg base CX0 1 "is_whole" ["thing"] (sp_is_whole K)) : Has P w K mg base (L2.CX P w) 2 "need_length" ["thing"] (sp_need K cN 60) := by
  obtain ⟨f, fd, gm, F, b⟩ := S0
  refine ⟨f, fd, gm, F.kp, b, F.okX sc_need_length (fun vs H Q E h => ?_) (fun cdv A outer s H vs Q E hr h => ⟨_, (pss_one (ps_if (PW.pt (pw_or (pt_not (pt_val (pe_has D_is_whole (hr.mono (by decide)) rfl pass0 (pa_cons (pv 0) pa_nil)))) (pw_or1 (pt_not (pt_chain op_le op_le pe_int (pv 0) (pe_globC rfl T.c_MOST_LETTERS)))))) (pss_one (ps_raise rfl (takes_of rfl rfl rfl rfl) (pmk_own PySem.F.excBase_ValueError T.x_BadNumber T.k_BadNumber T.p_BadNumber (raises_own T.s_BadNumber T.y_BadNumber) rfl))) pss_nil)), ?_⟩)⟩
  · obtain ⟨v, rfl, _⟩ := h
    rfl
  · obtain ⟨v, rfl, th, q1, q2⟩ := h
    have call : ∀ H1, Ex H H1 → Ev (tCall (sp_is_whole K) [] E0 (tCons (tVar 0) tNil)) (L2.start N_need_length [v]) H1 (.bl (isWholeV v)) := fun H1 e1 => ev_call (ea_cons (ev_var rfl) ea_nil) fun H3 e3 Q3 q4 E3 => ⟨v, rfl, th.mono (e1.trans e3), q4⟩
    cases hw : isWholeV v with
    | false =>
      have hb : inB 60 v = false := by
        cases v with
        | int i => cases hw
        | _ => rfl
      rw [hw] at call
      refine s_when (b := true) (et_or (a := true) (b := true) (et_not (a := false) (et_B (call H (Ex.refl H)))) fun z => nomatch z) (fun _ H1 e1 => q2 hb H1 e1) (fun z => nomatch z)
    | true =>
      rw [hw] at call
      cases v with
      | int i =>
        refine s_when (b := !(inB 60 (.int i))) (et_is (et_or (a := false) (et_not (a := true) (et_B (call H (Ex.refl H)))) fun _ => et_not (et_chain (a := decide ((1 : Int) ≤ i)) (b := decide (i ≤ 60)) ev_c (ev_var rfl) rv_I0 (fun _ => ev_c) (fun _ => rv_I0))) (by
          show (false || !(decide ((1 : Int) ≤ i) && decide (i ≤ 60))) = _
          rw [Bool.false_or]
          rfl)) (fun hb H1 e1 => ?_) (fun hb H1 e1 => ?_)
        · exact q2 (by rw [Bool.not_eq_true'] at hb; exact hb) H1 e1
        · exact q1 (by rw [Bool.not_eq_false'] at hb; exact hb) H1 e1
      | _ => cases hw

theorem has_need_colours (T : Txt K mg cE cN cR cW cO cM) (S0 : Src K mg "need_colours" s_need_colours ["thing"]) (D_is_whole : Has P w K mg base CX0 1 "is_whole" ["thing"] (sp_is_whole K)) : Has P w K mg base (L2.CX P w) 2 "need_colours" ["thing"] (sp_need K cN 8) := by
  obtain ⟨f, fd, gm, F, b⟩ := S0
  refine ⟨f, fd, gm, F.kp, b, F.okX sc_need_colours (fun vs H Q E h => ?_) (fun cdv A outer s H vs Q E hr h => ⟨_, (pss_one (ps_if (PW.pt (pw_or (pt_not (pt_val (pe_has D_is_whole (hr.mono (by decide)) rfl pass0 (pa_cons (pv 0) pa_nil)))) (pw_or1 (pt_not (pt_chain op_le op_le pe_int (pv 0) (pe_globC rfl T.c_MOST_COLOURS)))))) (pss_one (ps_raise rfl (takes_of rfl rfl rfl rfl) (pmk_own PySem.F.excBase_ValueError T.x_BadNumber T.k_BadNumber T.p_BadNumber (raises_own T.s_BadNumber T.y_BadNumber) rfl))) pss_nil)), ?_⟩)⟩
  · obtain ⟨v, rfl, _⟩ := h
    rfl
  · obtain ⟨v, rfl, th, q1, q2⟩ := h
    have call : ∀ H1, Ex H H1 → Ev (tCall (sp_is_whole K) [] E0 (tCons (tVar 0) tNil)) (L2.start N_need_colours [v]) H1 (.bl (isWholeV v)) := fun H1 e1 => ev_call (ea_cons (ev_var rfl) ea_nil) fun H3 e3 Q3 q4 E3 => ⟨v, rfl, th.mono (e1.trans e3), q4⟩
    cases hw : isWholeV v with
    | false =>
      have hb : inB 8 v = false := by
        cases v with
        | int i => cases hw
        | _ => rfl
      rw [hw] at call
      refine s_when (b := true) (et_or (a := true) (b := true) (et_not (a := false) (et_B (call H (Ex.refl H)))) fun z => nomatch z) (fun _ H1 e1 => q2 hb H1 e1) (fun z => nomatch z)
    | true =>
      rw [hw] at call
      cases v with
      | int i =>
        refine s_when (b := !(inB 8 (.int i))) (et_is (et_or (a := false) (et_not (a := true) (et_B (call H (Ex.refl H)))) fun _ => et_not (et_chain (a := decide ((1 : Int) ≤ i)) (b := decide (i ≤ 8)) ev_c (ev_var rfl) rv_I0 (fun _ => ev_c) (fun _ => rv_I0))) (by
          show (false || !(decide ((1 : Int) ≤ i) && decide (i ≤ 8))) = _
          rw [Bool.false_or]
          rfl)) (fun hb H1 e1 => ?_) (fun hb H1 e1 => ?_)
        · exact q2 (by rw [Bool.not_eq_true'] at hb; exact hb) H1 e1
        · exact q1 (by rw [Bool.not_eq_false'] at hb; exact hb) H1 e1
      | _ => cases hw

theorem has_many_words (T : Txt K mg cE cN cR cW cO cM) (S0 : Src K mg "many_words" s_many_words ["length", "colours"]) : Has P w K mg base CX0 1 "many_words" ["length", "colours"] sp_powers := by
  obtain ⟨f, fd, gm, F, b⟩ := S0
  refine ⟨f, fd, gm, F.kp, b, F.ok sc_many_words (fun vs H Q E h => ?_) (fun cdv A outer s H vs Q E hr h => ⟨_, (pss_cons (ps_set (i := 2) sc_many_words.nd rfl (Or.inl rfl) pe_int) (pss_cons (ps_for PassesOwn.never rfl (pi_range1 rfl T.b_range (pa_cons (pv 0) pa_nil)) (pg_name (i := 3) sc_many_words.nd rfl (Or.inl rfl)) (pss_one (ps_set (i := 2) sc_many_words.nd rfl (Or.inl rfl) (pe_op op_mul (pv 2) (pv 1))))) (pss_one (ps_ret (pv 2))))), ?_⟩)⟩
  · obtain ⟨n, c, rfl, _⟩ := h
    rfl
  · obtain ⟨n, c, rfl, hn, hc, q⟩ := h
    refine q_asg (v := .int 1) ev_c fun H1 e1 => ?_
    refine q_forR1 (n := (n : Int)) (ea_cons (ev_var rfl) ea_nil) (by omega) (fun i σ' H' => (∃ a, σ' = [some (.int (n : Int)), some (.int (c : Int)), some (.int ((c ^ i : Nat) : Int)), a]) ∧ Ex H H') (fun H2 e2 => ⟨⟨_, rfl⟩, e1.trans e2⟩) ?_ ?_
    · rintro i σ' H' hi ⟨⟨a, rfl⟩, e2⟩
      refine s_asg (v := .int ((c ^ (i + 1) : Nat) : Int)) (ev_is (v := .int (((c ^ i : Nat) : Int) * (c : Int))) (ev_op (ev_var rfl) (ev_var rfl) (rv_I (show CMul _ _ from Or.inr ⟨by omega, by omega⟩))) (by rw [Nat.pow_succ, Int.natCast_mul])) fun H3 e3 => ⟨⟨_, rfl⟩, e2.trans e3⟩
    · rintro σ' H' ⟨⟨a, rfl⟩, e2⟩
      rw [Int.toNat_natCast]
      exact s_ret (ev_var rfl) fun H3 e3 => q H3 (e2.trans e3)

theorem has_divisors (T : Txt K mg cE cN cR cW cO cM) (S0 : Src K mg "divisors" s_divisors ["number"]) : Has P w K mg base CX0 1 "divisors" ["number"] sp_divs := by
  obtain ⟨f, fd, gm, F, b⟩ := S0
  refine ⟨f, fd, gm, F.kp, b, F.ok sc_divisors (fun vs H Q E h => ?_) (fun cdv A outer s H vs Q E hr h => ⟨_, (pss_one (ps_ret (pe_lc (own := [("part", 1)]) (g := gName 1) rfl sc_divisors.nd (pi_range2 rfl T.b_range (pa_cons pe_int (pa_cons (pe_op op_add (pv 0) pe_int) pa_nil))) (blkOk_by (own := [("part", 1)]) (N := N_divisors) (sc := (defScope s_divisors)) (by decide +kernel)) (fun _ _ _ _ _ => (pg_name (i := 1) sc_divisors.nd rfl (Or.inl rfl))) (fun _ _ _ _ _ => (pts_one (pt_cmpR op_eq (pe_op op_mod (pv 0) (pv 1)) pe_int (nomark _)))) (fun _ _ _ _ _ => (pv 1))))), ?_⟩)⟩
  · obtain ⟨n, rfl, _⟩ := h
    rfl
  · obtain ⟨n, rfl, h1, h2, q⟩ := h
    have e := el_lcR2 (t1 := tCons (tC (.int 1)) (tCons (tOp (rI0 fun i j => .int (i + j)) (tVar 0) (tC (.int 1))) tNil)) (te := tVar 1) (t := tTest (tOp rEq (tOp (rI (fun _ j => 0 < j) fun i j => .int (i % j)) (tVar 0) (tVar 1)) (tC (.int 0)))) (j := 1) (vs := [1]) (σ := [some (.int (n : Int)), none]) (H := H) (lo := 1) (n := (n : Int) + 1)
      (fun i => decide (n % (1 + i) = 0)) (fun i => iV (1 + i)) (ea_cons ev_c (ea_cons (ev_op (ev_var rfl) ev_c rv_I0) ea_nil)) (by omega) (fun _ => rfl) (fun i H1 e1 hi => et_is (et_test (ev_op (ev_op (ev_var rfl) (ev_var rfl) (rv_I (show (0 : Int) < 1 + (i : Int) by omega))) ev_c rv_eqI)) (by
        rw [Bool.eq_iff_iff, decide_eq_true_eq, decide_eq_true_eq]
        have z : (n : Int) % (1 + (i : Int)) = ((n % (1 + i) : Nat) : Int) := by rw [Int.natCast_emod]; rfl
        rw [z]
        omega)) (fun i H1 e1 hi _ => ev_is (ev_var rfl) (by unfold iV; congr 1))
    refine s_retL (xs := (divs n).map iV) ?_ fun p H2 hp e2 h2 => q p H2 hp e2 h2
    unfold given at e
    rw [show ((n : Int) + 1 - 1).toNat = n by omega] at e
    unfold divs
    rw [List.map_map]
    exact e

theorem has_many_coprime (T : Txt K mg cE cN cR cW cO cM) (S0 : Src K mg "many_coprime" s_many_coprime ["number"]) : Has P w K mg base CX0 1 "many_coprime" ["number"] sp_cop := by
  obtain ⟨f, fd, gm, F, b⟩ := S0
  refine ⟨f, fd, gm, F.kp, b, F.ok sc_many_coprime (fun vs H Q E h => ?_) (fun cdv A outer s H vs Q E hr h => ⟨_, (pss_one (ps_ret (pe_callB (id := "len") call_len_seq (by rfl) T.b_len PySem.boot_len (pa_cons (pe_lc (own := [("part", 1)]) (g := gName 1) rfl sc_many_coprime.nd (pi_range2 rfl T.b_range (pa_cons pe_int (pa_cons (pe_op op_add (pv 0) pe_int) pa_nil))) (blkOk_by (own := [("part", 1)]) (N := N_many_coprime) (sc := (defScope s_many_coprime)) (by decide +kernel)) (fun _ _ _ _ _ => (pg_name (i := 1) sc_many_coprime.nd rfl (Or.inl rfl))) (fun _ _ _ _ _ => (pts_one (pt_cmpR op_eq (pe_callBfun (id := "math.gcd") cr_gcd rfl T.g_gcd (pa_cons (pv 1) (pa_cons (pv 0) pa_nil))) pe_int (nomark _)))) (fun _ _ _ _ _ => (pv 1))) pa_nil)))), ?_⟩)⟩
  · obtain ⟨n, rfl, _⟩ := h
    rfl
  · obtain ⟨n, rfl, h1, h2, q⟩ := h
    have e := el_lcR2 (t1 := tCons (tC (.int 1)) (tCons (tOp (rI0 fun i j => .int (i + j)) (tVar 0) (tC (.int 1))) tNil)) (te := tVar 1) (t := tTest (tOp rEq (tCB rGcd (tCons (tVar 1) (tCons (tVar 0) tNil))) (tC (.int 1)))) (j := 1) (vs := [1]) (σ := [some (.int (n : Int)), none]) (H := H) (lo := 1) (n := (n : Int) + 1)
      (fun i => decide (Nat.gcd (1 + i) n = 1)) (fun i => iV (1 + i)) (ea_cons ev_c (ea_cons (ev_op (ev_var rfl) ev_c rv_I0) ea_nil)) (by omega) (fun _ => rfl) (fun i H1 e1 hi => et_is (et_test (ev_op (ev_gcd (a := 1 + i) (b := n) (ev_is (ev_var rfl) (by congr 1)) (ev_var rfl)) ev_c rv_eqI)) (by
        rw [Bool.eq_iff_iff, decide_eq_true_eq, decide_eq_true_eq]
        omega)) (fun i H1 e1 hi _ => ev_is (ev_var rfl) (by unfold iV; congr 1))
    refine s_ret (v := .int (cop n : Int)) (ev_is (ev_lenN e) ?_) fun H2 e2 => q H2 e2
    unfold given cop
    rw [List.length_map, show ((n : Int) + 1 - 1).toNat = n by omega]

theorem has_many_rings (T : Txt K mg cE cN cR cW cO cM) (S0 : Src K mg "many_rings" s_many_rings ["length", "colours"]) (D_need_length : Has P w K mg base (L2.CX P w) 2 "need_length" ["thing"] (sp_need K cN 60)) (D_need_colours : Has P w K mg base (L2.CX P w) 2 "need_colours" ["thing"] (sp_need K cN 8))
    (D_divisors : Has P w K mg base CX0 1 "divisors" ["number"] sp_divs) (D_many_coprime : Has P w K mg base CX0 1 "many_coprime" ["number"] sp_cop) (D_many_words : Has P w K mg base CX0 1 "many_words" ["length", "colours"] sp_powers) :
    Has P w K mg base (L2.CX P w) 3 "many_rings" ["length", "colours"] (sp_many K cN ringsN) := by
  obtain ⟨f, fd, gm, F, b⟩ := S0
  refine ⟨f, fd, gm, F.kp, b, F.okX sc_many_rings (fun vs H Q E h => ?_) (fun cdv A outer s H vs Q E hr h => ⟨_, (pss_cons (ps_expr (pe_has D_need_length (hr.mono (by decide)) rfl (passes_call (takes_of rfl rfl rfl rfl) fun _ _ _ _ z => z) (pa_cons (pv 0) pa_nil))) (pss_cons (ps_expr (pe_has D_need_colours (hr.mono (by decide)) rfl (passes_call (takes_of rfl rfl rfl rfl) fun _ _ _ _ z => z) (pa_cons (pv 1) pa_nil))) (PSs.nox (pss_cons (ps_set (i := 2) sc_many_rings.nd rfl (Or.inl rfl) pe_int) (pss_cons (ps_for PassesOwn.never rfl (pi_list (pe_has D_divisors (hr.mono (by decide)) rfl pass0 (pa_cons (pv 0) pa_nil))) (pg_name (i := 3) sc_many_rings.nd rfl (Or.inl rfl)) (pss_one (ps_set (i := 2) sc_many_rings.nd rfl (Or.inl rfl) (pe_op op_add (pv 2) (pe_op op_mul (pe_has D_many_coprime (hr.mono (by decide)) rfl pass0 (pa_cons (pv 3) pa_nil)) (pe_has D_many_words (hr.mono (by decide)) rfl pass0 (pa_cons (pe_op op_fdiv (pv 0) (pv 3)) (pa_cons (pv 1) pa_nil)))))))) (pss_one (ps_ret (pe_op op_fdiv (pv 2) (pv 0))))))))), ?_⟩)⟩
  · obtain ⟨v, u, rfl, _⟩ := h
    rfl
  · obtain ⟨v, u, rfl, th, ti, q1, q2, q3⟩ := h
    cases hv : inB 60 v with
    | false => exact ⟨v, rfl, v, rfl, th, fun z => absurd (hv.symm.trans z) Bool.false_ne_true, fun _ => q1 hv⟩
    | true =>
      refine q_drop (ev_call (z := .non) (ea_cons (ev_var rfl) ea_nil) fun H3 e3 Q3 q4 E3 => ⟨v, rfl, th.mono e3, fun _ => q4, fun z => absurd (hv.symm.trans z) (fun y => nomatch y)⟩) fun H1 e1 => ?_
      cases hu : inB 8 u with
      | false => exact ⟨u, rfl, u, rfl, ti.mono e1, fun z => absurd (hu.symm.trans z) Bool.false_ne_true, fun _ => (q2 hv hu).mono e1⟩
      | true =>
        refine q_drop (ev_call (z := .non) (ea_cons (ev_var rfl) ea_nil) fun H3 e3 Q3 q4 E3 => ⟨u, rfl, ti.mono (e1.trans e3), fun _ => q4, fun z => absurd (hu.symm.trans z) (fun y => nomatch y)⟩) fun H2 e2 => ?_
        obtain ⟨n, rfl, n1, n2⟩ := inB_nat (top := 60) hv
        obtain ⟨c, rfl, c1, c2⟩ := inB_nat (top := 8) hu
        refine q_asg (v := .int 0) ev_c fun H3 e3 => ?_
        have e13 := (e1.trans e2).trans e3
        refine q_forNLn (xs := (divs n).map iV) (el_call (ea_cons (ev_var rfl) ea_nil) fun H4 e4 Q4 q4 E4 => ⟨n, rfl, n1, n2, q4⟩)
          (fun p i σ' H' => (∃ a, σ' = [some (.int (n : Int)), some (.int (c : Int)), some (.int (((divs n).take i).foldl (fun t d => t + (cop d : Int) * ((c ^ (n / d) : Nat) : Int)) 0)), a]) ∧ Ex H H' ∧ H' p = some (.lst ((divs n).map iV)))
          (fun p H4 _ e4 h4 => ⟨⟨_, rfl⟩, e13.trans e4, h4⟩) (fun p i σ' H' _ z => sq_of z.2.2) ?_ ?_
        · rintro p i x σ' H4 hx ⟨⟨a, rfl⟩, e4, h4⟩
          obtain ⟨d, hd, rfl, hm⟩ := get_map_iV hx
          obtain ⟨d1, d2, d3⟩ := divs_in.mp hm
          have hq : n / d ≤ n := Nat.div_le_self n d
          have hcop : cop d ≤ d := by
            unfold cop
            have := List.length_filter_le (fun i => decide (Nat.gcd (1 + i) d = 1)) (List.range d)
            rw [List.length_range] at this
            exact this
          refine s_asg (v := .int (((divs n).take (i + 1)).foldl (fun t d => t + (cop d : Int) * ((c ^ (n / d) : Nat) : Int)) 0)) ?_ fun H5 e5 => ⟨⟨_, rfl⟩, e4.trans e5, e5 p _ h4⟩
          rw [fold_next hd]
          refine ev_op (ev_var rfl) (ev_op (y := .int ((c ^ (n / d) : Nat) : Int)) (ev_call (z := .int (cop d : Int)) (ea_cons (ev_var rfl) ea_nil) fun H6 e6 Q6 q6 E6 => ⟨d, rfl, d1, by omega, q6⟩) (ev_call (vs := [.int ((n / d : Nat) : Int), .int (c : Int)]) (ea_cons (ev_is (ev_op (ev_var rfl) (ev_var rfl) (rv_I (show CDiv _ _ from ⟨by omega, by omega⟩))) (by rw [Int.natCast_ediv])) (ea_cons (ev_var rfl) ea_nil)) fun H6 e6 Q6 q6 E6 => ⟨n / d, c, rfl, by omega, by omega, q6⟩) (rv_I (show CMul _ _ from Or.inl ⟨by omega, by omega⟩))) rv_I0
        · rintro p σ' H4 ⟨⟨a, rfl⟩, e4, h4⟩
          rw [List.length_map, List.take_length]
          exact s_ret (v := .int (ringsN n c)) (ev_op (ev_var rfl) (ev_var rfl) (rv_I (show CDiv _ _ from ⟨by omega, by omega⟩))) fun H5 e5 => q3 n c rfl rfl n1 n2 c1 c2 H5 (e4.trans e5)

theorem has_is_of_colours (T : Txt K mg cE cN cR cW cO cM) (S0 : Src K mg "is_of_colours" s_is_of_colours ["word", "colours"]) : Has P w K mg base CX0 1 "is_of_colours" ["word", "colours"] sp_of_colours := by
  obtain ⟨f, fd, gm, F, b⟩ := S0
  refine ⟨f, fd, gm, F.kp, b, F.ok sc_is_of_colours (fun vs H Q E h => ?_) (fun cdv A outer s H vs Q E hr h => ⟨_, (pss_one (ps_ret (pe_callB (id := "all") (cr_all rfl) (by rfl) T.b_all (by decide +kernel) (pa_cons (pe_lc (own := [("letter", 2)]) (g := gName 2) rfl sc_is_of_colours.nd (pi_str (pv 0)) (blkOk_by (own := [("letter", 2)]) (N := N_is_of_colours) (sc := (defScope s_is_of_colours)) (by decide +kernel)) (fun _ _ _ _ _ => (pg_name (i := 2) sc_is_of_colours.nd rfl (Or.inl rfl))) (fun _ _ _ _ _ => pts_nil) (fun _ _ _ _ _ => (pe_cmpR op_in_sign (pv 2) (pe_slice sl_str (pe_globC rfl T.c_LETTERS) po_none (po_some (pv 1))) rfl))) pa_nil)))), ?_⟩)⟩
  · obtain ⟨l, c, rfl, _⟩ := h
    rfl
  · obtain ⟨l, c, rfl, hl, hc, q⟩ := h
    have e := el_lcT (σ := [some (.str (S l)), some (.int (c : Int)), none]) (H := H) (tx := tVar 0) (te := tOp rInSg (tVar 2) (tSl rSlS (tC (.str "abcdefgh")) tNoPart (tPart (tVar 1)))) (t := tYes) (j := 2) (vs := [2]) (l := l) (fun _ => true) (fun d => V.bl (decide (d ∈ few c)))
      (ev_var rfl) (by omega) (fun _ => rfl) (fun _ _ _ _ => et_yes) (fun d _ H5 e5 _ => ev_op (ev_var rfl) (ev_few (ev_cS abc_S) (ev_var rfl) hc) rv_inSg)
    rw [List.filter_eq_self.mpr fun _ _ => rfl] at e
    have e2 : (l.map fun d => V.bl (decide (d ∈ few c))) = (l.map fun d => decide (d ∈ few c)).map V.bl := by
      rw [List.map_map]
      rfl
    rw [e2] at e
    refine s_ret (ev_is (ev_all e) ?_) fun H2 e2 => q H2 e2
    rw [List.all_map]
    rfl

theorem has_ring_behind (T : Txt K mg cE cN cR cW cO cM) (S0 : Src K mg "ring_behind" s_ring_behind ["ring", "colours"]) : Has P w K mg base CX0 1 "ring_behind" ["ring", "colours"] sp_behind := by
  obtain ⟨f, fd, gm, F, b⟩ := S0
  refine ⟨f, fd, gm, F.kp, b, F.ok sc_ring_behind (fun vs H Q E h => ?_) (fun cdv A outer s H vs Q E hr h => ⟨_, (pss_cons (ps_set (i := 2) sc_ring_behind.nd rfl (Or.inl rfl) (pe_ix ix_str (pe_globC rfl T.c_LETTERS) (pe_op op_sub (pv 1) pe_int) (fun _ _ => rfl))) (pss_cons (ps_set (i := 3) sc_ring_behind.nd rfl (Or.inl rfl) (pv 0)) (pss_cons (ps_while PassesOwn.never (pt_cmpR op_ne (pe_bm PySem.F.plainAttrs_str PySem.F.slot_str_rstrip PySem.F.type_str_rstrip mt_rstripChars (pv 3) (pa_cons (pv 2) pa_nil)) pe_str (nomark _)) (pss_cons (ps_set (i := 4) sc_ring_behind.nd rfl (Or.inl rfl) (pe_bm PySem.F.plainAttrs_str PySem.F.slot_str_rstrip PySem.F.type_str_rstrip mt_rstripChars (pv 3) (pa_cons (pv 2) pa_nil))) (pss_cons (ps_set (i := 5) sc_ring_behind.nd rfl (Or.inl rfl) (pe_op op_add_str (pe_slice sl_str (pv 4) po_none (po_some (pe_un un_neg pe_int))) (pe_ix ix_str (pe_globC rfl T.c_LETTERS) (pe_op op_add (pe_bm PySem.F.plainAttrs_str PySem.F.slot_str_index PySem.F.type_str_index mt_sindex (pe_globC rfl T.c_LETTERS) (pa_cons (pe_ix ix_str (pv 4) (pe_un un_neg pe_int) (fun _ _ => rfl)) pa_nil)) pe_int) (fun _ _ => rfl)))) (pss_cons (ps_set (i := 3) sc_ring_behind.nd rfl (Or.inl rfl) (pe_slice sl_str (pe_op op_mulS (pv 5) (pe_callB (id := "len") call_len_str (by rfl) T.b_len PySem.boot_len (pa_cons (pv 0) pa_nil))) po_none (po_some (pe_callB (id := "len") call_len_str (by rfl) T.b_len PySem.boot_len (pa_cons (pv 0) pa_nil))))) (pss_one (ps_if (pt_cmpR op_eq (pe_op op_mod (pe_callB (id := "len") call_len_str (by rfl) T.b_len PySem.boot_len (pa_cons (pv 0) pa_nil)) (pe_callB (id := "len") call_len_str (by rfl) T.b_len PySem.boot_len (pa_cons (pv 5) pa_nil))) pe_int (nomark _)) (pss_one (ps_ret (pv 3))) pss_nil)))))) (pss_one (ps_ret pe_non))))), ?_⟩)⟩
  · obtain ⟨l, c, rfl, _⟩ := h
    rfl
  · obtain ⟨l, c, rfl, ok, hring, c1, c2, hl, q⟩ := h
    obtain ⟨w1, w2, w3⟩ := word_ok ok
    have L := few_letters c1
    have last : atI abc ((c : Int) - 1) = some (96 + c) := by
      have : c = 1 ∨ c = 2 ∨ c = 3 ∨ c = 4 ∨ c = 5 ∨ c = 6 ∨ c = 7 ∨ c = 8 := by omega
      rcases this with rfl | rfl | rfl | rfl | rfl | rfl | rfl | rfl <;> rfl
    refine q_asg (v := .str (S [96 + c])) (ev_op (ev_cS abc_S) (ev_op (ev_var rfl) ev_c rv_I0) (rv_ixW (by decide) last)) fun H1 e1 => ?_
    refine q_asg (v := .str (S l)) (ev_var rfl) fun H2 e2 => ?_
    have e12 := e1.trans e2
    refine q_while (fun m σ' H' => ∃ wd a4 a5, σ' = [some (.str (S l)), some (.int (c : Int)), some (.str (S [96 + c])), some (.str (S wd)), a4, a5] ∧ Way (few c) l wd ∧ m = walkM (96 + c) l.length wd ∧ Ex H H') (walkM (96 + c) l.length l) ⟨l, _, _, rfl, way_start hring hl, rfl, e12⟩ ?_
    rintro m σ' H3 ⟨wd, a4, a5, rfl, W, rfl, e3⟩
    have wl : wd.length = l.length := W.len
    refine ⟨!decide (strip (96 + c) wd = []), et_test (ev_op (ev_rstrip (ev_var rfl) (ev_var rfl) (by omega)) (ev_cS (l := []) (by decide +kernel)) rv_neS), fun hb H4 e4 => ?_, fun hb H4 e4 => ?_⟩
    · rw [Bool.not_eq_true', decide_eq_false_iff_not] at hb
      rcases strip_ways (96 + c) wd with ⟨z, _⟩ | ⟨a, d, k, es, hd, ew⟩
      · exact absurd z hb
      have hlen : a.length + 1 + k = l.length := by
        rw [← wl, ew, List.length_append, List.length_append, List.length_replicate]
        rfl
      have hdc : d ∈ few c := W.lets d (by rw [ew]; exact List.mem_append_left _ (List.mem_append_right _ (List.mem_singleton.mpr rfl)))
      have hd3 := few_in.mp hdc
      have hd1 : d + 1 ∈ few c := few_in.mpr ⟨by omega, by omega⟩
      have hda : d ∈ abc := few_some c2 hdc
      have hk : walkM (96 + c) l.length wd = l.length + 1 - (a.length + 1) := by
        unfold walkM
        rw [if_neg hb, es, List.length_append]
        rfl
      have W' := W
      rw [ew] at W'
      obtain ⟨st1, st2⟩ := way_step L hd1 W'
      refine ⟨fun σ2 H2 => ∃ wd2 b4 b5, σ2 = [some (.str (S l)), some (.int (c : Int)), some (.str (S [96 + c])), some (.str (S wd2)), b4, b5] ∧ Way (few c) l wd2 ∧ walkM (96 + c) l.length wd2 < walkM (96 + c) l.length wd ∧ Ex H H2, fun σ2 H2 ⟨wd2, b4, b5, h1, h2, h3, h4⟩ => ⟨_, h3, wd2, b4, b5, h1, h2, rfl, h4⟩, ?_⟩
      refine q_asg (v := .str (S (a ++ [d]))) (by
        have z := ev_rstrip (K := K) (σ := [some (.str (S l)), some (.int (c : Int)), some (.str (S [96 + c])), some (.str (S wd)), a4, a5]) (H := H4) (ta := tVar 3) (tb := tVar 2) (w := wd) (T := 96 + c) (ev_var rfl) (ev_var rfl) (by omega)
        rw [es] at z
        exact z) fun H5 e5 => ?_
      have hal : (a ++ [d]).length = a.length + 1 := by rw [List.length_append]; rfl
      have hpl : (a ++ [d + 1]).length = a.length + 1 := by rw [List.length_append]; rfl
      have at_last : atI (a ++ [d]) (-1) = some d := by
        unfold atI ixN
        rw [if_neg (by decide), if_pos (by omega)]
        show (a ++ [d])[((-1 : Int) + ((a ++ [d]).length : Int)).toNat]? = some d
        rw [show ((-1 : Int) + ((a ++ [d]).length : Int)).toNat = a.length by omega, List.getElem?_append_right (Nat.le_refl _), Nat.sub_self]
        rfl
      have next_at : atI abc (((d - 97 : Nat) : Int) + 1) = some (d + 1) := by
        rw [atI_get (by omega) (by show _ < (8 : Int); omega)]
        have : d = 97 ∨ d = 98 ∨ d = 99 ∨ d = 100 ∨ d = 101 ∨ d = 102 ∨ d = 103 := by omega
        rcases this with rfl | rfl | rfl | rfl | rfl | rfl | rfl <;> rfl
      refine q_asg (v := .str (S (a ++ [d + 1]))) (ev_op (x := .str (S a)) (ev_cutS (ev_var rfl) (by omega) eo_none (eo_some (ev_un ev_c ru_neg)) (by
        show cutS (S (a ++ [d])) none (some (-1)) = _
        rw [cut_neg, hal, Nat.add_sub_cancel, List.take_append_of_le_length (Nat.le_refl _), List.take_length])) (ev_op (ev_cS abc_S) (ev_op (ev_index (c := d) (ev_cS abc_S) (ev_op (ev_var rfl) (ev_un ev_c ru_neg) (rv_ixW (by omega) at_last)) hda) ev_c rv_I0) (rv_ixW (by decide) next_at)) (rv_catS (by rw [List.length_singleton]; omega))) fun H6 e6 => ?_
      refine q_asg (v := .str (S (cyc (a ++ [d + 1]) l.length))) (by
        have z := ev_to (te := tOp rMulS (tVar 5) (tCB rLenT (tCons (tVar 0) tNil))) (ta := tCB rLenT (tCons (tVar 0) tNil)) (σ := [some (.str (S l)), some (.int (c : Int)), some (.str (S [96 + c])), some (.str (S wd)), some (.str (S (a ++ [d]))), some (.str (S (a ++ [d + 1])))]) (H := H6) (l := (List.replicate l.length (a ++ [d + 1])).flatten) (i := (l.length : Int)) (ev_op (ev_var rfl) (ev_lenS (ev_var rfl) (by omega)) (rv_mulS (n := l.length) rfl (by omega) (by omega))) (by
          rw [flat_length, hpl]
          have : l.length * (a.length + 1) ≤ 60 * 60 := Nat.mul_le_mul w2 (by omega)
          omega) (ev_lenS (ev_var rfl) (by omega)) (by omega)
        rw [Int.toNat_natCast] at z
        exact z) fun H7 e7 => ?_
      have e37 := (((e3.trans e4).trans e5).trans e6).trans e7
      have hmod : (l.length : Int) % ((a ++ [d + 1]).length : Int) = ((l.length % (a.length + 1) : Nat) : Int) := by rw [hpl, Int.natCast_emod]
      refine s_when (b := decide (l.length % (a.length + 1) = 0)) (et_is (et_test (ev_op (ev_op (ev_lenS (l := l) (ev_var rfl) (by omega)) (ev_lenS (l := a ++ [d + 1]) (ev_var rfl) (by omega)) (rv_I (show (0 : Int) < ((a ++ [d + 1]).length : Int) by omega))) ev_c rv_eqI)) (by
        rw [Bool.eq_iff_iff, decide_eq_true_eq, decide_eq_true_eq, hmod]
        omega)) (fun hm H8 e8 => ?_) (fun hm H8 e8 => ?_)
      · exact s_ret (ev_var rfl) fun H9 e9 => q (some (cyc (a ++ [d + 1]) l.length)) (st1 (of_decide_eq_true hm)) H9 ((e37.trans e8).trans e9)
      · obtain ⟨W2, grow⟩ := st2 (of_decide_eq_false hm)
        refine ⟨_, _, _, rfl, W2, ?_, e37.trans e8⟩
        rw [hk]
        unfold walkM
        rcases strip_ways (96 + c) (cyc (a ++ [d + 1]) l.length) with ⟨z, _⟩ | ⟨a', d', k', es', _, ew'⟩
        · rw [if_pos z]
          omega
        · rw [if_neg (by rw [es']; exact fun z => absurd (congrArg List.length z) (by rw [List.length_append]; show ¬ a'.length + 1 = 0; omega)), es', List.length_append]
          have := grow a' d' k' ew'
          have hl2 := congrArg List.length ew'
          rw [W2.len, List.length_append, List.length_append, List.length_replicate] at hl2
          have hl2 : l.length = a'.length + 1 + k' := hl2
          show l.length + 1 - (a'.length + 1) < _
          omega
    · rw [Bool.not_eq_false', decide_eq_true_eq] at hb
      rcases strip_ways (96 + c) wd with ⟨_, z⟩ | ⟨a, d, k, es, _, _⟩
      · rw [wl] at z
        rw [z] at W
        exact s_ret (v := .non) ev_c fun H5 e5 => q none (way_end L W) H5 ((e3.trans e4).trans e5)
      · rw [es] at hb
        exact absurd (congrArg List.length hb) (by rw [List.length_append]; show ¬ a.length + 1 = 0; omega)

theorem ring_v {l : List Nat} (ok : okS l = true) (h : Ring l) : ringV (.str (S l)) = true := by
  show (okS l && ringB l) = true
  rw [ok, ringB_iff.mpr h]
  rfl
theorem v_ring {v : V} (h : ringV v = true) : ∃ l, v = .str (S l) ∧ okS l = true ∧ Ring l := by
  cases v with
  | str z =>
    unfold ringV at h
    rw [Bool.and_eq_true] at h
    exact ⟨z.cps.toList, rfl, h.1, ringB_iff.mp h.2⟩
  | _ => cases h
theorem has_need_ring (T : Txt K mg cE cN cR cW cO cM) (S0 : Src K mg "need_ring" s_need_ring ["thing", "colours"]) (D_is_ring : Has P w K mg base CX0 6 "is_ring" ["thing"] (sp_is_ring K)) (D_need_colours : Has P w K mg base (L2.CX P w) 2 "need_colours" ["thing"] (sp_need K cN 8))
    (D_is_of_colours : Has P w K mg base CX0 1 "is_of_colours" ["word", "colours"] sp_of_colours) : Has P w K mg base (L2.CX P w) 7 "need_ring" ["thing", "colours"] (sp_need_ring K cR cN) := by
  obtain ⟨f, fd, gm, F, b⟩ := S0
  refine ⟨f, fd, gm, F.kp, b, F.okX sc_need_ring (fun vs H Q E h => ?_) (fun cdv A outer s H vs Q E hr h => ⟨_, (pss_cons (ps_if (pt_not (pt_val (pe_has D_is_ring (hr.mono (by decide)) rfl pass0 (pa_cons (pv 0) pa_nil)))) (pss_one (ps_raise rfl (takes_of rfl rfl rfl rfl) (pmk_own PySem.F.excBase_ValueError T.x_BadRing T.k_BadRing T.p_BadRing (raises_own T.s_BadRing T.y_BadRing) rfl))) pss_nil) (pss_cons (ps_expr (pe_has D_need_colours (hr.mono (by decide)) rfl (passes_call (takes_of rfl rfl rfl rfl) fun _ _ _ _ z => z) (pa_cons (pv 1) pa_nil))) (pss_one (ps_if (pt_not (pt_val (pe_has D_is_of_colours (hr.mono (by decide)) rfl pass0 (pa_cons (pv 0) (pa_cons (pv 1) pa_nil))))) (pss_one (ps_raise rfl (takes_of rfl rfl rfl rfl) (pmk_own PySem.F.excBase_ValueError T.x_BadRing T.k_BadRing T.p_BadRing (raises_own T.s_BadRing T.y_BadRing) rfl))) pss_nil)))), ?_⟩)⟩
  · obtain ⟨v, u, rfl, _⟩ := h
    rfl
  · obtain ⟨v, u, rfl, ⟨th, ti, q1, q2, q3⟩, q4⟩ := h
    have call : Ev (tCall (sp_is_ring K) [] E0 (tCons (tVar 0) tNil)) (L2.start N_need_ring [v, u]) H (.bl (ringV v)) := ev_call (ea_cons (ev_var rfl) ea_nil) fun H3 e3 Q3 q5 E3 => ⟨v, rfl, th.mono e3, fun hw => by
      have : ringV v = false := by
        cases v with
        | str z =>
          have hw : okS z.cps.toList = false := hw
          show (okS z.cps.toList && _) = false
          rw [hw]
          rfl
        | _ => rfl
      rw [this] at q5
      exact q5, fun l m e ok hm => by
      subst e
      have : ringV (.str (S l)) = decide (m = l) := by
        show (okS l && ringB l) = _
        rw [ok, Bool.true_and, ← least_ring (by have := (word_ok ok).1; omega), least_uniq hm (leastL_is (by have := (word_ok ok).1; omega))]
      rw [this] at q5
      exact q5⟩
    cases hv : ringV v with
    | false =>
      rw [hv] at call
      exact s_if (D := { nx := _, rt := _ }) (b := true) (et_not (a := false) (et_B call)) (fun _ H1 e1 => q1 hv H1 e1) (fun z => nomatch z)
    | true =>
      rw [hv] at call
      refine q_when (b := false) (et_not (a := true) (et_B call)) (fun z => nomatch z) (fun _ H1 e1 => ?_)
      cases hu : inB 8 u with
      | false => exact ⟨u, rfl, u, rfl, ti.mono e1, fun z => absurd (hu.symm.trans z) Bool.false_ne_true, fun _ => (q2 hv hu).mono e1⟩
      | true =>
        refine q_drop (ev_call (z := .non) (ea_cons (ev_var rfl) ea_nil) fun H3 e3 Q3 q5 E3 => ⟨u, rfl, ti.mono (e1.trans e3), fun _ => q5, fun z => absurd (hu.symm.trans z) (fun y => nomatch y)⟩) fun H2 e2 => ?_
        obtain ⟨l, rfl, ok, hring⟩ := v_ring hv
        obtain ⟨c, rfl, c1, c2⟩ := inB_nat (top := 8) hu
        refine s_when (b := !(l.all fun d => decide (d ∈ few c))) (et_not (et_B (ev_call (ea_cons (ev_var rfl) (ea_cons (ev_var rfl) ea_nil)) fun H3 e3 Q3 q5 E3 => ⟨l, c, rfl, by have := (word_ok ok).2.1; omega, c2, q5⟩))) (fun hb H3 e3 => ?_) (fun hb H3 e3 => ?_)
        · exact q3 l c rfl rfl ok hring c1 c2 (fun z => by
            rw [all_few.mpr z] at hb
            cases hb) H3 ((e1.trans e2).trans e3)
        · rw [Bool.not_eq_false'] at hb
          exact q4 l c rfl rfl ok hring c1 c2 (all_few.mp hb) H3 ((e1.trans e2).trans e3)

theorem has_next_ring (T : Txt K mg cE cN cR cW cO cM) (S0 : Src K mg "next_ring" s_next_ring ["ring", "colours"]) (D_need_ring : Has P w K mg base (L2.CX P w) 7 "need_ring" ["thing", "colours"] (sp_need_ring K cR cN)) (D_ring_behind : Has P w K mg base CX0 1 "ring_behind" ["ring", "colours"] sp_behind) :
    Has P w K mg base (L2.CX P w) 8 "next_ring" ["ring", "colours"] (sp_next_ring K cR cN) := by
  obtain ⟨f, fd, gm, F, b⟩ := S0
  refine ⟨f, fd, gm, F.kp, b, F.okX sc_next_ring (fun vs H Q E h => ?_) (fun cdv A outer s H vs Q E hr h => ⟨_, (pss_cons (ps_expr (pe_has D_need_ring (hr.mono (by decide)) rfl (passes_call (takes_of rfl rfl rfl rfl) fun _ _ _ _ z => z) (pa_cons (pv 0) (pa_cons (pv 1) pa_nil)))) (PSs.nox (pss_one (ps_ret (pe_has D_ring_behind (hr.mono (by decide)) rfl pass0 (pa_cons (pv 0) (pa_cons (pv 1) pa_nil))))))), ?_⟩)⟩
  · obtain ⟨v, u, rfl, _⟩ := h
    rfl
  · obtain ⟨v, u, rfl, hn, q4⟩ := h
    refine ⟨v, rfl, u, rfl, v, u, rfl, hn, fun l c ev eu ok hring c1 c2 hl H1 e1 => ?_⟩
    subst ev eu
    have L := few_letters c1
    have hbd := behind_ok L hl
    exact s_ret (v := optS (behindTo (few c) (96 + c) l l.length)) (ev_call (ea_cons (ev_var rfl) (ea_cons (ev_var rfl) ea_nil)) fun H2 e2 Q2 q5 E2 => ⟨l, c, rfl, ok, hring, c1, c2, hl, fun o ho => by
      rw [next_one ho hbd]
      exact q5⟩) fun H2 e2 => q4 l c rfl rfl ok hring c1 c2 hl _ hbd H2 (e1.trans e2)

theorem has_need_few (T : Txt K mg cE cN cR cW cO cM) (S0 : Src K mg "need_few" s_need_few ["many"]) : Has P w K mg base (L2.CX P w) 1 "need_few" ["many"] (sp_need_few cM) := by
  obtain ⟨f, fd, gm, F, b⟩ := S0
  refine ⟨f, fd, gm, F.kp, b, F.okX sc_need_few (fun vs H Q E h => ?_) (fun cdv A outer s H vs Q E hr h => ⟨_, (pss_one (ps_if (pt_cmpR op_gt (pv 0) (pe_globC rfl T.c_MOST_TOLD) (nomark _)) (pss_one (ps_raise rfl (takes_of rfl rfl rfl rfl) (pmk_own PySem.F.excBase_ValueError T.x_TooMany T.k_TooMany T.p_TooMany (raises_own T.s_TooMany T.y_TooMany) rfl))) pss_nil)), ?_⟩)⟩
  · obtain ⟨i, rfl, _⟩ := h
    rfl
  · obtain ⟨i, rfl, q1, q2⟩ := h
    refine s_when (b := decide ((3000 : Int) < i)) (et_test (ev_op (ev_var rfl) ev_c rv_I0)) (fun hb H1 e1 => ?_) (fun hb H1 e1 => ?_)
    · exact q2 (of_decide_eq_true hb) H1 e1
    · exact q1 (by have := of_decide_eq_false hb; omega) H1 e1

theorem has_all_rings (T : Txt K mg cE cN cR cW cO cM) (S0 : Src K mg "all_rings" s_all_rings ["length", "colours"]) (D_need_few : Has P w K mg base (L2.CX P w) 1 "need_few" ["many"] (sp_need_few cM)) (D_many_rings : Has P w K mg base (L2.CX P w) 3 "many_rings" ["length", "colours"] (sp_many K cN ringsN))
    (D_ring_behind : Has P w K mg base CX0 1 "ring_behind" ["ring", "colours"] sp_behind) : Has P w K mg base (L2.CX P w) 4 "all_rings" ["length", "colours"] (sp_all_rings K cN cM) := by
  obtain ⟨f, fd, gm, F, b⟩ := S0
  refine ⟨f, fd, gm, F.kp, b, F.okX sc_all_rings (fun vs H Q E h => ?_) (fun cdv A outer s H vs Q E hr h => ⟨_, (pss_cons (ps_expr (pe_has D_need_few (hr.mono (by decide)) rfl (passes_call (takes_of rfl rfl rfl rfl) fun _ _ _ _ z => z) (pa_cons (pe_has D_many_rings (hr.mono (by decide)) rfl (passes_call (takes_of rfl rfl rfl rfl) fun _ _ _ _ z => z) (pa_cons (pv 0) (pa_cons (pv 1) pa_nil))) pa_nil))) (PSs.nox (pss_cons (ps_set (i := 2) sc_all_rings.nd rfl (Or.inl rfl) (pe_lst pa_nil)) (pss_cons (ps_set (i := 3) sc_all_rings.nd rfl (Or.inl rfl) (pe_op op_mulS (pe_ix ix_str (pe_globC rfl T.c_LETTERS) pe_int (fun _ _ => rfl)) (pv 0))) (pss_cons (ps_while PassesOwn.never (pt_cmpR op_notN (pv 3) pe_non (nomark _)) (pss_cons (ps_expr (pe_bm PySem.F.plainAttrs_list PySem.F.slot_list_append PySem.F.type_list_append mt_append (pv 2) (pa_cons (pv 3) pa_nil))) (pss_one (ps_set (i := 3) sc_all_rings.nd rfl (Or.inl rfl) (pe_has D_ring_behind (hr.mono (by decide)) rfl pass0 (pa_cons (pv 3) (pa_cons (pv 1) pa_nil))))))) (pss_one (ps_ret (pv 2)))))))), ?_⟩)⟩
  · obtain ⟨v, u, rfl, _⟩ := h
    rfl
  · obtain ⟨v, u, rfl, ⟨th, ti, q1, q2, q3⟩, q4⟩ := h
    refine ⟨v, rfl, u, rfl, v, u, rfl, th, ti, q1, q2, fun n c ev eu n1 n2 c1 c2 H1 e1 => ⟨ringsN n c, rfl, fun hfew => ?_, fun hmany => (q3 n c ev eu n1 n2 c1 c2 hmany).mono e1⟩⟩
    intro H2 e2
    subst ev eu
    have q := q4 n c rfl rfl n1 n2 c1 c2 hfew
    have hlen : (allR (few c) n).length ≤ 40000 := Nat.le_trans allR_len (told_bd n1 n2 c1 c2 hfew)
    have rok : ∀ w ∈ allR (few c) n, okS w = true := fun w hw => allR_ok c2 n1 n2 hw
    show tSeq _ _ _ _ _
    refine q_asgL (xs := []) (el_lst ea_nil (by decide)) fun p H3 hp3 e3 h3 => ?_
    have e13 := (e1.trans e2).trans e3
    refine q_asg (v := .str (S (List.replicate n 97))) (ev_is (ev_op (ev_op (ev_cS abc_S) ev_c (rv_ixW (c := 97) (by decide) rfl)) (ev_var rfl) (rv_mulS (n := n) (l := [97]) rfl (by omega) (by show 1 ≤ 1000; decide))) (by rw [rep_ones])) fun H4 e4 => ?_
    have hpH : H p = none := fresh_back (e1.trans e2) hp3
    refine q_while (fun m σ' H' => ∃ j, σ' = [some (.int (n : Int)), some (.int (c : Int)), some (.ref p), some (optS (allR (few c) n)[j]?)] ∧ j ≤ (allR (few c) n).length ∧ m = (allR (few c) n).length - j ∧ Ex H H' ∧ H' p = some (.lst (((allR (few c) n).take j).map sV))) _ ⟨0, by rw [first_ring c1]; rfl, Nat.zero_le _, rfl, e13.trans e4, e4 p _ h3⟩ ?_
    rintro m σ' H5 ⟨j, rfl, hj, rfl, e5, h5⟩
    refine ⟨!decide (optS (allR (few c) n)[j]? = V.non), et_test (ev_op (ev_var rfl) ev_c rv_notNo), fun hb H6 e6 => ?_, fun hb H6 e6 => ?_⟩
    · have hlt : j < (allR (few c) n).length := by
        by_cases z : j < (allR (few c) n).length
        · exact z
        · rw [List.getElem?_eq_none (by omega)] at hb
          cases hb
      have hw : (allR (few c) n)[j]? = some (allR (few c) n)[j] := List.getElem?_eq_getElem hlt
      have hmem := List.getElem_mem hlt
      have rr := allR_mem.mp hmem
      have ho := allR_next (few_letters c1).rise hlt
      refine ⟨fun σ2 H' => σ2 = [some (.int (n : Int)), some (.int (c : Int)), some (.ref p), some (optS (allR (few c) n)[j + 1]?)] ∧ Ex H H' ∧ H' p = some (.lst (((allR (few c) n).take (j + 1)).map sV)), fun σ2 H' ⟨h1, h2, h3⟩ => ⟨_, by omega, j + 1, h1, by omega, rfl, h2, h3⟩, ?_⟩
      rw [hw]
      refine q_app (e6 p _ h5) (ev_var rfl) (ev_var rfl) (by rw [List.length_map, List.length_take]; omega) fun H7 e7 => ?_
      have e8 : Ex H (upd H7 p (.lst (((allR (few c) n).take j).map sV ++ [optS (some (allR (few c) n)[j])]))) := Ex.mut ((e5.trans e6).trans e7) hpH
      refine s_asg (v := optS (allR (few c) n)[j + 1]?) (ev_call (vs := [.str (S (allR (few c) n)[j]), .int (c : Int)]) (ea_cons (ev_var rfl) (ea_cons (ev_var rfl) ea_nil)) fun H9 e9 Q9 q9 E9 => ⟨(allR (few c) n)[j], c, rfl, rok _ hmem, rr.1, c1, c2, rr.2.2, fun o ho' => by
        rw [next_one ho' ho]
        exact q9⟩) fun H9 e9 => ⟨rfl, e8.trans e9, ?_⟩
      rw [e9 p _ upd_same, List.take_succ, hw, List.map_append]
      rfl
    · have hge : j = (allR (few c) n).length := by
        by_cases z : j < (allR (few c) n).length
        · rw [List.getElem?_eq_getElem z] at hb
          cases hb
        · omega
      rw [hge, List.take_length] at h5
      exact s_ret (ev_var rfl) fun H7 e7 => q p H7 hpH ((e5.trans e6).trans e7) (e7 p _ (e6 p _ h5))

theorem has_number_of (T : Txt K mg cE cN cR cW cO cM) (S0 : Src K mg "number_of" s_number_of ["ring", "colours"]) (D_need_ring : Has P w K mg base (L2.CX P w) 7 "need_ring" ["thing", "colours"] (sp_need_ring K cR cN)) (D_all_rings : Has P w K mg base (L2.CX P w) 4 "all_rings" ["length", "colours"] (sp_all_rings K cN cM)) :
    Has P w K mg base (L2.CX P w) 8 "number_of" ["ring", "colours"] (sp_number_of K cR cN cM) := by
  obtain ⟨f, fd, gm, F, b⟩ := S0
  refine ⟨f, fd, gm, F.kp, b, F.okX sc_number_of (fun vs H Q E h => ?_) (fun cdv A outer s H vs Q E hr h => ⟨_, (pss_cons (ps_expr (pe_has D_need_ring (hr.mono (by decide)) rfl (passes_call (takes_of rfl rfl rfl rfl) fun _ _ _ _ z => z) (pa_cons (pv 0) (pa_cons (pv 1) pa_nil)))) (pss_one (ps_ret (pe_bm PySem.F.plainAttrs_list PySem.F.slot_list_index PySem.F.type_list_index mt_index (pe_has D_all_rings (hr.mono (by decide)) rfl (passes_call (takes_of rfl rfl rfl rfl) fun _ _ _ _ z => z) (pa_cons (pe_callB (id := "len") call_len_str (by rfl) T.b_len PySem.boot_len (pa_cons (pv 0) pa_nil)) (pa_cons (pv 1) pa_nil))) (pa_cons (pv 0) pa_nil))))), ?_⟩)⟩
  · obtain ⟨v, u, rfl, _⟩ := h
    rfl
  · obtain ⟨v, u, rfl, hn, q4⟩ := h
    refine ⟨v, rfl, u, rfl, v, u, rfl, hn, fun l c ev eu ok hring c1 c2 hl H1 e1 => ?_⟩
    subst ev eu
    obtain ⟨qm, qj⟩ := q4 l c rfl rfl ok hring c1 c2 hl
    obtain ⟨w1, w2, w3⟩ := word_ok ok
    have hS : (S l).length = l.length := S_len l
    refine ⟨.str (S l), rfl, S l, rfl, sz_txt (by omega), .int (c : Int), rfl, .int ((S l).length : Int), .int (c : Int), rfl, ⟨.inl ⟨_, rfl⟩, .inl ⟨_, rfl⟩, fun z => absurd (z.symm.trans (inB_ok (top := 60) (by omega) (by omega))) Bool.false_ne_true, fun _ z => absurd (z.symm.trans (inB_ok (top := 8) c1 c2)) Bool.false_ne_true, fun n' c' en ec _ _ _ _ hm => ?_⟩, fun n' c' en ec n1 n2 _ _ hfew => ?_⟩
    · have en' : ((S l).length : Int) = (n' : Int) := V.int.inj en
      have ec' : (c : Int) = (c' : Int) := V.int.inj ec
      have en'' : l.length = n' := by omega
      have ec'' : c = c' := by omega
      subst en'' ec''
      exact (qm hm).mono e1
    · have en' : ((S l).length : Int) = (n' : Int) := V.int.inj en
      have ec' : (c : Int) = (c' : Int) := V.int.inj ec
      have en'' : l.length = n' := by omega
      have ec'' : c = c' := by omega
      subst en'' ec''
      intro p H3 hp e3 h3
      have hmem : l ∈ allR (few c) l.length := allR_mem.mpr ⟨hring, rfl, hl⟩
      obtain ⟨j, hj, ej⟩ := List.getElem_of_mem hmem
      have hj' : (allR (few c) l.length)[j]? = some l := by rw [List.getElem?_eq_getElem hj, ej]
      have e13 := e1.trans e3
      refine ⟨.inl ⟨rfl, _, sq_of h3⟩, .str (S l), rfl, p, (allR (few c) l.length).map sV, .str (S l), j, .str (S l), rfl, rfl, sq_of h3, rfl, flat_sV _, ?_, eqV_refl_sV l, fun m z' hm hz => ?_, qj hfew j hj' H3 e13⟩
      · rw [List.getElem?_map, hj']
        rfl
      · obtain ⟨w', hw', rfl, _, _⟩ := get_map_sV hz
        refine eqV_ne_sV fun e => ?_
        subst e
        have := allR_nodup c1 hw' hj'
        omega

theorem has_ring_at (T : Txt K mg cE cN cR cW cO cM) (S0 : Src K mg "ring_at" s_ring_at ["number", "length", "colours"]) (D_is_whole : Has P w K mg base CX0 1 "is_whole" ["thing"] (sp_is_whole K)) (D_all_rings : Has P w K mg base (L2.CX P w) 4 "all_rings" ["length", "colours"] (sp_all_rings K cN cM)) :
    Has P w K mg base (L2.CX P w) 5 "ring_at" ["number", "length", "colours"] (sp_ring_at K cN cM cO) := by
  obtain ⟨f, fd, gm, F, b⟩ := S0
  refine ⟨f, fd, gm, F.kp, b, F.okX sc_ring_at (fun vs H Q E h => ?_) (fun cdv A outer s H vs Q E hr h => ⟨_, (pss_cons (ps_set (i := 3) sc_ring_at.nd rfl (Or.inl rfl) (pe_has D_all_rings (hr.mono (by decide)) rfl (passes_call (takes_of rfl rfl rfl rfl) fun _ _ _ _ z => z) (pa_cons (pv 1) (pa_cons (pv 2) pa_nil)))) (pss_cons (ps_if (PW.pt (pw_or (pt_not (pt_val (pe_has D_is_whole (hr.mono (by decide)) rfl pass0 (pa_cons (pv 0) pa_nil)))) (pw_or1 (pt_not (pt_chain op_le op_lt pe_int (pv 0) (pe_callB (id := "len") call_len_seq (by rfl) T.b_len PySem.boot_len (pa_cons (pv 3) pa_nil))))))) (pss_one (ps_raise rfl (takes_of rfl rfl rfl rfl) (pmk_own PySem.F.excBase_ValueError T.x_NoRing T.k_NoRing T.p_NoRing (raises_own T.s_NoRing T.y_NoRing) rfl))) pss_nil) (PSs.nox (pss_one (ps_ret (pe_ix ix_list (pv 3) (pv 0) (fun _ _ => rfl))))))), ?_⟩)⟩
  · obtain ⟨x, v, u, rfl, _⟩ := h
    rfl
  · obtain ⟨x, v, u, rfl, tx, hn, q4⟩ := h
    refine ⟨v, rfl, u, rfl, v, u, rfl, hn, fun n c ev eu n1 n2 c1 c2 hfew => ?_⟩
    subst ev eu
    obtain ⟨qo, qj⟩ := q4 n c rfl rfl n1 n2 c1 c2 hfew
    intro p H1 hp e1 h1
    have hlen : (allR (few c) n).length ≤ 40000 := Nat.le_trans allR_len (told_bd n1 n2 c1 c2 hfew)
    have hln : Ev (tCB (rLenS K) (tCons (tVar 3) tNil)) [some x, some (.int (n : Int)), some (.int (c : Int)), some (.ref p)] H1 (.int ((allR (few c) n).length : Int)) := by
      have z := ev_len (σ := [some x, some (.int (n : Int)), some (.int (c : Int)), some (.ref p)]) (H := H1) (ta := tVar 3) (ev_var rfl) (sq_of (K := K) h1)
      rw [List.length_map] at z
      exact z
    have call : Ev (tCall (sp_is_whole K) [] E0 (tCons (tVar 0) tNil)) [some x, some (.int (n : Int)), some (.int (c : Int)), some (.ref p)] H1 (.bl (isWholeV x)) := ev_call (ea_cons (ev_var rfl) ea_nil) fun H3 e3 Q3 q5 E3 => ⟨x, rfl, tx.mono (e1.trans e3), q5⟩
    dsimp only
    refine q_when (b := noNum (allR (few c) n).length x) ?_ (fun hb H2 e2 => ?_) (fun hb H2 e2 => ?_)
    · cases hw : isWholeV x with
      | false =>
        rw [hw] at call
        have hz : noNum (allR (few c) n).length x = true := by
          cases x with
          | int i => cases hw
          | _ => rfl
        rw [hz]
        exact et_or (a := true) (b := true) (et_not (a := false) (et_B call)) fun z => nomatch z
      | true =>
        rw [hw] at call
        cases x with
        | int i => exact et_is (et_or (a := false) (et_not (a := true) (et_B call)) fun _ => et_not (et_chain (a := decide ((0 : Int) ≤ i)) (b := decide (i < ((allR (few c) n).length : Int))) ev_c (ev_var rfl) rv_I0 (fun _ => hln) (fun _ => rv_I0))) (by rw [Bool.false_or]; rfl)
        | _ => cases hw
    · exact qo hb H2 (e1.trans e2)
    · cases x with
      | int i =>
        have hb' : (decide (0 ≤ i) && decide (i < ((allR (few c) n).length : Int))) = true := by
          cases z : (decide (0 ≤ i) && decide (i < ((allR (few c) n).length : Int))) with
          | true => rfl
          | false =>
            have : noNum (allR (few c) n).length (.int i) = true := by
              show (!(decide (0 ≤ i) && decide (i < ((allR (few c) n).length : Int)))) = true
              rw [z]
              rfl
            rw [this] at hb
            cases hb
        rw [Bool.and_eq_true, decide_eq_true_eq, decide_eq_true_eq] at hb'
        obtain ⟨k, rfl⟩ : ∃ k : Nat, i = (k : Int) := ⟨i.toNat, by omega⟩
        have hk : k < (allR (few c) n).length := by omega
        have hw : (allR (few c) n)[k]? = some (allR (few c) n)[k] := List.getElem?_eq_getElem hk
        refine s_ret (v := .str (S (allR (few c) n)[k])) (ev_op (ev_var rfl) (ev_var rfl) (rv_ixL (sq_of (e2 p _ h1)) ?_)) fun H3 e3 => qj k _ rfl hw H3 ((e1.trans e2).trans e3)
        rw [atI_get (by omega) (by rw [List.length_map]; omega)]
        simp [sV]
      | _ => cases hb

theorem has_long_word (T : Txt K mg cE cN cR cW cO cM) (S0 : Src K mg "long_word" s_long_word ["length", "colours"]) (D_need_length : Has P w K mg base (L2.CX P w) 2 "need_length" ["thing"] (sp_need K cN 60)) (D_need_colours : Has P w K mg base (L2.CX P w) 2 "need_colours" ["thing"] (sp_need K cN 8))
    (D_need_few : Has P w K mg base (L2.CX P w) 1 "need_few" ["many"] (sp_need_few cM)) (D_many_words : Has P w K mg base CX0 1 "many_words" ["length", "colours"] sp_powers) (D_all_rings : Has P w K mg base (L2.CX P w) 4 "all_rings" ["length", "colours"] (sp_all_rings K cN cM))
    (D_period : Has P w K mg base (L2.CX P w) 3 "period" ["word"] (sp_period K cW)) : Has P w K mg base (L2.CX P w) 5 "long_word" ["length", "colours"] (sp_long K cN cM) := by
  obtain ⟨f, fd, gm, F, b⟩ := S0
  refine ⟨f, fd, gm, F.kp, b, F.okX sc_long_word (fun vs H Q E h => ?_) (fun cdv A outer s H vs Q E hr h => ⟨_, (pss_cons (ps_expr (pe_has D_need_length (hr.mono (by decide)) rfl (passes_call (takes_of rfl rfl rfl rfl) fun _ _ _ _ z => z) (pa_cons (pv 0) pa_nil))) (pss_cons (ps_expr (pe_has D_need_colours (hr.mono (by decide)) rfl (passes_call (takes_of rfl rfl rfl rfl) fun _ _ _ _ z => z) (pa_cons (pv 1) pa_nil))) (pss_cons (ps_expr (pe_has D_need_few (hr.mono (by decide)) rfl (passes_call (takes_of rfl rfl rfl rfl) fun _ _ _ _ z => z) (pa_cons (pe_has D_many_words (hr.mono (by decide)) rfl pass0 (pa_cons (pv 0) (pa_cons (pv 1) pa_nil))) pa_nil))) (pss_cons (ps_setLc (i := 3) (own := [("ring", 2)]) (g := gName 2) rfl sc_long_word.nd rfl rfl (sw_true rfl rfl rfl (by decide +kernel)) (pi_list (pe_has D_all_rings (hr.mono (by decide)) rfl (passes_call (takes_of rfl rfl rfl rfl) fun _ _ _ _ z => z) (pa_cons (pv 0) (pa_cons (pv 1) pa_nil)))) (blkOk_by (own := [("ring", 2)]) (N := N_long_word) (sc := (defScope s_long_word)) (by decide +kernel)) (fun _ _ _ _ _ => (pg_name (i := 2) sc_long_word.nd rfl (Or.inl rfl))) (fun _ _ _ _ _ => pts_nil) (fun _ _ _ _ _ => (pe_slice sl_str (pv 2) po_none (po_some (pe_has D_period (hr.mono (by decide)) rfl passL (pa_cons (pv 2) pa_nil)))))) (PSs.nox (pss_one (ps_ret (pe_join pe_str (pe_callB (id := "sorted") cr_sortL (by rfl) T.b_sorted (by decide +kernel) (pa_cons (pv 3) pa_nil)))))))))), ?_⟩)⟩
  · obtain ⟨v, u, rfl, _⟩ := h
    rfl
  · obtain ⟨v, u, rfl, ⟨th, ti, q1, q2, q3⟩, q4⟩ := h
    have same : ∀ n n' : Nat, V.int (n : Int) = V.int (n' : Int) → n' = n := fun n n' e => by
      have e' : (n : Int) = (n' : Int) := V.int.inj e
      omega
    cases hv : inB 60 v with
    | false => exact ⟨v, rfl, v, rfl, th, fun z => absurd (hv.symm.trans z) Bool.false_ne_true, fun _ => q1 hv⟩
    | true =>
      refine q_drop (ev_call (z := .non) (ea_cons (ev_var rfl) ea_nil) fun H3 e3 Q3 q4 E3 => ⟨v, rfl, th.mono e3, fun _ => q4, fun z => absurd (hv.symm.trans z) (fun y => nomatch y)⟩) fun H1 e1 => ?_
      cases hu : inB 8 u with
      | false => exact ⟨u, rfl, u, rfl, ti.mono e1, fun z => absurd (hu.symm.trans z) Bool.false_ne_true, fun _ => (q2 hv hu).mono e1⟩
      | true =>
        refine q_drop (ev_call (z := .non) (ea_cons (ev_var rfl) ea_nil) fun H3 e3 Q3 q4 E3 => ⟨u, rfl, ti.mono (e1.trans e3), fun _ => q4, fun z => absurd (hu.symm.trans z) (fun y => nomatch y)⟩) fun H2 e2 => ?_
        obtain ⟨n, rfl, n1, n2⟩ := inB_nat (top := 60) hv
        obtain ⟨c, rfl, c1, c2⟩ := inB_nat (top := 8) hu
        have e12 := e1.trans e2
        by_cases hfew : 3000 < c ^ n
        · refine ⟨_, rfl, _, rfl, n, c, rfl, by omega, c2, fun H3 e3 => ⟨_, rfl, fun z => ?_, fun _ => (q3 n c rfl rfl n1 n2 c1 c2 hfew).mono (e12.trans e3)⟩⟩
          omega
        · have hfew : c ^ n ≤ 3000 := by omega
          obtain ⟨b1, b2⟩ := few_bd n1 n2 c1 c2 hfew
          have q := q4 n c rfl rfl n1 n2 c1 c2 hfew
          refine q_drop (ev_call (z := .non) (vs := [.int ((c ^ n : Nat) : Int)]) (ea_cons (ev_call (ea_cons (ev_var rfl) (ea_cons (ev_var rfl) ea_nil)) fun H3 e3 Q3 q5 E3 => ⟨n, c, rfl, by omega, c2, q5⟩) ea_nil) fun H3 e3 Q3 q5 E3 => ⟨_, rfl, fun _ => q5, fun z => by omega⟩) fun H3 e3 => ?_
          have e13 := e12.trans e3
          have rlen : (allR (few c) n).length ≤ 3000 := Nat.le_trans allR_len hfew
          have rok : ∀ w ∈ allR (few c) n, okS w = true := fun w hw => allR_ok c2 n1 n2 hw
          refine q_asgL (xs := ((allR (few c) n).filter fun _ => true).map fun l => sV (prim l)) (el_lcNW (fun _ => true) (fun l => sV (prim l)) (el_call (ea_cons (ev_var rfl) (ea_cons (ev_var rfl) ea_nil)) fun H4 e4 Q4 q5 E4 => ⟨.int (n : Int), .int (c : Int), rfl, ⟨.inl ⟨_, rfl⟩, .inl ⟨_, rfl⟩, fun z => absurd (z.symm.trans hv) Bool.false_ne_true, fun _ z => absurd (z.symm.trans hu) Bool.false_ne_true, fun n' c' en ec _ _ _ _ hm' => by
              have en' := same n n' en
              have ec' := same c c' ec
              subst en' ec'
              omega⟩, fun n' c' en ec _ _ _ _ _ => by
              have en' := same n n' en
              have ec' := same c c' ec
              subst en' ec'
              exact q5⟩) (by omega) (fun _ => rfl) (fun _ _ _ _ => et_yes) (fun l hl H4 e4 _ => ?_)) fun p H4 hp e4 h4 => ?_
          · have ok := rok l hl
            obtain ⟨w1, w2, _⟩ := word_ok ok
            have hper := perL_is (l := l) (by omega)
            have z := ev_to (te := tVar 2) (ta := tCall (sp_period K cW) [] E0 (tCons (tVar 2) tNil)) (σ := [some (.int (n : Int)), some (.int (c : Int)), some (.str (S l)), none]) (H := H4) (l := l) (i := (perL l : Int)) (ev_var rfl) (by omega) (ev_call (ea_cons (ev_var rfl) ea_nil) fun H5 e5 Q5 q5 E5 => ⟨.str (S l), rfl, ths_word ok, fun z => absurd (z.symm.trans ok) Bool.false_ne_true, fun l' p' el ok' hp' => by
              have el' : l = l' := S_inj (V.str.inj el)
              subst el'
              rw [per_uniq hp' hper]
              exact q5⟩) (by omega)
            rw [Int.toNat_natCast] at z
            exact z
          · have ef : (allR (few c) n).filter (fun _ => true) = allR (few c) n := List.filter_eq_self.mpr fun _ _ => rfl
            rw [ef] at h4
            have h4' : H4 p = some (.lst (((allR (few c) n).map prim).map sV)) := by
              rw [h4, List.map_map]
              rfl
            have hWl : (chainW n c).length ≤ 60000 := Nat.le_trans (chain_len n c) b2
            refine s_ret (v := .str (S (chainW n c))) (ev_joinE (ys := chainP n c) (ev_cS rfl) (el_sortLV (ls := (allR (few c) n).map prim) (ms := chainP n c) (ev_var rfl) h4' (by rw [List.length_map]; omega) fun xs hx hxp => sort_one hxp (sortW_sorted _) (hx.trans (sortW_perm _).symm)) (by
              rw [← List.length_flatten]
              show (chainW n c).length ≤ _
              omega)) fun H5 e5 => q H5 ((e13.trans e4).trans e5)

theorem has_place_of (T : Txt K mg cE cN cR cW cO cM) (S0 : Src K mg "place_of" s_place_of ["text", "length", "colours"]) (D_long_word : Has P w K mg base (L2.CX P w) 5 "long_word" ["length", "colours"] (sp_long K cN cM)) (D_is_word : Has P w K mg base CX0 1 "is_word" ["thing"] (sp_is_word K))
    (D_is_of_colours : Has P w K mg base CX0 1 "is_of_colours" ["word", "colours"] sp_of_colours) : Has P w K mg base (L2.CX P w) 6 "place_of" ["text", "length", "colours"] (sp_place K cN cM cW) := by
  obtain ⟨f, fd, gm, F, b⟩ := S0
  refine ⟨f, fd, gm, F.kp, b, F.okX sc_place_of (fun vs H Q E h => ?_) (fun cdv A outer s H vs Q E hr h => ⟨_, (pss_cons (ps_set (i := 3) sc_place_of.nd rfl (Or.inl rfl) (pe_has D_long_word (hr.mono (by decide)) rfl (passes_call (takes_of rfl rfl rfl rfl) fun _ _ _ _ z => z) (pa_cons (pv 1) (pa_cons (pv 2) pa_nil)))) (pss_cons (ps_if (PW.pt (pw_or (pt_not (pt_val (pe_has D_is_word (hr.mono (by decide)) rfl pass0 (pa_cons (pv 0) pa_nil)))) (pw_or (pt_cmpR op_ne (pe_callB (id := "len") call_len_str (by rfl) T.b_len PySem.boot_len (pa_cons (pv 0) pa_nil)) (pv 1) (nomark _)) (pw_or1 (pt_not (pt_val (pe_has D_is_of_colours (hr.mono (by decide)) rfl pass0 (pa_cons (pv 0) (pa_cons (pv 2) pa_nil))))))))) (pss_one (ps_raise rfl (takes_of rfl rfl rfl rfl) (pmk_own PySem.F.excBase_ValueError T.x_BadWord T.k_BadWord T.p_BadWord (raises_own T.s_BadWord T.y_BadWord) rfl))) pss_nil) (PSs.nox (pss_one (ps_ret (pe_bm PySem.F.plainAttrs_str PySem.F.slot_str_find PySem.F.type_str_find mt_find1 (pe_op op_mulS2 (pv 3) (pe_op op_add (pv 1) pe_int)) (pa_cons (pv 0) pa_nil))))))), ?_⟩)⟩
  · obtain ⟨x, v, u, rfl, _⟩ := h
    rfl
  · obtain ⟨x, v, u, rfl, tx, hn, q4⟩ := h
    refine ⟨v, rfl, u, rfl, v, u, rfl, hn, fun n c ev eu n1 n2 c1 c2 hfew => ?_⟩
    subst ev eu
    obtain ⟨qw, qp⟩ := q4 n c rfl rfl n1 n2 c1 c2 hfew
    intro H1 e1
    obtain ⟨b1, b2⟩ := few_bd n1 n2 c1 c2 hfew
    have hWl : (chainW n c).length ≤ 60000 := Nat.le_trans (chain_len n c) b2
    have word : Ev (tCall (sp_is_word K) [] E0 (tCons (tVar 0) tNil)) [some x, some (.int (n : Int)), some (.int (c : Int)), some (.str (S (chainW n c)))] H1 (.bl (isWordV x)) := ev_call (ea_cons (ev_var rfl) ea_nil) fun H3 e3 Q3 q5 E3 => ⟨x, rfl, tx.mono (e1.trans e3), q5⟩
    dsimp only
    refine q_when (b := noRead n c x) ?_ (fun hb H2 e2 => ?_) (fun hb H2 e2 => ?_)
    · cases hw : isWordV x with
      | false =>
        rw [hw] at word
        have hz : noRead n c x = true := by
          cases x with
          | str z =>
            have hw : okS z.cps.toList = false := hw
            show (!(okS z.cps.toList && _)) = true
            rw [hw]
            rfl
          | _ => rfl
        rw [hz]
        exact et_or (a := true) (b := true) (et_not (a := false) (et_B word)) fun z => nomatch z
      | true =>
        rw [hw] at word
        rcases tx with ⟨l, rfl, hl⟩ | ⟨_, _, _, hn'⟩
        · have ok : okS l = true := hw
          obtain ⟨w1, w2, _⟩ := word_ok ok
          refine et_is (et_or (a := false) (b := !decide ((l.length : Int) = (n : Int)) || !(l.all fun d => decide (d ∈ few c))) (et_not (a := true) (et_B word)) fun _ => et_or (et_test (ev_op (ev_lenS (ev_var rfl) hl) (ev_var rfl) rv_neI)) fun _ => et_not (et_B (ev_call (ea_cons (ev_var rfl) (ea_cons (ev_var rfl) ea_nil)) fun H3 e3 Q3 q5 E3 => ⟨l, c, rfl, by omega, c2, q5⟩))) ?_
          show _ = !(okS l && (decide (l.length = n) && l.all fun d => decide (d ∈ few c)))
          rw [ok, Bool.false_or, Bool.true_and, Bool.not_and]
          have : decide ((l.length : Int) = (n : Int)) = decide (l.length = n) := by
            rw [Bool.eq_iff_iff, decide_eq_true_eq, decide_eq_true_eq]
            omega
          rw [this]
        · cases x with
          | str z => exact absurd rfl (hn' z)
          | _ => cases hw
    · exact qw hb H2 (e1.trans e2)
    · have hw : isWordV x = true := by
        cases hw : isWordV x with
        | true => rfl
        | false =>
          have hz : noRead n c x = true := by
            cases x with
            | str z =>
              have hw : okS z.cps.toList = false := hw
              show (!(okS z.cps.toList && _)) = true
              rw [hw]
              rfl
            | _ => rfl
          rw [hz] at hb
          cases hb
      rcases tx with ⟨l, rfl, hl⟩ | ⟨_, _, _, hn'⟩
      · refine s_ret (v := .int (place n c l)) (ev_find1 (ev_op (ev_var rfl) (ev_op (ev_var rfl) ev_c rv_I0) (rv_mulS2 (n := n + 1) (by omega) (by omega) (by omega) (Nat.le_trans (Nat.mul_le_mul (show n + 1 ≤ 61 by omega) hWl) (by decide)))) (ev_var rfl)) fun H3 e3 => qp l rfl hb H3 ((e1.trans e2).trans e3)
      · cases x with
        | str z => exact absurd rfl (hn' z)
        | _ => cases hw

theorem kind_number (T : Txt K mg cE cN cR cW cO cM) {f : Addr} {fd : FuncData} (F : Fun K "_law_kind" "_law_kind" s__law_kind f fd) : FnOk P w K mg base CX0 1 f fd ["_law_e"] (sp_kind cN wNumber) := by
  have XC := T.exc_BadNumber
  refine F.ok sc__law_kind (fun vs H Q E h => ?_) (fun cdv A outer s H vs Q E hr h => ⟨_, (pss_cons (ps_set (i := 1) sc__law_kind.nd rfl (Or.inl rfl) (pe_op op_cat (pe_op op_rep (pe_lst (pa_cons pe_str pa_nil)) (pe_callTy (T := "int") call_int1 (by rfl) T.b_int (by decide +kernel) (pa_cons (pe_callB (id := "isinstance") (call_isX XC) (by rfl) T.b_isinstance (by decide +kernel) (pa_cons (pv 0) (pa_cons (pe_glob (v := .ref cN) rfl T.k_BadNumber rfl) pa_nil))) pa_nil))) (pe_op op_rep (pe_lst (pa_cons pe_str pa_nil)) (pe_callTy (T := "int") call_int1 (by rfl) T.b_int (by decide +kernel) (pa_cons (pe_callB (id := "isinstance") (call_isX XC) (by rfl) T.b_isinstance (by decide +kernel) (pa_cons (pv 0) (pa_cons (pe_glob (v := .ref cR) rfl T.k_BadRing rfl) pa_nil))) pa_nil))))) (pss_cons (ps_set (i := 1) sc__law_kind.nd rfl (Or.inl rfl) (pe_op op_cat (pe_op op_cat (pv 1) (pe_op op_rep (pe_lst (pa_cons pe_str pa_nil)) (pe_callTy (T := "int") call_int1 (by rfl) T.b_int (by decide +kernel) (pa_cons (pe_callB (id := "isinstance") (call_isX XC) (by rfl) T.b_isinstance (by decide +kernel) (pa_cons (pv 0) (pa_cons (pe_glob (v := .ref cW) rfl T.k_BadWord rfl) pa_nil))) pa_nil)))) (pe_op op_rep (pe_lst (pa_cons pe_str pa_nil)) (pe_callTy (T := "int") call_int1 (by rfl) T.b_int (by decide +kernel) (pa_cons (pe_callB (id := "isinstance") (call_isX XC) (by rfl) T.b_isinstance (by decide +kernel) (pa_cons (pv 0) (pa_cons (pe_glob (v := .ref cO) rfl T.k_NoRing rfl) pa_nil))) pa_nil))))) (pss_cons (ps_set (i := 1) sc__law_kind.nd rfl (Or.inl rfl) (pe_op op_cat (pv 1) (pe_op op_rep (pe_lst (pa_cons pe_str pa_nil)) (pe_callTy (T := "int") call_int1 (by rfl) T.b_int (by decide +kernel) (pa_cons (pe_callB (id := "isinstance") (call_isX XC) (by rfl) T.b_isinstance (by decide +kernel) (pa_cons (pv 0) (pa_cons (pe_glob (v := .ref cM) rfl T.k_TooMany rfl) pa_nil))) pa_nil))))) (pss_one (ps_ret (pe_join pe_str (pe_op op_cat (pv 1) (pe_op op_rep (pe_lst (pa_cons pe_str pa_nil)) (pe_callTy (T := "int") call_int1 (by rfl) T.b_int (by decide +kernel) (pa_cons (pe_not (pe_callB (id := "isinstance") (call_isX XC) (by rfl) T.b_isinstance (by decide +kernel) (pa_cons (pv 0) (pa_cons (pe_bltn (v := .ty "ValueError") (u := .type "ValueError") (by rfl) T.b_ValueError (by decide +kernel) rfl) pa_nil)))) pa_nil)))))))))), ?_⟩)
  · obtain ⟨a, rfl, _⟩ := h
    rfl
  · obtain ⟨a, rfl, ha, q⟩ := h
    have one : ∀ (σ : L2.St) (H1 : Hp) (C : Addr) (bb : Bool) (z : Str), σ[0]? = some (some (.ref a)) → Ex H H1 → PySem.W.kitOne K (.ref cN) (.ref C) = some bb →
        EvL (tOp rRep (tLst (tCons (tC (.str z)) tNil)) (tCB rInt1 (tCons (tCB (rIsX K cN) (tCons (tVar 0) (tCons (tC (.ref C)) tNil))) tNil))) σ H1 (List.replicate (if bb then 1 else 0 : Int).toNat [V.str z]).flatten := by
      intro σ H1 C bb z h0 e1 hk
      refine el_rep (el_lst (ea_cons ev_c ea_nil) (by show 1 ≤ 100000; decide)) (fun H2 e2 => ev_intB (ev_isX (ev_var h0) ev_c ((e1.trans e2) a _ ha) (.own C) hk)) ?_ ?_ (by show 1 ≤ 100; decide)
      · cases bb <;> decide
      · cases bb <;> decide
    have last : ∀ (σ : L2.St) (H1 : Hp), σ[0]? = some (some (.ref a)) → Ex H H1 →
        EvL (tOp rRep (tLst (tCons (tC (.str "base")) tNil)) (tCB rInt1 (tCons (tNotV (tCB (rIsX K cN) (tCons (tVar 0) (tCons (tC (.ty "ValueError")) tNil)))) tNil))) σ H1 [] := by
      intro σ H1 h0 e1
      exact el_rep (k := 0) (xs := [V.str "base"]) (el_lst (ea_cons ev_c ea_nil) (by decide)) (fun H2 e2 => ev_intB (b := false) (ev_notV (a := true) (ev_isX (ev_var h0) ev_c ((e1.trans e2) a _ ha) (.ty "ValueError") T.i_BadNumber_V))) (by decide) (by decide) (by decide)
    refine q_asgL (xs := [V.str "number"]) (el_cat (xs := [V.str "number"]) (ys := []) (one _ H cN true _ rfl (Ex.refl H) T.i_BadNumber_BadNumber) (one _ H cR false _ rfl (Ex.refl H) T.i_BadNumber_BadRing) (by decide)) fun p H1 hp e1 h1 => ?_
    refine q_asgL (xs := [V.str "number"]) (el_cat (xs := [V.str "number"]) (ys := []) (el_catV (xs := [V.str "number"]) (ys := []) (ev_var rfl) h1 (one _ H1 cW false _ rfl e1 T.i_BadNumber_BadWord) (by decide)) (one _ H1 cO false _ rfl e1 T.i_BadNumber_NoRing) (by decide)) fun p2 H2 hp2 e2 h2 => ?_
    refine q_asgL (xs := [V.str "number"]) (el_catV (xs := [V.str "number"]) (ys := []) (ev_var rfl) h2 (one _ H2 cM false _ rfl (e1.trans e2) T.i_BadNumber_TooMany) (by decide)) fun p3 H3 hp3 e3 h3 => ?_
    refine s_ret (ev_join1 (a := [47]) (w := wNumber) (ev_cS (by decide +kernel)) (el_catV (xs := [V.str (S wNumber)]) (ys := []) (ev_var rfl) (by rw [h3, wNumber_S]) (last _ H3 rfl ((e1.trans e2).trans e3)) (by decide)) (by decide)) fun H4 e4 => q H4 (((e1.trans e2).trans e3).trans e4)

theorem kind_ring (T : Txt K mg cE cN cR cW cO cM) {f : Addr} {fd : FuncData} (F : Fun K "_law_kind" "_law_kind" s__law_kind f fd) : FnOk P w K mg base CX0 1 f fd ["_law_e"] (sp_kind cR wRing) := by
  have XC := T.exc_BadRing
  refine F.ok sc__law_kind (fun vs H Q E h => ?_) (fun cdv A outer s H vs Q E hr h => ⟨_, (pss_cons (ps_set (i := 1) sc__law_kind.nd rfl (Or.inl rfl) (pe_op op_cat (pe_op op_rep (pe_lst (pa_cons pe_str pa_nil)) (pe_callTy (T := "int") call_int1 (by rfl) T.b_int (by decide +kernel) (pa_cons (pe_callB (id := "isinstance") (call_isX XC) (by rfl) T.b_isinstance (by decide +kernel) (pa_cons (pv 0) (pa_cons (pe_glob (v := .ref cN) rfl T.k_BadNumber rfl) pa_nil))) pa_nil))) (pe_op op_rep (pe_lst (pa_cons pe_str pa_nil)) (pe_callTy (T := "int") call_int1 (by rfl) T.b_int (by decide +kernel) (pa_cons (pe_callB (id := "isinstance") (call_isX XC) (by rfl) T.b_isinstance (by decide +kernel) (pa_cons (pv 0) (pa_cons (pe_glob (v := .ref cR) rfl T.k_BadRing rfl) pa_nil))) pa_nil))))) (pss_cons (ps_set (i := 1) sc__law_kind.nd rfl (Or.inl rfl) (pe_op op_cat (pe_op op_cat (pv 1) (pe_op op_rep (pe_lst (pa_cons pe_str pa_nil)) (pe_callTy (T := "int") call_int1 (by rfl) T.b_int (by decide +kernel) (pa_cons (pe_callB (id := "isinstance") (call_isX XC) (by rfl) T.b_isinstance (by decide +kernel) (pa_cons (pv 0) (pa_cons (pe_glob (v := .ref cW) rfl T.k_BadWord rfl) pa_nil))) pa_nil)))) (pe_op op_rep (pe_lst (pa_cons pe_str pa_nil)) (pe_callTy (T := "int") call_int1 (by rfl) T.b_int (by decide +kernel) (pa_cons (pe_callB (id := "isinstance") (call_isX XC) (by rfl) T.b_isinstance (by decide +kernel) (pa_cons (pv 0) (pa_cons (pe_glob (v := .ref cO) rfl T.k_NoRing rfl) pa_nil))) pa_nil))))) (pss_cons (ps_set (i := 1) sc__law_kind.nd rfl (Or.inl rfl) (pe_op op_cat (pv 1) (pe_op op_rep (pe_lst (pa_cons pe_str pa_nil)) (pe_callTy (T := "int") call_int1 (by rfl) T.b_int (by decide +kernel) (pa_cons (pe_callB (id := "isinstance") (call_isX XC) (by rfl) T.b_isinstance (by decide +kernel) (pa_cons (pv 0) (pa_cons (pe_glob (v := .ref cM) rfl T.k_TooMany rfl) pa_nil))) pa_nil))))) (pss_one (ps_ret (pe_join pe_str (pe_op op_cat (pv 1) (pe_op op_rep (pe_lst (pa_cons pe_str pa_nil)) (pe_callTy (T := "int") call_int1 (by rfl) T.b_int (by decide +kernel) (pa_cons (pe_not (pe_callB (id := "isinstance") (call_isX XC) (by rfl) T.b_isinstance (by decide +kernel) (pa_cons (pv 0) (pa_cons (pe_bltn (v := .ty "ValueError") (u := .type "ValueError") (by rfl) T.b_ValueError (by decide +kernel) rfl) pa_nil)))) pa_nil)))))))))), ?_⟩)
  · obtain ⟨a, rfl, _⟩ := h
    rfl
  · obtain ⟨a, rfl, ha, q⟩ := h
    have one : ∀ (σ : L2.St) (H1 : Hp) (C : Addr) (bb : Bool) (z : Str), σ[0]? = some (some (.ref a)) → Ex H H1 → PySem.W.kitOne K (.ref cR) (.ref C) = some bb →
        EvL (tOp rRep (tLst (tCons (tC (.str z)) tNil)) (tCB rInt1 (tCons (tCB (rIsX K cR) (tCons (tVar 0) (tCons (tC (.ref C)) tNil))) tNil))) σ H1 (List.replicate (if bb then 1 else 0 : Int).toNat [V.str z]).flatten := by
      intro σ H1 C bb z h0 e1 hk
      refine el_rep (el_lst (ea_cons ev_c ea_nil) (by show 1 ≤ 100000; decide)) (fun H2 e2 => ev_intB (ev_isX (ev_var h0) ev_c ((e1.trans e2) a _ ha) (.own C) hk)) ?_ ?_ (by show 1 ≤ 100; decide)
      · cases bb <;> decide
      · cases bb <;> decide
    have last : ∀ (σ : L2.St) (H1 : Hp), σ[0]? = some (some (.ref a)) → Ex H H1 →
        EvL (tOp rRep (tLst (tCons (tC (.str "base")) tNil)) (tCB rInt1 (tCons (tNotV (tCB (rIsX K cR) (tCons (tVar 0) (tCons (tC (.ty "ValueError")) tNil)))) tNil))) σ H1 [] := by
      intro σ H1 h0 e1
      exact el_rep (k := 0) (xs := [V.str "base"]) (el_lst (ea_cons ev_c ea_nil) (by decide)) (fun H2 e2 => ev_intB (b := false) (ev_notV (a := true) (ev_isX (ev_var h0) ev_c ((e1.trans e2) a _ ha) (.ty "ValueError") T.i_BadRing_V))) (by decide) (by decide) (by decide)
    refine q_asgL (xs := [V.str "ring"]) (el_cat (xs := []) (ys := [V.str "ring"]) (one _ H cN false _ rfl (Ex.refl H) T.i_BadRing_BadNumber) (one _ H cR true _ rfl (Ex.refl H) T.i_BadRing_BadRing) (by decide)) fun p H1 hp e1 h1 => ?_
    refine q_asgL (xs := [V.str "ring"]) (el_cat (xs := [V.str "ring"]) (ys := []) (el_catV (xs := [V.str "ring"]) (ys := []) (ev_var rfl) h1 (one _ H1 cW false _ rfl e1 T.i_BadRing_BadWord) (by decide)) (one _ H1 cO false _ rfl e1 T.i_BadRing_NoRing) (by decide)) fun p2 H2 hp2 e2 h2 => ?_
    refine q_asgL (xs := [V.str "ring"]) (el_catV (xs := [V.str "ring"]) (ys := []) (ev_var rfl) h2 (one _ H2 cM false _ rfl (e1.trans e2) T.i_BadRing_TooMany) (by decide)) fun p3 H3 hp3 e3 h3 => ?_
    refine s_ret (ev_join1 (a := [47]) (w := wRing) (ev_cS (by decide +kernel)) (el_catV (xs := [V.str (S wRing)]) (ys := []) (ev_var rfl) (by rw [h3, wRing_S]) (last _ H3 rfl ((e1.trans e2).trans e3)) (by decide)) (by decide)) fun H4 e4 => q H4 (((e1.trans e2).trans e3).trans e4)

theorem kind_word (T : Txt K mg cE cN cR cW cO cM) {f : Addr} {fd : FuncData} (F : Fun K "_law_kind" "_law_kind" s__law_kind f fd) : FnOk P w K mg base CX0 1 f fd ["_law_e"] (sp_kind cW wWord) := by
  have XC := T.exc_BadWord
  refine F.ok sc__law_kind (fun vs H Q E h => ?_) (fun cdv A outer s H vs Q E hr h => ⟨_, (pss_cons (ps_set (i := 1) sc__law_kind.nd rfl (Or.inl rfl) (pe_op op_cat (pe_op op_rep (pe_lst (pa_cons pe_str pa_nil)) (pe_callTy (T := "int") call_int1 (by rfl) T.b_int (by decide +kernel) (pa_cons (pe_callB (id := "isinstance") (call_isX XC) (by rfl) T.b_isinstance (by decide +kernel) (pa_cons (pv 0) (pa_cons (pe_glob (v := .ref cN) rfl T.k_BadNumber rfl) pa_nil))) pa_nil))) (pe_op op_rep (pe_lst (pa_cons pe_str pa_nil)) (pe_callTy (T := "int") call_int1 (by rfl) T.b_int (by decide +kernel) (pa_cons (pe_callB (id := "isinstance") (call_isX XC) (by rfl) T.b_isinstance (by decide +kernel) (pa_cons (pv 0) (pa_cons (pe_glob (v := .ref cR) rfl T.k_BadRing rfl) pa_nil))) pa_nil))))) (pss_cons (ps_set (i := 1) sc__law_kind.nd rfl (Or.inl rfl) (pe_op op_cat (pe_op op_cat (pv 1) (pe_op op_rep (pe_lst (pa_cons pe_str pa_nil)) (pe_callTy (T := "int") call_int1 (by rfl) T.b_int (by decide +kernel) (pa_cons (pe_callB (id := "isinstance") (call_isX XC) (by rfl) T.b_isinstance (by decide +kernel) (pa_cons (pv 0) (pa_cons (pe_glob (v := .ref cW) rfl T.k_BadWord rfl) pa_nil))) pa_nil)))) (pe_op op_rep (pe_lst (pa_cons pe_str pa_nil)) (pe_callTy (T := "int") call_int1 (by rfl) T.b_int (by decide +kernel) (pa_cons (pe_callB (id := "isinstance") (call_isX XC) (by rfl) T.b_isinstance (by decide +kernel) (pa_cons (pv 0) (pa_cons (pe_glob (v := .ref cO) rfl T.k_NoRing rfl) pa_nil))) pa_nil))))) (pss_cons (ps_set (i := 1) sc__law_kind.nd rfl (Or.inl rfl) (pe_op op_cat (pv 1) (pe_op op_rep (pe_lst (pa_cons pe_str pa_nil)) (pe_callTy (T := "int") call_int1 (by rfl) T.b_int (by decide +kernel) (pa_cons (pe_callB (id := "isinstance") (call_isX XC) (by rfl) T.b_isinstance (by decide +kernel) (pa_cons (pv 0) (pa_cons (pe_glob (v := .ref cM) rfl T.k_TooMany rfl) pa_nil))) pa_nil))))) (pss_one (ps_ret (pe_join pe_str (pe_op op_cat (pv 1) (pe_op op_rep (pe_lst (pa_cons pe_str pa_nil)) (pe_callTy (T := "int") call_int1 (by rfl) T.b_int (by decide +kernel) (pa_cons (pe_not (pe_callB (id := "isinstance") (call_isX XC) (by rfl) T.b_isinstance (by decide +kernel) (pa_cons (pv 0) (pa_cons (pe_bltn (v := .ty "ValueError") (u := .type "ValueError") (by rfl) T.b_ValueError (by decide +kernel) rfl) pa_nil)))) pa_nil)))))))))), ?_⟩)
  · obtain ⟨a, rfl, _⟩ := h
    rfl
  · obtain ⟨a, rfl, ha, q⟩ := h
    have one : ∀ (σ : L2.St) (H1 : Hp) (C : Addr) (bb : Bool) (z : Str), σ[0]? = some (some (.ref a)) → Ex H H1 → PySem.W.kitOne K (.ref cW) (.ref C) = some bb →
        EvL (tOp rRep (tLst (tCons (tC (.str z)) tNil)) (tCB rInt1 (tCons (tCB (rIsX K cW) (tCons (tVar 0) (tCons (tC (.ref C)) tNil))) tNil))) σ H1 (List.replicate (if bb then 1 else 0 : Int).toNat [V.str z]).flatten := by
      intro σ H1 C bb z h0 e1 hk
      refine el_rep (el_lst (ea_cons ev_c ea_nil) (by show 1 ≤ 100000; decide)) (fun H2 e2 => ev_intB (ev_isX (ev_var h0) ev_c ((e1.trans e2) a _ ha) (.own C) hk)) ?_ ?_ (by show 1 ≤ 100; decide)
      · cases bb <;> decide
      · cases bb <;> decide
    have last : ∀ (σ : L2.St) (H1 : Hp), σ[0]? = some (some (.ref a)) → Ex H H1 →
        EvL (tOp rRep (tLst (tCons (tC (.str "base")) tNil)) (tCB rInt1 (tCons (tNotV (tCB (rIsX K cW) (tCons (tVar 0) (tCons (tC (.ty "ValueError")) tNil)))) tNil))) σ H1 [] := by
      intro σ H1 h0 e1
      exact el_rep (k := 0) (xs := [V.str "base"]) (el_lst (ea_cons ev_c ea_nil) (by decide)) (fun H2 e2 => ev_intB (b := false) (ev_notV (a := true) (ev_isX (ev_var h0) ev_c ((e1.trans e2) a _ ha) (.ty "ValueError") T.i_BadWord_V))) (by decide) (by decide) (by decide)
    refine q_asgL (xs := []) (el_cat (xs := []) (ys := []) (one _ H cN false _ rfl (Ex.refl H) T.i_BadWord_BadNumber) (one _ H cR false _ rfl (Ex.refl H) T.i_BadWord_BadRing) (by decide)) fun p H1 hp e1 h1 => ?_
    refine q_asgL (xs := [V.str "word"]) (el_cat (xs := [V.str "word"]) (ys := []) (el_catV (xs := []) (ys := [V.str "word"]) (ev_var rfl) h1 (one _ H1 cW true _ rfl e1 T.i_BadWord_BadWord) (by decide)) (one _ H1 cO false _ rfl e1 T.i_BadWord_NoRing) (by decide)) fun p2 H2 hp2 e2 h2 => ?_
    refine q_asgL (xs := [V.str "word"]) (el_catV (xs := [V.str "word"]) (ys := []) (ev_var rfl) h2 (one _ H2 cM false _ rfl (e1.trans e2) T.i_BadWord_TooMany) (by decide)) fun p3 H3 hp3 e3 h3 => ?_
    refine s_ret (ev_join1 (a := [47]) (w := wWord) (ev_cS (by decide +kernel)) (el_catV (xs := [V.str (S wWord)]) (ys := []) (ev_var rfl) (by rw [h3, wWord_S]) (last _ H3 rfl ((e1.trans e2).trans e3)) (by decide)) (by decide)) fun H4 e4 => q H4 (((e1.trans e2).trans e3).trans e4)

theorem kind_none (T : Txt K mg cE cN cR cW cO cM) {f : Addr} {fd : FuncData} (F : Fun K "_law_kind" "_law_kind" s__law_kind f fd) : FnOk P w K mg base CX0 1 f fd ["_law_e"] (sp_kind cO wNone) := by
  have XC := T.exc_NoRing
  refine F.ok sc__law_kind (fun vs H Q E h => ?_) (fun cdv A outer s H vs Q E hr h => ⟨_, (pss_cons (ps_set (i := 1) sc__law_kind.nd rfl (Or.inl rfl) (pe_op op_cat (pe_op op_rep (pe_lst (pa_cons pe_str pa_nil)) (pe_callTy (T := "int") call_int1 (by rfl) T.b_int (by decide +kernel) (pa_cons (pe_callB (id := "isinstance") (call_isX XC) (by rfl) T.b_isinstance (by decide +kernel) (pa_cons (pv 0) (pa_cons (pe_glob (v := .ref cN) rfl T.k_BadNumber rfl) pa_nil))) pa_nil))) (pe_op op_rep (pe_lst (pa_cons pe_str pa_nil)) (pe_callTy (T := "int") call_int1 (by rfl) T.b_int (by decide +kernel) (pa_cons (pe_callB (id := "isinstance") (call_isX XC) (by rfl) T.b_isinstance (by decide +kernel) (pa_cons (pv 0) (pa_cons (pe_glob (v := .ref cR) rfl T.k_BadRing rfl) pa_nil))) pa_nil))))) (pss_cons (ps_set (i := 1) sc__law_kind.nd rfl (Or.inl rfl) (pe_op op_cat (pe_op op_cat (pv 1) (pe_op op_rep (pe_lst (pa_cons pe_str pa_nil)) (pe_callTy (T := "int") call_int1 (by rfl) T.b_int (by decide +kernel) (pa_cons (pe_callB (id := "isinstance") (call_isX XC) (by rfl) T.b_isinstance (by decide +kernel) (pa_cons (pv 0) (pa_cons (pe_glob (v := .ref cW) rfl T.k_BadWord rfl) pa_nil))) pa_nil)))) (pe_op op_rep (pe_lst (pa_cons pe_str pa_nil)) (pe_callTy (T := "int") call_int1 (by rfl) T.b_int (by decide +kernel) (pa_cons (pe_callB (id := "isinstance") (call_isX XC) (by rfl) T.b_isinstance (by decide +kernel) (pa_cons (pv 0) (pa_cons (pe_glob (v := .ref cO) rfl T.k_NoRing rfl) pa_nil))) pa_nil))))) (pss_cons (ps_set (i := 1) sc__law_kind.nd rfl (Or.inl rfl) (pe_op op_cat (pv 1) (pe_op op_rep (pe_lst (pa_cons pe_str pa_nil)) (pe_callTy (T := "int") call_int1 (by rfl) T.b_int (by decide +kernel) (pa_cons (pe_callB (id := "isinstance") (call_isX XC) (by rfl) T.b_isinstance (by decide +kernel) (pa_cons (pv 0) (pa_cons (pe_glob (v := .ref cM) rfl T.k_TooMany rfl) pa_nil))) pa_nil))))) (pss_one (ps_ret (pe_join pe_str (pe_op op_cat (pv 1) (pe_op op_rep (pe_lst (pa_cons pe_str pa_nil)) (pe_callTy (T := "int") call_int1 (by rfl) T.b_int (by decide +kernel) (pa_cons (pe_not (pe_callB (id := "isinstance") (call_isX XC) (by rfl) T.b_isinstance (by decide +kernel) (pa_cons (pv 0) (pa_cons (pe_bltn (v := .ty "ValueError") (u := .type "ValueError") (by rfl) T.b_ValueError (by decide +kernel) rfl) pa_nil)))) pa_nil)))))))))), ?_⟩)
  · obtain ⟨a, rfl, _⟩ := h
    rfl
  · obtain ⟨a, rfl, ha, q⟩ := h
    have one : ∀ (σ : L2.St) (H1 : Hp) (C : Addr) (bb : Bool) (z : Str), σ[0]? = some (some (.ref a)) → Ex H H1 → PySem.W.kitOne K (.ref cO) (.ref C) = some bb →
        EvL (tOp rRep (tLst (tCons (tC (.str z)) tNil)) (tCB rInt1 (tCons (tCB (rIsX K cO) (tCons (tVar 0) (tCons (tC (.ref C)) tNil))) tNil))) σ H1 (List.replicate (if bb then 1 else 0 : Int).toNat [V.str z]).flatten := by
      intro σ H1 C bb z h0 e1 hk
      refine el_rep (el_lst (ea_cons ev_c ea_nil) (by show 1 ≤ 100000; decide)) (fun H2 e2 => ev_intB (ev_isX (ev_var h0) ev_c ((e1.trans e2) a _ ha) (.own C) hk)) ?_ ?_ (by show 1 ≤ 100; decide)
      · cases bb <;> decide
      · cases bb <;> decide
    have last : ∀ (σ : L2.St) (H1 : Hp), σ[0]? = some (some (.ref a)) → Ex H H1 →
        EvL (tOp rRep (tLst (tCons (tC (.str "base")) tNil)) (tCB rInt1 (tCons (tNotV (tCB (rIsX K cO) (tCons (tVar 0) (tCons (tC (.ty "ValueError")) tNil)))) tNil))) σ H1 [] := by
      intro σ H1 h0 e1
      exact el_rep (k := 0) (xs := [V.str "base"]) (el_lst (ea_cons ev_c ea_nil) (by decide)) (fun H2 e2 => ev_intB (b := false) (ev_notV (a := true) (ev_isX (ev_var h0) ev_c ((e1.trans e2) a _ ha) (.ty "ValueError") T.i_NoRing_V))) (by decide) (by decide) (by decide)
    refine q_asgL (xs := []) (el_cat (xs := []) (ys := []) (one _ H cN false _ rfl (Ex.refl H) T.i_NoRing_BadNumber) (one _ H cR false _ rfl (Ex.refl H) T.i_NoRing_BadRing) (by decide)) fun p H1 hp e1 h1 => ?_
    refine q_asgL (xs := [V.str "none"]) (el_cat (xs := []) (ys := [V.str "none"]) (el_catV (xs := []) (ys := []) (ev_var rfl) h1 (one _ H1 cW false _ rfl e1 T.i_NoRing_BadWord) (by decide)) (one _ H1 cO true _ rfl e1 T.i_NoRing_NoRing) (by decide)) fun p2 H2 hp2 e2 h2 => ?_
    refine q_asgL (xs := [V.str "none"]) (el_catV (xs := [V.str "none"]) (ys := []) (ev_var rfl) h2 (one _ H2 cM false _ rfl (e1.trans e2) T.i_NoRing_TooMany) (by decide)) fun p3 H3 hp3 e3 h3 => ?_
    refine s_ret (ev_join1 (a := [47]) (w := wNone) (ev_cS (by decide +kernel)) (el_catV (xs := [V.str (S wNone)]) (ys := []) (ev_var rfl) (by rw [h3, wNone_S]) (last _ H3 rfl ((e1.trans e2).trans e3)) (by decide)) (by decide)) fun H4 e4 => q H4 (((e1.trans e2).trans e3).trans e4)

theorem kind_many (T : Txt K mg cE cN cR cW cO cM) {f : Addr} {fd : FuncData} (F : Fun K "_law_kind" "_law_kind" s__law_kind f fd) : FnOk P w K mg base CX0 1 f fd ["_law_e"] (sp_kind cM wMany) := by
  have XC := T.exc_TooMany
  refine F.ok sc__law_kind (fun vs H Q E h => ?_) (fun cdv A outer s H vs Q E hr h => ⟨_, (pss_cons (ps_set (i := 1) sc__law_kind.nd rfl (Or.inl rfl) (pe_op op_cat (pe_op op_rep (pe_lst (pa_cons pe_str pa_nil)) (pe_callTy (T := "int") call_int1 (by rfl) T.b_int (by decide +kernel) (pa_cons (pe_callB (id := "isinstance") (call_isX XC) (by rfl) T.b_isinstance (by decide +kernel) (pa_cons (pv 0) (pa_cons (pe_glob (v := .ref cN) rfl T.k_BadNumber rfl) pa_nil))) pa_nil))) (pe_op op_rep (pe_lst (pa_cons pe_str pa_nil)) (pe_callTy (T := "int") call_int1 (by rfl) T.b_int (by decide +kernel) (pa_cons (pe_callB (id := "isinstance") (call_isX XC) (by rfl) T.b_isinstance (by decide +kernel) (pa_cons (pv 0) (pa_cons (pe_glob (v := .ref cR) rfl T.k_BadRing rfl) pa_nil))) pa_nil))))) (pss_cons (ps_set (i := 1) sc__law_kind.nd rfl (Or.inl rfl) (pe_op op_cat (pe_op op_cat (pv 1) (pe_op op_rep (pe_lst (pa_cons pe_str pa_nil)) (pe_callTy (T := "int") call_int1 (by rfl) T.b_int (by decide +kernel) (pa_cons (pe_callB (id := "isinstance") (call_isX XC) (by rfl) T.b_isinstance (by decide +kernel) (pa_cons (pv 0) (pa_cons (pe_glob (v := .ref cW) rfl T.k_BadWord rfl) pa_nil))) pa_nil)))) (pe_op op_rep (pe_lst (pa_cons pe_str pa_nil)) (pe_callTy (T := "int") call_int1 (by rfl) T.b_int (by decide +kernel) (pa_cons (pe_callB (id := "isinstance") (call_isX XC) (by rfl) T.b_isinstance (by decide +kernel) (pa_cons (pv 0) (pa_cons (pe_glob (v := .ref cO) rfl T.k_NoRing rfl) pa_nil))) pa_nil))))) (pss_cons (ps_set (i := 1) sc__law_kind.nd rfl (Or.inl rfl) (pe_op op_cat (pv 1) (pe_op op_rep (pe_lst (pa_cons pe_str pa_nil)) (pe_callTy (T := "int") call_int1 (by rfl) T.b_int (by decide +kernel) (pa_cons (pe_callB (id := "isinstance") (call_isX XC) (by rfl) T.b_isinstance (by decide +kernel) (pa_cons (pv 0) (pa_cons (pe_glob (v := .ref cM) rfl T.k_TooMany rfl) pa_nil))) pa_nil))))) (pss_one (ps_ret (pe_join pe_str (pe_op op_cat (pv 1) (pe_op op_rep (pe_lst (pa_cons pe_str pa_nil)) (pe_callTy (T := "int") call_int1 (by rfl) T.b_int (by decide +kernel) (pa_cons (pe_not (pe_callB (id := "isinstance") (call_isX XC) (by rfl) T.b_isinstance (by decide +kernel) (pa_cons (pv 0) (pa_cons (pe_bltn (v := .ty "ValueError") (u := .type "ValueError") (by rfl) T.b_ValueError (by decide +kernel) rfl) pa_nil)))) pa_nil)))))))))), ?_⟩)
  · obtain ⟨a, rfl, _⟩ := h
    rfl
  · obtain ⟨a, rfl, ha, q⟩ := h
    have one : ∀ (σ : L2.St) (H1 : Hp) (C : Addr) (bb : Bool) (z : Str), σ[0]? = some (some (.ref a)) → Ex H H1 → PySem.W.kitOne K (.ref cM) (.ref C) = some bb →
        EvL (tOp rRep (tLst (tCons (tC (.str z)) tNil)) (tCB rInt1 (tCons (tCB (rIsX K cM) (tCons (tVar 0) (tCons (tC (.ref C)) tNil))) tNil))) σ H1 (List.replicate (if bb then 1 else 0 : Int).toNat [V.str z]).flatten := by
      intro σ H1 C bb z h0 e1 hk
      refine el_rep (el_lst (ea_cons ev_c ea_nil) (by show 1 ≤ 100000; decide)) (fun H2 e2 => ev_intB (ev_isX (ev_var h0) ev_c ((e1.trans e2) a _ ha) (.own C) hk)) ?_ ?_ (by show 1 ≤ 100; decide)
      · cases bb <;> decide
      · cases bb <;> decide
    have last : ∀ (σ : L2.St) (H1 : Hp), σ[0]? = some (some (.ref a)) → Ex H H1 →
        EvL (tOp rRep (tLst (tCons (tC (.str "base")) tNil)) (tCB rInt1 (tCons (tNotV (tCB (rIsX K cM) (tCons (tVar 0) (tCons (tC (.ty "ValueError")) tNil)))) tNil))) σ H1 [] := by
      intro σ H1 h0 e1
      exact el_rep (k := 0) (xs := [V.str "base"]) (el_lst (ea_cons ev_c ea_nil) (by decide)) (fun H2 e2 => ev_intB (b := false) (ev_notV (a := true) (ev_isX (ev_var h0) ev_c ((e1.trans e2) a _ ha) (.ty "ValueError") T.i_TooMany_V))) (by decide) (by decide) (by decide)
    refine q_asgL (xs := []) (el_cat (xs := []) (ys := []) (one _ H cN false _ rfl (Ex.refl H) T.i_TooMany_BadNumber) (one _ H cR false _ rfl (Ex.refl H) T.i_TooMany_BadRing) (by decide)) fun p H1 hp e1 h1 => ?_
    refine q_asgL (xs := []) (el_cat (xs := []) (ys := []) (el_catV (xs := []) (ys := []) (ev_var rfl) h1 (one _ H1 cW false _ rfl e1 T.i_TooMany_BadWord) (by decide)) (one _ H1 cO false _ rfl e1 T.i_TooMany_NoRing) (by decide)) fun p2 H2 hp2 e2 h2 => ?_
    refine q_asgL (xs := [V.str "many"]) (el_catV (xs := []) (ys := [V.str "many"]) (ev_var rfl) h2 (one _ H2 cM true _ rfl (e1.trans e2) T.i_TooMany_TooMany) (by decide)) fun p3 H3 hp3 e3 h3 => ?_
    refine s_ret (ev_join1 (a := [47]) (w := wMany) (ev_cS (by decide +kernel)) (el_catV (xs := [V.str (S wMany)]) (ys := []) (ev_var rfl) (by rw [h3, wMany_S]) (last _ H3 rfl ((e1.trans e2).trans e3)) (by decide)) (by decide)) fun H4 e4 => q H4 (((e1.trans e2).trans e3).trans e4)

theorem has__law_kind (T : Txt K mg cE cN cR cW cO cM) (S0 : Src K mg "_law_kind" s__law_kind ["_law_e"]) : Has P w K mg base CX0 1 "_law_kind" ["_law_e"] (sp_kinds5 cN cR cW cO cM) := by
  obtain ⟨f, fd, gm, F, b⟩ := S0
  have F1 := kind_number (P := P) (w := w) (base := base) T F
  have F2 := kind_ring (P := P) (w := w) (base := base) T F
  have F3 := kind_word (P := P) (w := w) (base := base) T F
  have F4 := kind_none (P := P) (w := w) (base := base) T F
  have F5 := kind_many (P := P) (w := w) (base := base) T F
  refine ⟨f, fd, gm, F.kp, b, ⟨fun vs H Q E h => h.elim (F1.len vs H Q E) fun h => h.elim (F2.len vs H Q E) fun h => h.elim (F3.len vs H Q E) fun h => h.elim (F4.len vs H Q E) (F5.len vs H Q E), fun A outer s H as us vs Q E hr e0 hb hv h => ?_⟩⟩
  rcases h with h | h | h | h | h
  · exact F1.run A outer s H as us vs Q E hr e0 hb hv h
  · exact F2.run A outer s H as us vs Q E hr e0 hb hv h
  · exact F3.run A outer s H as us vs Q E hr e0 hb hv h
  · exact F4.run A outer s H as us vs Q E hr e0 hb hv h
  · exact F5.run A outer s H as us vs Q E hr e0 hb hv h

theorem s_retC {sp : Sp} {E : XK} {ta : TA} {vs : List V} {D : Ends} {σ : L2.St} {H : Hp} (h : EvA ta σ H vs) (hs : ∀ H1, Ex H H1 → sp (vs ++ []) H1 (fun v H2 => D.rt v H2) E) : tRet (tCall sp [] E ta) D σ H := h H (Ex.refl H) _ fun H1 e1 => hs H1 e1
theorem has__law_called (T : Txt K mg cE cN cR cW cO cM) (S0 : Src K mg "_law_called" s__law_called ["_law_way", "_law_things"]) (D_next_ring : Has P w K mg base (L2.CX P w) 8 "next_ring" ["ring", "colours"] (sp_next_ring K cR cN)) (D_number_of : Has P w K mg base (L2.CX P w) 8 "number_of" ["ring", "colours"] (sp_number_of K cR cN cM))
    (D_all_rings : Has P w K mg base (L2.CX P w) 4 "all_rings" ["length", "colours"] (sp_all_rings K cN cM)) (D_long_word : Has P w K mg base (L2.CX P w) 5 "long_word" ["length", "colours"] (sp_long K cN cM)) (D_ring_at : Has P w K mg base (L2.CX P w) 5 "ring_at" ["number", "length", "colours"] (sp_ring_at K cN cM cO))
    (D_place_of : Has P w K mg base (L2.CX P w) 6 "place_of" ["text", "length", "colours"] (sp_place K cN cM cW)) : Has P w K mg base (L2.CX P w) 9 "_law_called" ["_law_way", "_law_things"] (sp_called K cN cR cW cO cM) := by
  obtain ⟨f, fd, gm, F, b⟩ := S0
  refine ⟨f, fd, gm, F.kp, b, F.okX sc__law_called (fun vs H Q E h => ?_) (fun cdv A outer s H vs Q E hr h => ⟨_, (pss_cons (ps_if (pt_cmpR op_eq (pv 0) pe_int (nomark _)) (pss_one (ps_ret (pe_has D_next_ring (hr.mono (by decide)) rfl (passes_call (takes_of rfl rfl rfl rfl) fun _ _ _ _ z => z) (pa_cons (pe_ix ix_list (pv 1) pe_int (fun _ _ => rfl)) (pa_cons (pe_ix ix_list (pv 1) pe_int (fun _ _ => rfl)) pa_nil))))) pss_nil) (pss_cons (ps_if (pt_cmpR op_eq (pv 0) pe_int (nomark _)) (pss_one (ps_ret (pe_has D_number_of (hr.mono (by decide)) rfl (passes_call (takes_of rfl rfl rfl rfl) fun _ _ _ _ z => z) (pa_cons (pe_ix ix_list (pv 1) pe_int (fun _ _ => rfl)) (pa_cons (pe_ix ix_list (pv 1) pe_int (fun _ _ => rfl)) pa_nil))))) pss_nil) (pss_cons (ps_if (pt_cmpR op_eq (pv 0) pe_int (nomark _)) (pss_one (ps_ret (pe_has D_all_rings (hr.mono (by decide)) rfl (passes_call (takes_of rfl rfl rfl rfl) fun _ _ _ _ z => z) (pa_cons (pe_ix ix_list (pv 1) pe_int (fun _ _ => rfl)) (pa_cons (pe_ix ix_list (pv 1) pe_int (fun _ _ => rfl)) pa_nil))))) pss_nil) (pss_cons (ps_if (pt_cmpR op_eq (pv 0) pe_int (nomark _)) (pss_one (ps_ret (pe_has D_long_word (hr.mono (by decide)) rfl (passes_call (takes_of rfl rfl rfl rfl) fun _ _ _ _ z => z) (pa_cons (pe_ix ix_list (pv 1) pe_int (fun _ _ => rfl)) (pa_cons (pe_ix ix_list (pv 1) pe_int (fun _ _ => rfl)) pa_nil))))) pss_nil) (pss_cons (ps_if (pt_cmpR op_eq (pv 0) pe_int (nomark _)) (pss_one (ps_ret (pe_has D_ring_at (hr.mono (by decide)) rfl (passes_call (takes_of rfl rfl rfl rfl) fun _ _ _ _ z => z) (pa_cons (pe_ix ix_list (pv 1) pe_int (fun _ _ => rfl)) (pa_cons (pe_ix ix_list (pv 1) pe_int (fun _ _ => rfl)) (pa_cons (pe_ix ix_list (pv 1) pe_int (fun _ _ => rfl)) pa_nil)))))) pss_nil) (pss_one (ps_ret (pe_has D_place_of (hr.mono (by decide)) rfl (passes_call (takes_of rfl rfl rfl rfl) fun _ _ _ _ z => z) (pa_cons (pe_ix ix_list (pv 1) pe_int (fun _ _ => rfl)) (pa_cons (pe_ix ix_list (pv 1) pe_int (fun _ _ => rfl)) (pa_cons (pe_ix ix_list (pv 1) pe_int (fun _ _ => rfl)) pa_nil))))))))))), ?_⟩)⟩
  · obtain ⟨way, p, xs, nm, rfl, _⟩ := h
    rfl
  · obtain ⟨way, p, xs, nm, rfl, hp, R, q0, qN, qR, qW, qO, qM⟩ := h
    obtain ⟨R0, R1, R2, R3, R4, R5⟩ := R
    have ask : ∀ (k : Int) (σ : L2.St) (H1 : Hp), σ[0]? = some (some (.int (way : Int))) → EvT (tTest (tOp rEq (tVar 0) (tC (.int k)))) σ H1 (decide ((way : Int) = k)) := fun k σ H1 h0 => et_test (ev_op (ev_var h0) ev_c rv_eqI)
    have at2 : ∀ (a b : V) (H1 : Hp), xs = [a, b] → Ex H H1 → EvA (tCons (tOp (rIxL K) (tVar 1) (tC (.int 0))) (tCons (tOp (rIxL K) (tVar 1) (tC (.int 1))) tNil)) [some (.int (way : Int)), some (.ref p)] H1 [a, b] := fun a b H1 ex e1 => by
      subst ex
      exact ea_cons (ev_op (ev_var rfl) ev_c (rv_ixL (sq_of (e1 p _ hp)) rfl)) (ea_cons (ev_op (ev_var rfl) ev_c (rv_ixL (sq_of (e1 p _ hp)) rfl)) ea_nil)
    have at3 : ∀ (a b c : V) (H1 : Hp), xs = [a, b, c] → Ex H H1 → EvA (tCons (tOp (rIxL K) (tVar 1) (tC (.int 0))) (tCons (tOp (rIxL K) (tVar 1) (tC (.int 1))) (tCons (tOp (rIxL K) (tVar 1) (tC (.int 2))) tNil))) [some (.int (way : Int)), some (.ref p)] H1 [a, b, c] := fun a b c H1 ex e1 => by
      subst ex
      exact ea_cons (ev_op (ev_var rfl) ev_c (rv_ixL (sq_of (e1 p _ hp)) rfl)) (ea_cons (ev_op (ev_var rfl) ev_c (rv_ixL (sq_of (e1 p _ hp)) rfl)) (ea_cons (ev_op (ev_var rfl) ev_c (rv_ixL (sq_of (e1 p _ hp)) rfl)) ea_nil))
    have needR : ∀ (v u : V) (w : List Nat) (H2 : Hp), Ex H H2 → ThS K H v → ThI K H u → (∀ z, kRing v u = z → z ≠ [] → nm = z) → NeedRing K cR cN v u H2 E := fun v u w H2 e2 tv tu hk => ⟨tv.mono e2, tu.mono e2, fun z => (qR (hk _ (kRing_bad z) wRing_ne)).mono e2, fun z z' => (qN (hk _ (kRing_num z z') wNumber_ne)).mono e2, fun l c el ec ok hr c1 c2 hn => (qR (hk _ (by rw [el, ec]; exact kRing_let ok hr c1 c2 hn) wRing_ne)).mono e2⟩
    have needA : ∀ (v u : V) (H2 : Hp), Ex H H2 → ThI K H v → ThI K H u → (∀ z, kAll v u = z → z ≠ [] → nm = z) → NeedLen K cN cM v u H2 E := fun v u H2 e2 tv tu hk => ⟨tv.mono e2, tu.mono e2, fun z => (qN (hk _ (kAll_len z) wNumber_ne)).mono e2, fun z z' => (qN (hk _ (kAll_num z z') wNumber_ne)).mono e2, fun n c en ec n1 n2 c1 c2 hm => (qM (hk _ (by rw [en, ec]; exact kAll_many n1 n2 c1 c2 hm) wMany_ne)).mono e2⟩
    have needL : ∀ (v u : V) (H2 : Hp), Ex H H2 → ThI K H v → ThI K H u → (∀ z, kLong v u = z → z ≠ [] → nm = z) → NeedLW K cN cM v u H2 E := fun v u H2 e2 tv tu hk => ⟨tv.mono e2, tu.mono e2, fun z => (qN (hk _ (kLong_len z) wNumber_ne)).mono e2, fun z z' => (qN (hk _ (kLong_num z z') wNumber_ne)).mono e2, fun n c en ec n1 n2 c1 c2 hm => (qM (hk _ (by rw [en, ec]; exact kLong_many n1 n2 c1 c2 hm) wMany_ne)).mono e2⟩
    refine q_when (ask 0 _ H rfl) (fun hb H1 e1 => ?_) (fun hb0 H1 e1 => ?_)
    · obtain ⟨v, u, ex, tv, tu, hk⟩ := R0 (by have := of_decide_eq_true hb; omega)
      refine s_retC (at2 v u H1 ex e1) fun H2 e2 => ⟨v, u, rfl, needR v u [] H2 (e1.trans e2) tv tu (fun z hz _ => hk.symm.trans hz), fun l c el ec ok hr c1 c2 hl o ho H3 e3 => q0 (by rw [← hk, el, ec]; exact kRing_ok ok hr c1 c2 hl) _ H3 ((e1.trans e2).trans e3)⟩
    refine q_when (ask 1 _ H1 rfl) (fun hb H2 e2 => ?_) (fun hb1 H2 e2 => ?_)
    · obtain ⟨v, u, ex, tv, tu, hk⟩ := R1 (by have := of_decide_eq_true hb; omega)
      refine s_retC (at2 v u H2 ex (e1.trans e2)) fun H3 e3 => ⟨v, u, rfl, needR v u [] H3 ((e1.trans e2).trans e3) tv tu (fun z hz hne => hk.symm.trans (kNum_bad hz hne)), fun l c el ec ok hr c1 c2 hl => ⟨fun hm => ?_, fun hm j hj H4 e4 => ?_⟩⟩
      · exact (qM (by rw [← hk, el, ec]; exact kNum_many (kRing_ok ok hr c1 c2 hl) hm)).mono ((e1.trans e2).trans e3)
      · exact q0 (by rw [← hk, el, ec]; exact kNum_ok (kRing_ok ok hr c1 c2 hl) hm) _ H4 (((e1.trans e2).trans e3).trans e4)
    have e12 := e1.trans e2
    refine q_when (ask 2 _ H2 rfl) (fun hb H3 e3 => ?_) (fun hb2 H3 e3 => ?_)
    · obtain ⟨v, u, ex, tv, tu, hk⟩ := R2 (by have := of_decide_eq_true hb; omega)
      refine s_retC (at2 v u H3 ex (e12.trans e3)) fun H4 e4 => ⟨v, u, rfl, needA v u H4 ((e12.trans e3).trans e4) tv tu (fun z hz _ => hk.symm.trans hz), fun n c en ec n1 n2 c1 c2 hm r H5 hr5 e5 h5 => q0 (by rw [← hk, en, ec]; exact kAll_ok n1 n2 c1 c2 hm) _ H5 (((e12.trans e3).trans e4).trans e5)⟩
    have e13 := e12.trans e3
    refine q_when (ask 3 _ H3 rfl) (fun hb H4 e4 => ?_) (fun hb3 H4 e4 => ?_)
    · obtain ⟨v, u, ex, tv, tu, hk⟩ := R3 (by have := of_decide_eq_true hb; omega)
      refine s_retC (at2 v u H4 ex (e13.trans e4)) fun H5 e5 => ⟨v, u, rfl, needL v u H5 ((e13.trans e4).trans e5) tv tu (fun z hz _ => hk.symm.trans hz), fun n c en ec n1 n2 c1 c2 hm H6 e6 => q0 (by rw [← hk, en, ec]; exact kLong_ok n1 n2 c1 c2 hm) _ H6 (((e13.trans e4).trans e5).trans e6)⟩
    have e14 := e13.trans e4
    refine q_when (ask 4 _ H4 rfl) (fun hb H5 e5 => ?_) (fun hb4 H5 e5 => ?_)
    · obtain ⟨x, v, u, ex, tx, tv, tu, hk⟩ := R4 (by have := of_decide_eq_true hb; omega)
      refine s_retC (at3 x v u H5 ex (e14.trans e5)) fun H6 e6 => ⟨x, v, u, rfl, tx.mono ((e14.trans e5).trans e6), needA v u H6 ((e14.trans e5).trans e6) tv tu (fun z hz hne => hk.symm.trans (kAt_bad hz hne)), fun n c en ec n1 n2 c1 c2 hm => ?_⟩
      have z := kAt_of (x := x) (kAll_ok n1 n2 c1 c2 hm)
      rw [← en, ← ec, hk] at z
      refine ⟨fun hn => ?_, fun j w ej hw H7 e7 => ?_⟩
      · rw [if_pos hn] at z
        exact (qO z).mono ((e14.trans e5).trans e6)
      · rw [if_neg] at z
        · exact q0 z _ H7 (((e14.trans e5).trans e6).trans e7)
        · have hj := (List.getElem?_eq_some_iff.mp hw).1
          rw [ej]
          show ¬ (!(decide ((0 : Int) ≤ (j : Int)) && decide ((j : Int) < ((allR (few c) n).length : Int)))) = true
          rw [decide_eq_true (by omega), decide_eq_true (by omega)]
          exact Bool.false_ne_true
    · obtain ⟨x, v, u, ex, tx, tv, tu, hk⟩ := R5 (by
        have h0 := of_decide_eq_false hb0
        have h1 := of_decide_eq_false hb1
        have h2 := of_decide_eq_false hb2
        have h3 := of_decide_eq_false hb3
        have h4 := of_decide_eq_false hb4
        omega)
      refine s_retC (at3 x v u H5 ex (e14.trans e5)) fun H6 e6 => ⟨x, v, u, rfl, tx.mono ((e14.trans e5).trans e6), needL v u H6 ((e14.trans e5).trans e6) tv tu (fun z hz hne => hk.symm.trans (kPl_bad hz hne)), fun n c en ec n1 n2 c1 c2 hm => ?_⟩
      have z := kPl_of (x := x) (kLong_ok n1 n2 c1 c2 hm)
      rw [← en, ← ec, hk] at z
      refine ⟨fun hn => ?_, fun l el hl H7 e7 => ?_⟩
      · rw [if_pos hn] at z
        exact (qW z).mono ((e14.trans e5).trans e6)
      · rw [if_neg (by rw [hl]; exact Bool.false_ne_true)] at z
        exact q0 z _ H7 (((e14.trans e5).trans e6).trans e7)

theorem has__law_said (T : Txt K mg cE cN cR cW cO cM) (S0 : Src K mg "_law_said" s__law_said ["_law_way", "_law_things"]) (D__law_called : Has P w K mg base (L2.CX P w) 9 "_law_called" ["_law_way", "_law_things"] (sp_called K cN cR cW cO cM)) (D__law_kind : Has P w K mg base CX0 1 "_law_kind" ["_law_e"] (sp_kinds5 cN cR cW cO cM)) :
    Has P w K mg base CX0 10 "_law_said" ["_law_way", "_law_things"] (sp_said5 K) := by
  obtain ⟨f, fd, gm, F, b⟩ := S0
  refine ⟨f, fd, gm, F.kp, b, F.ok sc__law_said (fun vs H Q E h => ?_) (fun cdv A outer s H vs Q E hr h => ⟨_, (pss_cons (ps_set (i := 2) sc__law_said.nd rfl (Or.inl rfl) pe_non) (pss_cons (ps_try_held (i := 3) (j := 2) (tb := fun W => _) rfl rfl rfl sc__law_said.nd rfl rfl rfl rfl (show 3 < N__law_said.length by decide) ⟨rfl, by decide, .inl T.k_BeadError⟩ (fun W pn xe tk _ => (pss_one (ps_expr (by exact (pe_hasS D__law_called (hr.mono (by decide)) rfl (fun σ => passAt tk σ) (by exact (pa_cons (pv 0) (pa_cons (pv 1) pa_nil))))))))) (pss_one (ps_ret (pe_ifExp (pt_cmpR op_isN (pv 2) pe_non (nomark _)) pe_str (pe_has D__law_kind (hr.mono (by decide)) rfl pass0 (pa_cons (pv 2) pa_nil))))))), ?_⟩)⟩
  · obtain ⟨way, p, xs, nm, rfl, _⟩ := h
    rfl
  · obtain ⟨way, p, xs, nm, rfl, hp, R, q⟩ := h
    refine q_asg (v := .non) ev_c fun H1 e1 => ?_
    refine ⟨.int (way : Int), rfl, .ref p, rfl, way, p, xs, nm, rfl, e1 p _ hp, R.mono e1, fun hn v H4 e4 => ?_,
      fun hn H5 e5 => ⟨T.hit_BadNumber, fun a ha => by
        subst hn
        dsimp only
        refine s_ret (v := .str (S wNumber)) (ev_if (b := false) (et_is (et_test (ev_op (ev_var rfl) ev_c rv_isNo)) rfl) (fun z => nomatch z) (fun _ => ev_call (ea_cons (ev_var rfl) ea_nil) fun H6 e6 Q6 q6 E6 => .inl ⟨a, rfl, e6 a _ upd_same, q6⟩)) fun H6 e6 => q H6 (((e1.trans e5).trans (Ex.new ha)).trans e6)⟩,
      fun hn H5 e5 => ⟨T.hit_BadRing, fun a ha => by
        subst hn
        dsimp only
        refine s_ret (v := .str (S wRing)) (ev_if (b := false) (et_is (et_test (ev_op (ev_var rfl) ev_c rv_isNo)) rfl) (fun z => nomatch z) (fun _ => ev_call (ea_cons (ev_var rfl) ea_nil) fun H6 e6 Q6 q6 E6 => .inr (.inl ⟨a, rfl, e6 a _ upd_same, q6⟩))) fun H6 e6 => q H6 (((e1.trans e5).trans (Ex.new ha)).trans e6)⟩,
      fun hn H5 e5 => ⟨T.hit_BadWord, fun a ha => by
        subst hn
        dsimp only
        refine s_ret (v := .str (S wWord)) (ev_if (b := false) (et_is (et_test (ev_op (ev_var rfl) ev_c rv_isNo)) rfl) (fun z => nomatch z) (fun _ => ev_call (ea_cons (ev_var rfl) ea_nil) fun H6 e6 Q6 q6 E6 => .inr (.inr (.inl ⟨a, rfl, e6 a _ upd_same, q6⟩)))) fun H6 e6 => q H6 (((e1.trans e5).trans (Ex.new ha)).trans e6)⟩,
      fun hn H5 e5 => ⟨T.hit_NoRing, fun a ha => by
        subst hn
        dsimp only
        refine s_ret (v := .str (S wNone)) (ev_if (b := false) (et_is (et_test (ev_op (ev_var rfl) ev_c rv_isNo)) rfl) (fun z => nomatch z) (fun _ => ev_call (ea_cons (ev_var rfl) ea_nil) fun H6 e6 Q6 q6 E6 => .inr (.inr (.inr (.inl ⟨a, rfl, e6 a _ upd_same, q6⟩))))) fun H6 e6 => q H6 (((e1.trans e5).trans (Ex.new ha)).trans e6)⟩,
      fun hn H5 e5 => ⟨T.hit_TooMany, fun a ha => by
        subst hn
        dsimp only
        refine s_ret (v := .str (S wMany)) (ev_if (b := false) (et_is (et_test (ev_op (ev_var rfl) ev_c rv_isNo)) rfl) (fun z => nomatch z) (fun _ => ev_call (ea_cons (ev_var rfl) ea_nil) fun H6 e6 Q6 q6 E6 => .inr (.inr (.inr (.inr ⟨a, rfl, e6 a _ upd_same, q6⟩))))) fun H6 e6 => q H6 (((e1.trans e5).trans (Ex.new ha)).trans e6)⟩⟩
    subst hn
    exact s_ret (v := .str (S [])) (ev_if (b := true) (et_is (et_test (ev_op (ev_var rfl) ev_c rv_isNo)) rfl) (fun _ => ev_cS (by decide +kernel)) (fun z => nomatch z)) fun H5 e5 => q H5 ((e1.trans e4).trans e5)

theorem ix_tupK {X : Cx} {K : PySem.W.Frag} (h : X.K = K) : IxR X (rIxT K) := by
  rw [← h]
  exact ix_tup
theorem has__law_all (T : Txt K mg cE cN cR cW cO cM) (S0 : Src K mg "_law_all" s__law_all ["_law_tried"]) (D__law_said : Has P w K mg base CX0 10 "_law_said" ["_law_way", "_law_things"] (sp_said5 K)) : Has P w K mg base CX0 11 "_law_all" ["_law_tried"] (sp_tried K) := by
  obtain ⟨f, fd, gm, F, b⟩ := S0
  refine ⟨f, fd, gm, F.kp, b, F.ok sc__law_all (fun vs H Q E h => ?_) (fun cdv A outer s H vs Q E hr h => ⟨_, (pss_one (ps_ret (pe_cmpR (op_eqD hr.units) (pe_lc (own := [("_law_one", 1)]) (g := gName 1) rfl sc__law_all.nd (pi_list (pv 0)) (blkOk_by (own := [("_law_one", 1)]) (N := N__law_all) (sc := (defScope s__law_all)) (by decide +kernel)) (fun _ _ _ _ _ => (pg_name (i := 1) sc__law_all.nd rfl (Or.inl rfl))) (fun _ _ _ _ _ => (pts_one (pt_cmpR op_ne (pe_has D__law_said (hr.mono (by decide)) rfl pass0 (pa_cons (pe_ix (ix_tupK (K := K) rfl) (pv 1) pe_int (fun _ _ => rfl)) (pa_cons (pe_ix (ix_tupK (K := K) rfl) (pv 1) pe_int (fun _ _ => rfl)) pa_nil))) (pe_ix (ix_tupK (K := K) rfl) (pv 1) pe_int (fun _ _ => rfl)) (nomark _)))) (fun _ _ _ _ _ => (pv 1))) (pe_lst pa_nil) (nomark _)))), ?_⟩)⟩
  · obtain ⟨v, n, rfl, _⟩ := h
    rfl
  · obtain ⟨v, n, rfl, hn, ⟨p, xs, rfl, hp, hl, hx⟩, q⟩ := h
    have e := el_lcL (K := K) (σ := [some (.ref p), none]) (H := H) (a := p) (xs := xs) (tl := tVar 0) (te := tVar 1) (t := tTest (tOp rNe (tCall (sp_said5 K) [] E0 (tCons (tOp (rIxT K) (tVar 1) (tC (.int 0))) (tCons (tOp (rIxT K) (tVar 1) (tC (.int 1))) tNil))) (tOp (rIxT K) (tVar 1) (tC (.int 2))))) (j := 1) (vs := [1]) (fun _ => false) (fun _ => V.non)
      (ev_var rfl) (sq_of hp) (by omega) (fun _ => rfl) (fun i x H1 e1 hi => ?_) (fun i x H1 e1 hi z => nomatch z)
    · have e2 : given xs.length (fun _ => false) (fun _ => V.non) = ([] : List Int).map V.int := by
        unfold given
        simp
      rw [e2] at e
      exact s_ret (v := .bl true) (ev_noI (K := K) e) fun H1 e1 => q H1 e1
    · obtain ⟨t, r, way, ys, nm, rfl, ht, hr', R⟩ := TryP.mono _ _ _ e1 (hx x (List.mem_of_getElem? hi))
      exact et_same (v := .str (S nm)) (ev_call (ea_cons (ev_op (ev_var rfl) ev_c (rv_ixT (st_of ht) rfl)) (ea_cons (ev_op (ev_var rfl) ev_c (rv_ixT (st_of ht) rfl)) ea_nil)) fun H2 e2 Q2 q2 E2 => ⟨way, r, ys, nm, rfl, e2 r _ hr', R.mono e2, q2⟩) (ev_op (ev_var rfl) ev_c (rv_ixT (st_of ht) rfl)) rfl

theorem has__law_rings_right (T : Txt K mg cE cN cR cW cO cM) (S0 : Src K mg "_law_rings_right" s__law_rings_right ["_law_odd", "_law_bad"]) (D__law_all : Has P w K mg base CX0 11 "_law_all" ["_law_tried"] (sp_tried K)) : Has P w K mg base CX0 12 "_law_rings_right" ["_law_odd", "_law_bad"] (sp_rightR K) := by
  obtain ⟨f, fd, gm, F, b⟩ := S0
  refine ⟨f, fd, gm, F.kp, b, F.ok sc__law_rings_right (fun vs H Q E h => ?_) (fun cdv A outer s H vs Q E hr h => ⟨_, (pss_cons (ps_set (i := 2) sc__law_rings_right.nd rfl (Or.inl rfl) (pe_lst pa_nil)) (pss_cons (ps_for PassesOwn.never rfl (pi_tup (pe_tup (pa_cons pe_int (pa_cons pe_int pa_nil)))) (pg_name (i := 3) sc__law_rings_right.nd rfl (Or.inl rfl)) (pss_cons (ps_set (i := 2) sc__law_rings_right.nd rfl (Or.inl rfl) (pe_op op_cat (pv 2) (pe_lst (pa_cons (pe_tup (pa_cons (pv 3) (pa_cons (pe_lst (pa_cons (pv 0) (pa_cons pe_int pa_nil))) (pa_cons pe_str pa_nil)))) (pa_cons (pe_tup (pa_cons (pv 3) (pa_cons (pe_lst (pa_cons (pv 0) (pa_cons (pv 1) pa_nil))) (pa_cons pe_str pa_nil)))) (pa_cons (pe_tup (pa_cons (pv 3) (pa_cons (pe_lst (pa_cons pe_str (pa_cons (pv 1) pa_nil))) (pa_cons pe_str pa_nil)))) pa_nil)))))) (pss_cons (ps_set (i := 2) sc__law_rings_right.nd rfl (Or.inl rfl) (pe_op op_cat (pv 2) (pe_lst (pa_cons (pe_tup (pa_cons (pv 3) (pa_cons (pe_lst (pa_cons pe_str (pa_cons pe_int pa_nil))) (pa_cons pe_str pa_nil)))) (pa_cons (pe_tup (pa_cons (pv 3) (pa_cons (pe_lst (pa_cons pe_str (pa_cons pe_int pa_nil))) (pa_cons pe_str pa_nil)))) pa_nil))))) (pss_one (ps_set (i := 2) sc__law_rings_right.nd rfl (Or.inl rfl) (pe_op op_cat (pv 2) (pe_lst (pa_cons (pe_tup (pa_cons (pv 3) (pa_cons (pe_lst (pa_cons pe_str (pa_cons pe_int pa_nil))) (pa_cons pe_str pa_nil)))) (pa_cons (pe_tup (pa_cons (pv 3) (pa_cons (pe_lst (pa_cons pe_str (pa_cons pe_int pa_nil))) (pa_cons pe_str pa_nil)))) (pa_cons (pe_tup (pa_cons (pv 3) (pa_cons (pe_lst (pa_cons pe_str (pa_cons pe_int pa_nil))) (pa_cons pe_str pa_nil)))) pa_nil)))))))))) (pss_cons (ps_set (i := 2) sc__law_rings_right.nd rfl (Or.inl rfl) (pe_op op_cat (pv 2) (pe_lst (pa_cons (pe_tup (pa_cons pe_int (pa_cons (pe_lst (pa_cons (pe_op op_mulS pe_str pe_int) (pa_cons pe_int pa_nil))) (pa_cons pe_str pa_nil)))) (pa_cons (pe_tup (pa_cons pe_int (pa_cons (pe_lst (pa_cons (pe_op op_mulS pe_str pe_int) (pa_cons pe_int pa_nil))) (pa_cons pe_str pa_nil)))) (pa_cons (pe_tup (pa_cons pe_int (pa_cons (pe_lst (pa_cons (pe_op op_mulS pe_str pe_int) (pa_cons pe_int pa_nil))) (pa_cons pe_str pa_nil)))) pa_nil)))))) (pss_one (ps_ret (pe_has D__law_all (hr.mono (by decide)) rfl pass0 (pa_cons (pe_op op_cat (pv 2) (pe_lst (pa_cons (pe_tup (pa_cons pe_int (pa_cons (pe_lst (pa_cons (pe_op op_add_str (pe_op op_mulS pe_str pe_int) pe_str) (pa_cons pe_int pa_nil))) (pa_cons pe_str pa_nil)))) (pa_cons (pe_tup (pa_cons pe_int (pa_cons (pe_lst (pa_cons (pe_op op_mulS pe_str pe_int) (pa_cons pe_int pa_nil))) (pa_cons pe_str pa_nil)))) pa_nil)))) pa_nil))))))), ?_⟩)⟩
  · obtain ⟨v, u, rfl, _⟩ := h
    rfl
  · obtain ⟨v, u, rfl, tv, hv, tu, hu, q⟩ := h
    refine q_lstT (K := K) (n := 0) eall_nil (by decide) fun r0 ys0 H1 hr0 e1 hT0 hl0 => ?_
    refine q_forNT (xs := [.int 0, .int 1]) (eu_tup (ea_cons ev_c (ea_cons ev_c ea_nil)) (by show 2 ≤ 100000; decide)) (fun t i σ' H' => (∃ r ys b3, σ' = [some v, some u, some (.ref r), b3] ∧ TrL K r ys H' ∧ ys.length = 8 * i) ∧ Ex H H' ∧ H' t = some (.tup [.int 0, .int 1]))
      (fun t H2 ht e2 h2 => ⟨⟨r0, ys0, _, rfl, hT0.mono e2, by omega⟩, e1.trans e2, h2⟩) (fun t i σ' H' _ z => st_of z.2.2) ?_ ?_
    · rintro t i x σ' H2 hx ⟨⟨r, ys, b3, rfl, hT, hl⟩, EE, ht⟩
      obtain ⟨way, hw, rfl, hi⟩ : ∃ way : Nat, way ≤ 1 ∧ x = .int (way : Int) ∧ i ≤ 1 := by
        match i, hx with
        | 0, hx => exact ⟨0, by decide, (Option.some.inj hx).symm, by decide⟩
        | 1, hx => exact ⟨1, by decide, (Option.some.inj hx).symm, by decide⟩
        | i + 2, hx => cases hx
      refine q_catT rfl hT (eall_cons TryP.mono (try2 (way := way) (a := v) (b := (V.int 3)) (nm := wRing) (ev_var rfl) (ev_var rfl) ev_c (ev_cS (l := wRing) (by decide +kernel)) (fun H9 e9 => right01 hw (tv.mono (EE.trans e9)) (th_int _) (kRing_bad hv) (kNum_bad (kRing_bad hv) wRing_ne))) (eall_cons TryP.mono (try2 (way := way) (a := v) (b := u) (nm := wRing) (ev_var rfl) (ev_var rfl) (ev_var rfl) (ev_cS (l := wRing) (by decide +kernel)) (fun H9 e9 => right01 hw (tv.mono (EE.trans e9)) (tu.mono (EE.trans e9)) (kRing_bad hv) (kNum_bad (kRing_bad hv) wRing_ne))) (eall_cons TryP.mono (try2 (way := way) (a := (V.str (S [97, 97, 98]))) (b := u) (nm := wNumber) (ev_var rfl) (ev_cS (l := [97, 97, 98]) (by decide +kernel)) (ev_var rfl) (ev_cS (l := wNumber) (by decide +kernel)) (fun H9 e9 => right01 hw (th_txt (by decide)) (tu.mono (EE.trans e9)) (kRing_num (by decide +kernel) hu) (kNum_bad (kRing_num (by decide +kernel) hu) wNumber_ne))) eall_nil))) (by omega) fun r1 ys1 H3 hr1 e3 hT1 hl1 => ?_
      refine q_catT rfl hT1 (eall_cons TryP.mono (try2 (way := way) (a := (V.str (S [97, 97, 98]))) (b := (V.int 2)) (nm := []) (ev_var rfl) (ev_cS (l := [97, 97, 98]) (by decide +kernel)) ev_c (ev_cS (l := []) (by decide +kernel)) (fun H9 e9 => right01 hw (th_txt (by decide)) (th_int _) (by decide +kernel) (by decide +kernel))) (eall_cons TryP.mono (try2 (way := way) (a := (V.str (S [97, 97, 98]))) (b := (V.int 1)) (nm := wRing) (ev_var rfl) (ev_cS (l := [97, 97, 98]) (by decide +kernel)) ev_c (ev_cS (l := wRing) (by decide +kernel)) (fun H9 e9 => right01 hw (th_txt (by decide)) (th_int _) (by decide +kernel) (by decide +kernel))) eall_nil)) (by omega) fun r2 ys2 H4 hr2 e4 hT2 hl2 => ?_
      refine s_catT rfl hT2 (eall_cons TryP.mono (try2 (way := way) (a := (V.str (S [97, 98, 104]))) (b := (V.int 7)) (nm := wRing) (ev_var rfl) (ev_cS (l := [97, 98, 104]) (by decide +kernel)) ev_c (ev_cS (l := wRing) (by decide +kernel)) (fun H9 e9 => right01 hw (th_txt (by decide)) (th_int _) (by decide +kernel) (by decide +kernel))) (eall_cons TryP.mono (try2 (way := way) (a := (V.str (S [97, 98, 104]))) (b := (V.int 8)) (nm := []) (ev_var rfl) (ev_cS (l := [97, 98, 104]) (by decide +kernel)) ev_c (ev_cS (l := []) (by decide +kernel)) (fun H9 e9 => right01 hw (th_txt (by decide)) (th_int _) (by decide +kernel) (by decide +kernel))) (eall_cons TryP.mono (try2 (way := way) (a := (V.str (S [97, 99, 98]))) (b := (V.int 2)) (nm := wRing) (ev_var rfl) (ev_cS (l := [97, 99, 98]) (by decide +kernel)) ev_c (ev_cS (l := wRing) (by decide +kernel)) (fun H9 e9 => right01 hw (th_txt (by decide)) (th_int _) (by decide +kernel) (by decide +kernel))) eall_nil))) (by omega) fun r3 ys3 H5 hr3 e5 hT3 hl3 => ⟨⟨r3, ys3, _, rfl, hT3, by omega⟩, ((EE.trans e3).trans e4).trans e5, ((e3.trans e4).trans e5) t _ ht⟩
    · rintro t σ' H2 ⟨⟨r, ys, b3, rfl, hT, hl⟩, EE, ht⟩
      have hl : ys.length = 16 := hl
      refine q_catT rfl hT (eall_cons TryP.mono (try2 (way := 1) (a := (V.str (S (List.replicate 10 [97, 98]).flatten))) (b := (V.int 2)) (nm := wMany) ev_c (ev_op (ev_cS (l := [97, 98]) (by decide +kernel)) ev_c (rv_mulS (n := 10) rfl (by decide) (by decide))) ev_c (ev_cS (l := wMany) (by decide +kernel)) (fun H9 e9 => right1 (th_txt (by decide)) (th_int _) (by decide +kernel))) (eall_cons TryP.mono (try2 (way := 1) (a := (V.str (S (List.replicate 16 [97]).flatten))) (b := (V.int 2)) (nm := wMany) ev_c (ev_op (ev_cS (l := [97]) (by decide +kernel)) ev_c (rv_mulS (n := 16) rfl (by decide) (by decide))) ev_c (ev_cS (l := wMany) (by decide +kernel)) (fun H9 e9 => right1 (th_txt (by decide)) (th_int _) (by decide +kernel))) (eall_cons TryP.mono (try2 (way := 0) (a := (V.str (S (List.replicate 60 [97]).flatten))) (b := (V.int 8)) (nm := []) ev_c (ev_op (ev_cS (l := [97]) (by decide +kernel)) ev_c (rv_mulS (n := 60) rfl (by decide) (by decide))) ev_c (ev_cS (l := []) (by decide +kernel)) (fun H9 e9 => right0 (th_txt (by decide)) (th_int _) (by decide +kernel))) eall_nil))) (by omega) fun r1 ys1 H3 hr1 e3 hT1 hl1 => ?_
      refine s_ret (v := .bl true) (ev_callP (P := AllP (TryP K) (ys1.length + 2)) (ep_catAll TryP.mono (ev_var rfl) hT1.1 hT1.all (eall_cons TryP.mono (try2 (way := 1) (a := (V.str (S ((List.replicate 16 [97]).flatten ++ [98])))) (b := (V.int 1)) (nm := wRing) ev_c (ev_op (ev_op (ev_cS (l := [97]) (by decide +kernel)) ev_c (rv_mulS (n := 16) rfl (by decide) (by decide))) (ev_cS (l := [98]) (by decide +kernel)) (rv_catS (by decide))) ev_c (ev_cS (l := wRing) (by decide +kernel)) (fun H9 e9 => right1 (th_txt (by decide)) (th_int _) (by decide +kernel))) (eall_cons TryP.mono (try2 (way := 1) (a := (V.str (S (List.replicate 60 [97]).flatten))) (b := (V.int 1)) (nm := []) ev_c (ev_op (ev_cS (l := [97]) (by decide +kernel)) ev_c (rv_mulS (n := 60) rfl (by decide) (by decide))) ev_c (ev_cS (l := []) (by decide +kernel)) (fun H9 e9 => right1 (th_txt (by decide)) (th_int _) (by decide +kernel))) eall_nil)) (by omega)) fun v9 H9 e9 hv9 Q9 q9 => ⟨v9, _, rfl, by omega, hv9, q9⟩) fun H9 e9 => q H9 ((EE.trans e3).trans e9)

theorem has__law_bounds_right (T : Txt K mg cE cN cR cW cO cM) (S0 : Src K mg "_law_bounds_right" s__law_bounds_right []) (D__law_all : Has P w K mg base CX0 11 "_law_all" ["_law_tried"] (sp_tried K)) : Has P w K mg base CX0 12 "_law_bounds_right" [] sp_rightB := by
  obtain ⟨f, fd, gm, F, b⟩ := S0
  refine ⟨f, fd, gm, F.kp, b, F.ok sc__law_bounds_right (fun vs H Q E h => ?_) (fun cdv A outer s H vs Q E hr h => ⟨_, (pss_cons (ps_set (i := 0) sc__law_bounds_right.nd rfl (Or.inl rfl) (pe_lst (pa_cons (pe_tup (pa_cons pe_int (pa_cons (pe_lst (pa_cons pe_int (pa_cons pe_int pa_nil))) (pa_cons pe_str pa_nil)))) (pa_cons (pe_tup (pa_cons pe_int (pa_cons (pe_lst (pa_cons pe_int (pa_cons pe_int pa_nil))) (pa_cons pe_str pa_nil)))) (pa_cons (pe_tup (pa_cons pe_int (pa_cons (pe_lst (pa_cons pe_int (pa_cons pe_int pa_nil))) (pa_cons pe_str pa_nil)))) (pa_cons (pe_tup (pa_cons pe_int (pa_cons (pe_lst (pa_cons pe_int (pa_cons pe_int pa_nil))) (pa_cons pe_str pa_nil)))) (pa_cons (pe_tup (pa_cons pe_int (pa_cons (pe_lst (pa_cons (pe_op op_mulS pe_str pe_int) (pa_cons pe_int pa_nil))) (pa_cons pe_str pa_nil)))) pa_nil))))))) (pss_cons (ps_set (i := 0) sc__law_bounds_right.nd rfl (Or.inl rfl) (pe_op op_cat (pv 0) (pe_lst (pa_cons (pe_tup (pa_cons pe_int (pa_cons (pe_lst (pa_cons pe_int (pa_cons pe_int pa_nil))) (pa_cons pe_str pa_nil)))) (pa_cons (pe_tup (pa_cons pe_int (pa_cons (pe_lst (pa_cons pe_int (pa_cons pe_int pa_nil))) (pa_cons pe_str pa_nil)))) (pa_cons (pe_tup (pa_cons pe_int (pa_cons (pe_lst (pa_cons pe_int (pa_cons pe_int pa_nil))) (pa_cons pe_str pa_nil)))) (pa_cons (pe_tup (pa_cons pe_int (pa_cons (pe_lst (pa_cons pe_str (pa_cons pe_int pa_nil))) (pa_cons pe_str pa_nil)))) pa_nil))))))) (pss_cons (ps_set (i := 0) sc__law_bounds_right.nd rfl (Or.inl rfl) (pe_op op_cat (pv 0) (pe_lst (pa_cons (pe_tup (pa_cons pe_int (pa_cons (pe_lst (pa_cons pe_str (pa_cons pe_int (pa_cons pe_int pa_nil)))) (pa_cons pe_str pa_nil)))) (pa_cons (pe_tup (pa_cons pe_int (pa_cons (pe_lst (pa_cons pe_str (pa_cons pe_int (pa_cons pe_int pa_nil)))) (pa_cons pe_str pa_nil)))) (pa_cons (pe_tup (pa_cons pe_int (pa_cons (pe_lst (pa_cons pe_str (pa_cons pe_int pa_nil))) (pa_cons pe_str pa_nil)))) pa_nil)))))) (pss_cons (ps_set (i := 0) sc__law_bounds_right.nd rfl (Or.inl rfl) (pe_op op_cat (pv 0) (pe_lst (pa_cons (pe_tup (pa_cons pe_int (pa_cons (pe_lst (pa_cons pe_str (pa_cons pe_int pa_nil))) (pa_cons pe_str pa_nil)))) (pa_cons (pe_tup (pa_cons pe_int (pa_cons (pe_lst (pa_cons pe_int (pa_cons pe_int (pa_cons pe_int pa_nil)))) (pa_cons pe_str pa_nil)))) (pa_cons (pe_tup (pa_cons pe_int (pa_cons (pe_lst (pa_cons pe_int (pa_cons pe_int pa_nil))) (pa_cons pe_str pa_nil)))) (pa_cons (pe_tup (pa_cons pe_int (pa_cons (pe_lst (pa_cons pe_int (pa_cons pe_int pa_nil))) (pa_cons pe_str pa_nil)))) pa_nil))))))) (pss_one (ps_ret (pe_has D__law_all (hr.mono (by decide)) rfl pass0 (pa_cons (pe_op op_cat (pv 0) (pe_lst (pa_cons (pe_tup (pa_cons pe_int (pa_cons (pe_lst (pa_cons pe_int (pa_cons pe_int pa_nil))) (pa_cons pe_str pa_nil)))) (pa_cons (pe_tup (pa_cons pe_int (pa_cons (pe_lst (pa_cons pe_int (pa_cons pe_int pa_nil))) (pa_cons pe_str pa_nil)))) (pa_cons (pe_tup (pa_cons pe_int (pa_cons (pe_lst (pa_cons pe_str (pa_cons pe_int (pa_cons pe_int pa_nil)))) (pa_cons pe_str pa_nil)))) pa_nil))))) pa_nil)))))))), ?_⟩)⟩
  · obtain ⟨rfl, _⟩ := h
    rfl
  · obtain ⟨rfl, q⟩ := h
    refine q_lstT (K := K) (eall_cons TryP.mono (try2 (way := 2) (a := (V.int 15)) (b := (V.int 2)) (nm := []) ev_c ev_c ev_c (ev_cS (l := []) (by decide +kernel)) (fun H9 e9 => right2 (th_int _) (th_int _) (by decide +kernel))) (eall_cons TryP.mono (try2 (way := 2) (a := (V.int 6)) (b := (V.int 5)) (nm := []) ev_c ev_c ev_c (ev_cS (l := []) (by decide +kernel)) (fun H9 e9 => right2 (th_int _) (th_int _) (by decide +kernel))) (eall_cons TryP.mono (try2 (way := 2) (a := (V.int 5)) (b := (V.int 7)) (nm := wMany) ev_c ev_c ev_c (ev_cS (l := wMany) (by decide +kernel)) (fun H9 e9 => right2 (th_int _) (th_int _) (by decide +kernel))) (eall_cons TryP.mono (try2 (way := 2) (a := (V.int 16)) (b := (V.int 2)) (nm := wMany) ev_c ev_c ev_c (ev_cS (l := wMany) (by decide +kernel)) (fun H9 e9 => right2 (th_int _) (th_int _) (by decide +kernel))) (eall_cons TryP.mono (try2 (way := 1) (a := (V.str (S (List.replicate 15 [97]).flatten))) (b := (V.int 2)) (nm := []) ev_c (ev_op (ev_cS (l := [97]) (by decide +kernel)) ev_c (rv_mulS (n := 15) rfl (by decide) (by decide))) ev_c (ev_cS (l := []) (by decide +kernel)) (fun H9 e9 => right1 (th_txt (by decide)) (th_int _) (by decide +kernel))) eall_nil))))) (by decide) fun r0 ys0 H1 hr0 e1 hT0 hl0 => ?_
    refine q_catT rfl hT0 (eall_cons TryP.mono (try2 (way := 2) (a := (V.int 61)) (b := (V.int 1)) (nm := wNumber) ev_c ev_c ev_c (ev_cS (l := wNumber) (by decide +kernel)) (fun H9 e9 => right2 (th_int _) (th_int _) (by decide +kernel))) (eall_cons TryP.mono (try2 (way := 3) (a := (V.int 61)) (b := (V.int 1)) (nm := wNumber) ev_c ev_c ev_c (ev_cS (l := wNumber) (by decide +kernel)) (fun H9 e9 => right3 (th_int _) (th_int _) (by decide +kernel))) (eall_cons TryP.mono (try2 (way := 2) (a := (V.int 3)) (b := (V.int 9)) (nm := wNumber) ev_c ev_c ev_c (ev_cS (l := wNumber) (by decide +kernel)) (fun H9 e9 => right2 (th_int _) (th_int _) (by decide +kernel))) (eall_cons TryP.mono (try2 (way := 1) (a := (V.str (S [97, 97, 98]))) (b := (V.int 9)) (nm := wNumber) ev_c (ev_cS (l := [97, 97, 98]) (by decide +kernel)) ev_c (ev_cS (l := wNumber) (by decide +kernel)) (fun H9 e9 => right1 (th_txt (by decide)) (th_int _) (by decide +kernel))) eall_nil)))) (by omega) fun r1 ys1 H2 hr1 e2 hT1 hl1 => ?_
    refine q_catT rfl hT1 (eall_cons TryP.mono (try3 (way := 5) (a := (V.str (S [98, 97, 97, 97]))) (b := (V.int 4)) (c := (V.int 1)) (nm := wWord) ev_c (ev_cS (l := [98, 97, 97, 97]) (by decide +kernel)) ev_c ev_c (ev_cS (l := wWord) (by decide +kernel)) (fun H9 e9 => right5 (th_txt (by decide)) (th_int _) (th_int _) (by decide +kernel))) (eall_cons TryP.mono (try3 (way := 5) (a := (V.str (S [97, 99, 97, 97]))) (b := (V.int 4)) (c := (V.int 2)) (nm := wWord) ev_c (ev_cS (l := [97, 99, 97, 97]) (by decide +kernel)) ev_c ev_c (ev_cS (l := wWord) (by decide +kernel)) (fun H9 e9 => right5 (th_txt (by decide)) (th_int _) (th_int _) (by decide +kernel))) (eall_cons TryP.mono (try2 (way := 0) (a := (V.str (S [97, 99, 98]))) (b := (V.int 3)) (nm := []) ev_c (ev_cS (l := [97, 99, 98]) (by decide +kernel)) ev_c (ev_cS (l := []) (by decide +kernel)) (fun H9 e9 => right0 (th_txt (by decide)) (th_int _) (by decide +kernel))) eall_nil))) (by omega) fun r2 ys2 H3 hr2 e3 hT2 hl2 => ?_
    refine q_catT rfl hT2 (eall_cons TryP.mono (try2 (way := 1) (a := (V.str (S [97, 97, 97, 97, 103]))) (b := (V.int 7)) (nm := wMany) ev_c (ev_cS (l := [97, 97, 97, 97, 103]) (by decide +kernel)) ev_c (ev_cS (l := wMany) (by decide +kernel)) (fun H9 e9 => right1 (th_txt (by decide)) (th_int _) (by decide +kernel))) (eall_cons TryP.mono (try3 (way := 4) (a := (V.int 0)) (b := (V.int 5)) (c := (V.int 7)) (nm := wMany) ev_c ev_c ev_c ev_c (ev_cS (l := wMany) (by decide +kernel)) (fun H9 e9 => right4 (th_int _) (th_int _) (th_int _) (by decide +kernel))) (eall_cons TryP.mono (try2 (way := 3) (a := (V.int 11)) (b := (V.int 2)) (nm := []) ev_c ev_c ev_c (ev_cS (l := []) (by decide +kernel)) (fun H9 e9 => right3 (th_int _) (th_int _) (by decide +kernel))) (eall_cons TryP.mono (try2 (way := 3) (a := (V.int 4)) (b := (V.int 7)) (nm := []) ev_c ev_c ev_c (ev_cS (l := []) (by decide +kernel)) (fun H9 e9 => right3 (th_int _) (th_int _) (by decide +kernel))) eall_nil)))) (by omega) fun r3 ys3 H4 hr3 e4 hT3 hl3 => ?_
    refine s_ret (v := .bl true) (ev_callP (P := AllP (TryP K) (ys3.length + 3)) (ep_catAll TryP.mono (ev_var rfl) hT3.1 hT3.all (eall_cons TryP.mono (try2 (way := 3) (a := (V.int 5)) (b := (V.int 5)) (nm := wMany) ev_c ev_c ev_c (ev_cS (l := wMany) (by decide +kernel)) (fun H9 e9 => right3 (th_int _) (th_int _) (by decide +kernel))) (eall_cons TryP.mono (try2 (way := 3) (a := (V.int 12)) (b := (V.int 2)) (nm := wMany) ev_c ev_c ev_c (ev_cS (l := wMany) (by decide +kernel)) (fun H9 e9 => right3 (th_int _) (th_int _) (by decide +kernel))) (eall_cons TryP.mono (try3 (way := 5) (a := (V.str (S [97, 97, 97, 97, 97]))) (b := (V.int 5)) (c := (V.int 5)) (nm := wMany) ev_c (ev_cS (l := [97, 97, 97, 97, 97]) (by decide +kernel)) ev_c ev_c (ev_cS (l := wMany) (by decide +kernel)) (fun H9 e9 => right5 (th_txt (by decide)) (th_int _) (th_int _) (by decide +kernel))) eall_nil))) (by omega)) fun v9 H9 e9 hv9 Q9 q9 => ⟨v9, _, rfl, by omega, hv9, q9⟩) fun H9 e9 => q H9 ((((e1.trans e2).trans e3).trans e4).trans e9)

theorem has__law_sizes_right (T : Txt K mg cE cN cR cW cO cM) (S0 : Src K mg "_law_sizes_right" s__law_sizes_right ["_law_length", "_law_bad"]) (D__law_all : Has P w K mg base CX0 11 "_law_all" ["_law_tried"] (sp_tried K)) : Has P w K mg base CX0 12 "_law_sizes_right" ["_law_length", "_law_bad"] (sp_rightS K) := by
  obtain ⟨f, fd, gm, F, b⟩ := S0
  refine ⟨f, fd, gm, F.kp, b, F.ok sc__law_sizes_right (fun vs H Q E h => ?_) (fun cdv A outer s H vs Q E hr h => ⟨_, (pss_cons (ps_set (i := 2) sc__law_sizes_right.nd rfl (Or.inl rfl) (pe_lst pa_nil)) (pss_cons (ps_for PassesOwn.never rfl (pi_tup (pe_tup (pa_cons pe_int (pa_cons pe_int pa_nil)))) (pg_name (i := 3) sc__law_sizes_right.nd rfl (Or.inl rfl)) (pss_cons (ps_set (i := 2) sc__law_sizes_right.nd rfl (Or.inl rfl) (pe_op op_cat (pv 2) (pe_lst (pa_cons (pe_tup (pa_cons (pv 3) (pa_cons (pe_lst (pa_cons (pv 0) (pa_cons pe_int pa_nil))) (pa_cons pe_str pa_nil)))) (pa_cons (pe_tup (pa_cons (pv 3) (pa_cons (pe_lst (pa_cons (pv 0) (pa_cons (pv 1) pa_nil))) (pa_cons pe_str pa_nil)))) (pa_cons (pe_tup (pa_cons (pv 3) (pa_cons (pe_lst (pa_cons pe_int (pa_cons (pv 1) pa_nil))) (pa_cons pe_str pa_nil)))) pa_nil)))))) (pss_one (ps_set (i := 2) sc__law_sizes_right.nd rfl (Or.inl rfl) (pe_op op_cat (pv 2) (pe_lst (pa_cons (pe_tup (pa_cons (pv 3) (pa_cons (pe_lst (pa_cons pe_int (pa_cons pe_int pa_nil))) (pa_cons pe_str pa_nil)))) (pa_cons (pe_tup (pa_cons (pv 3) (pa_cons (pe_lst (pa_cons pe_int (pa_cons pe_int pa_nil))) (pa_cons pe_str pa_nil)))) (pa_cons (pe_tup (pa_cons (pv 3) (pa_cons (pe_lst (pa_cons pe_int (pa_cons pe_int pa_nil))) (pa_cons pe_str pa_nil)))) pa_nil))))))))) (pss_cons (ps_for PassesOwn.never rfl (pi_tup (pe_tup (pa_cons pe_int (pa_cons pe_int pa_nil)))) (pg_name (i := 3) sc__law_sizes_right.nd rfl (Or.inl rfl)) (pss_one (ps_for PassesOwn.never rfl (pi_tup (pe_tup (pa_cons pe_non (pa_cons pe_int (pa_cons pe_str pa_nil))))) (pg_name (i := 4) sc__law_sizes_right.nd rfl (Or.inl rfl)) (pss_cons (ps_set (i := 2) sc__law_sizes_right.nd rfl (Or.inl rfl) (pe_op op_cat (pv 2) (pe_lst (pa_cons (pe_tup (pa_cons (pv 3) (pa_cons (pe_lst (pa_cons (pv 4) (pa_cons (pv 0) (pa_cons pe_int pa_nil)))) (pa_cons pe_str pa_nil)))) (pa_cons (pe_tup (pa_cons (pv 3) (pa_cons (pe_lst (pa_cons (pv 4) (pa_cons pe_int (pa_cons (pv 1) pa_nil)))) (pa_cons pe_str pa_nil)))) pa_nil))))) (pss_one (ps_expr (pe_bm PySem.F.plainAttrs_list PySem.F.slot_list_append PySem.F.type_list_append mt_append (pv 2) (pa_cons (pe_tup (pa_cons (pv 3) (pa_cons (pe_lst (pa_cons (pv 4) (pa_cons pe_int (pa_cons pe_int pa_nil)))) (pa_cons pe_str pa_nil)))) pa_nil)))))))) (pss_one (ps_ret (pe_has D__law_all (hr.mono (by decide)) rfl pass0 (pa_cons (pv 2) pa_nil))))))), ?_⟩)⟩
  · obtain ⟨v, u, rfl, _⟩ := h
    rfl
  · obtain ⟨v, u, rfl, tv, hv, tu, hu, q⟩ := h
    refine q_lstT (K := K) (n := 0) eall_nil (by decide) fun r0 ys0 H1 hr0 e1 hT0 hl0 => ?_
    refine q_forNT (xs := [.int 2, .int 3]) (eu_tup (ea_cons ev_c (ea_cons ev_c ea_nil)) (by show 2 ≤ 100000; decide)) (fun t i σ' H' => (∃ r ys b3, σ' = [some v, some u, some (.ref r), b3, none] ∧ TrL K r ys H' ∧ ys.length = 6 * i) ∧ Ex H H' ∧ H' t = some (.tup [.int 2, .int 3]))
      (fun t H2 ht e2 h2 => ⟨⟨r0, ys0, _, rfl, hT0.mono e2, by omega⟩, e1.trans e2, h2⟩) (fun t i σ' H' _ z => st_of z.2.2) ?_ ?_
    · rintro t i x σ' H2 hx ⟨⟨r, ys, b3, rfl, hT, hl⟩, EE, ht⟩
      obtain ⟨way, hw, rfl, hi⟩ : ∃ way : Nat, (way = 2 ∨ way = 3) ∧ x = .int (way : Int) ∧ i ≤ 1 := by
        match i, hx with
        | 0, hx => exact ⟨2, by decide, (Option.some.inj hx).symm, by decide⟩
        | 1, hx => exact ⟨3, by decide, (Option.some.inj hx).symm, by decide⟩
        | i + 2, hx => cases hx
      refine q_catT rfl hT (eall_cons TryP.mono (try2 (way := way) (a := v) (b := (V.int 2)) (nm := wNumber) (ev_var rfl) (ev_var rfl) ev_c (ev_cS (l := wNumber) (by decide +kernel)) (fun H9 e9 => right23 hw (tv.mono (EE.trans e9)) (th_int _) (kAll_len hv) (kLong_len hv))) (eall_cons TryP.mono (try2 (way := way) (a := v) (b := u) (nm := wNumber) (ev_var rfl) (ev_var rfl) (ev_var rfl) (ev_cS (l := wNumber) (by decide +kernel)) (fun H9 e9 => right23 hw (tv.mono (EE.trans e9)) (tu.mono (EE.trans e9)) (kAll_len hv) (kLong_len hv))) (eall_cons TryP.mono (try2 (way := way) (a := (V.int 4)) (b := u) (nm := wNumber) (ev_var rfl) ev_c (ev_var rfl) (ev_cS (l := wNumber) (by decide +kernel)) (fun H9 e9 => right23 hw (th_int _) (tu.mono (EE.trans e9)) (kAll_num (by decide +kernel) hu) (kLong_num (by decide +kernel) hu))) eall_nil))) (by omega) fun r1 ys1 H3 hr1 e3 hT1 hl1 => ?_
      refine s_catT rfl hT1 (eall_cons TryP.mono (try2 (way := way) (a := (V.int 60)) (b := (V.int 1)) (nm := []) (ev_var rfl) ev_c ev_c (ev_cS (l := []) (by decide +kernel)) (fun H9 e9 => right23 hw (th_int _) (th_int _) (by decide +kernel) (by decide +kernel))) (eall_cons TryP.mono (try2 (way := way) (a := (V.int 60)) (b := (V.int 2)) (nm := wMany) (ev_var rfl) ev_c ev_c (ev_cS (l := wMany) (by decide +kernel)) (fun H9 e9 => right23 hw (th_int _) (th_int _) (by decide +kernel) (by decide +kernel))) (eall_cons TryP.mono (try2 (way := way) (a := (V.int 1)) (b := (V.int 8)) (nm := []) (ev_var rfl) ev_c ev_c (ev_cS (l := []) (by decide +kernel)) (fun H9 e9 => right23 hw (th_int _) (th_int _) (by decide +kernel) (by decide +kernel))) eall_nil))) (by omega) fun r3 ys3 H5 hr3 e5 hT3 hl3 => ⟨⟨r3, ys3, _, rfl, hT3, by omega⟩, (EE.trans e3).trans e5, (e3.trans e5) t _ ht⟩
    · rintro t0 σ' H2 ⟨⟨r, ys, b3, rfl, hT, hl⟩, e2, _⟩
      have hl : ys.length = 12 := hl
      refine q_forNT (xs := [.int 4, .int 5]) (eu_tup (ea_cons ev_c (ea_cons ev_c ea_nil)) (by show 2 ≤ 100000; decide)) (fun t i σ' H' => (∃ r ys b3 b4, σ' = [some v, some u, some (.ref r), b3, b4] ∧ TrL K r ys H' ∧ ys.length = 12 + 9 * i) ∧ Ex H H' ∧ H' t = some (.tup [.int 4, .int 5]))
        (fun t H3 ht e3 h3 => ⟨⟨r, ys, _, _, rfl, hT.mono e3, by omega⟩, e2.trans e3, h3⟩) (fun t i σ' H' _ z => st_of z.2.2) ?_ ?_
      · rintro t i x σ' H3 hx ⟨⟨r, ys, b3, b4, rfl, hT, hl⟩, e3, ht⟩
        obtain ⟨way, hw, rfl, hi⟩ : ∃ way : Nat, (way = 4 ∨ way = 5) ∧ x = .int (way : Int) ∧ i ≤ 1 := by
          match i, hx with
          | 0, hx => exact ⟨4, by decide, (Option.some.inj hx).symm, by decide⟩
          | 1, hx => exact ⟨5, by decide, (Option.some.inj hx).symm, by decide⟩
          | i + 2, hx => cases hx
        refine s_forNT (xs := [.non, .int 0, .str (S [97, 98])]) (eu_tup (ea_cons ev_c (ea_cons ev_c (ea_cons (ev_cS (l := [97, 98]) (by decide +kernel)) ea_nil))) (by show 3 ≤ 100000; decide)) (fun t2 j σ' H' => (∃ r ys b4, σ' = [some v, some u, some (.ref r), some (.int (way : Int)), b4] ∧ TrL K r ys H' ∧ ys.length = 12 + 9 * i + 3 * j) ∧ Ex H3 H' ∧ H' t2 = some (.tup [.non, .int 0, .str (S [97, 98])]))
          (fun t2 H4 ht2 e4 h4 => ⟨⟨r, ys, _, rfl, hT.mono e4, by omega⟩, e4, h4⟩) (fun t2 j σ' H' _ z => st_of z.2.2) ?_ ?_
        · rintro t2 j x σ' H4 hx2 ⟨⟨r, ys, b4, rfl, hT, hl⟩, e4, ht2⟩
          obtain ⟨tx, tx2, hj⟩ : (∀ H9 : Hp, ThI K H9 x) ∧ (∀ H9 : Hp, ThS K H9 x) ∧ j ≤ 2 := by
            match j, hx2 with
            | 0, hx2 =>
              obtain rfl := Option.some.inj hx2
              exact ⟨fun _ => bad_non.1, fun _ => odd_non.1, by decide⟩
            | 1, hx2 =>
              obtain rfl := Option.some.inj hx2
              exact ⟨fun _ => th_int _, fun _ => odd_int.1, by decide⟩
            | 2, hx2 =>
              obtain rfl := Option.some.inj hx2
              exact ⟨fun _ => bad_str.1, fun _ => th_txt (by decide), by decide⟩
            | j + 3, hx2 => cases hx2
          have EE := e3.trans e4
          refine q_catT rfl hT (eall_cons TryP.mono (try3 (way := way) (a := x) (b := v) (c := (V.int 2)) (nm := wNumber) (ev_var rfl) (ev_var rfl) (ev_var rfl) ev_c (ev_cS (l := wNumber) (by decide +kernel)) (fun H9 e9 => right45 hw (tx _) (tx2 _) (tv.mono (EE.trans e9)) (th_int _) (kAt_bad (kAll_len hv) wNumber_ne) (kPl_bad (kLong_len hv) wNumber_ne))) (eall_cons TryP.mono (try3 (way := way) (a := x) (b := (V.int 4)) (c := u) (nm := wNumber) (ev_var rfl) (ev_var rfl) ev_c (ev_var rfl) (ev_cS (l := wNumber) (by decide +kernel)) (fun H9 e9 => right45 hw (tx _) (tx2 _) (th_int _) (tu.mono (EE.trans e9)) (kAt_bad (kAll_num (by decide +kernel) hu) wNumber_ne) (kPl_bad (kLong_num (by decide +kernel) hu) wNumber_ne))) eall_nil)) (by omega) fun r1 ys1 H5 hr1 e5 hT1 hl1 => ?_
          have HP := hT1.1
          refine s_appT (B := H4) hr1 e5 hT1 (ev_var rfl) (try3E HP (way := way) (a := x) (b := (V.int 60)) (c := (V.int 8)) (nm := wMany) (ev_var rfl) (ev_var rfl) ev_c ev_c (ev_cS (l := wMany) (by decide +kernel)) (fun H9 e9 => right45 hw (tx _) (tx2 _) (th_int _) (th_int _) (kAt_bad (w := wMany) (by decide +kernel) wMany_ne) (kPl_bad (w := wMany) (by decide +kernel) wMany_ne))) (by omega) fun ys2 H6 e6 hT2 hl2 => ⟨⟨r1, ys2, _, rfl, hT2, by omega⟩, e4.trans e6, e6 t2 _ ht2⟩
        · rintro t2 σ' H4 ⟨⟨r, ys, b4, rfl, hT, hl⟩, e4, ht2⟩
          have hl : ys.length = 12 + 9 * i + 9 := hl
          exact ⟨⟨r, ys, _, _, rfl, hT, by omega⟩, e3.trans e4, e4 t _ ht⟩
      · rintro t σ' H3 ⟨⟨r, ys, b3, b4, rfl, hT, hl⟩, e3, ht⟩
        have hl : ys.length = 30 := hl
        refine s_ret (v := .bl true) (ev_callP (P := AllP (TryP K) ys.length) (ep_of (ev_var rfl) fun H9 e9 => ⟨r, ys, rfl, e9 r _ hT.1, rfl, fun x hx => TryP.mono x _ _ e9 (hT.all x hx)⟩) fun v9 H9 e9 hv9 Q9 q9 => ⟨v9, _, rfl, by omega, hv9, q9⟩) fun H9 e9 => q H9 (e3.trans e9)

theorem noNum_int {L : Nat} {i : Int} (h : i < 0 ∨ (L : Int) ≤ i) : noNum L (.int i) = true := by
  show (!(decide (0 ≤ i) && decide (i < L))) = true
  rw [Bool.not_eq_true', Bool.and_eq_false_iff, decide_eq_false_iff_not, decide_eq_false_iff_not]
  omega
theorem noNum_at {L : Nat} {i : Int} (h0 : 0 ≤ i) (h : i < (L : Int)) : noNum L (.int i) = false := by
  show (!(decide (0 ≤ i) && decide (i < L))) = false
  rw [decide_eq_true h0, decide_eq_true h]
  rfl
theorem last_all : ((List.range 5).all fun i => (List.range 4).all fun j => decide (ringsN (1 + i) (1 + j) = ((allR (few (1 + j)) (1 + i)).length : Int)) && decide (1 ≤ (allR (few (1 + j)) (1 + i)).length) && decide ((1 + j) ^ (1 + i) ≤ 3000) && decide (ringsN (1 + i) (1 + j) ≤ 3000) && (!noRead (1 + i) (1 + j) (.str (S (List.replicate (1 + i) 97)))) &&
    ([List.replicate (1 + i + 1) 97, List.replicate (1 + i - 1) 97, [], List.replicate (1 + i) 122, List.replicate (1 + i) 65, List.replicate (1 + i - 1) 97 ++ [97 + (1 + j)]].all fun w => noRead (1 + i) (1 + j) (.str (S w)))) = true := by decide +kernel
theorem last_of {n c : Nat} (n1 : 1 ≤ n) (n2 : n ≤ 5) (c1 : 1 ≤ c) (c2 : c ≤ 4) : ringsN n c = ((allR (few c) n).length : Int) ∧ 1 ≤ (allR (few c) n).length ∧ c ^ n ≤ 3000 ∧ ringsN n c ≤ 3000 ∧ noRead n c (.str (S (List.replicate n 97))) = false ∧
    ∀ w ∈ [List.replicate (n + 1) 97, List.replicate (n - 1) 97, [], List.replicate n 122, List.replicate n 65, List.replicate (n - 1) 97 ++ [97 + c]], noRead n c (.str (S w)) = true := by
  have z := List.all_eq_true.mp (List.all_eq_true.mp last_all (n - 1) (List.mem_range.mpr (by omega))) (c - 1) (List.mem_range.mpr (by omega))
  rw [show 1 + (n - 1) = n by omega, show 1 + (c - 1) = c by omega] at z
  simp only [Bool.and_eq_true, decide_eq_true_eq, Bool.not_eq_true'] at z
  obtain ⟨⟨⟨⟨⟨a, b⟩, c⟩, d⟩, e⟩, f⟩ := z
  exact ⟨a, b, c, d, e, fun w hw => List.all_eq_true.mp f w hw⟩
section
variable {K : PySem.W.Frag} {σ : L2.St} {H : Hp} {ta te : TE} {t : TA} {P : V → Hp → Prop} {D : Ends} {tu tz : TS}
theorem ep_lstX {r : Addr} {o : HO} {xs : List V} (h : EvL te σ H xs) (hr : H r = some o) (hp : ∀ p H2, p ≠ r → Ex H H2 → H2 p = some (.lst xs) → P (.ref p) H2) : EvP te σ H P := fun H1 e Q q => h H1 e Q fun p H2 hp1 e2 h2 => q _ H2 e2 (hp p H2 (fun z => by
  rw [z, e r _ hr] at hp1
  cases hp1) (e.trans e2) h2)
theorem q_forAT {n j : Nat} (h : EvAll t σ H n P) (hn : n ≤ 1000) (Pv : Addr → List V → Nat → L2.St → Hp → Prop) (h0 : ∀ p xs H0, Ex H H0 → xs.length = n → (∀ x ∈ xs, P x H0) → H0 p = none → Pv p xs 0 σ (upd H0 p (.tup xs))) (hl : ∀ p xs i σ' H', Pv p xs i σ' H' → SqT K H' p xs)
    (hs : ∀ p xs i x σ' H', xs[i]? = some x → Pv p xs i σ' H' → tu { D with nx := Pv p xs (i + 1), ct := Pv p xs (i + 1), bk := tz D } (σ'.set j (some x)) H') (hd : ∀ p xs σ' H', Pv p xs n σ' H' → tz D σ' H') : tSeq (tFor (iTup K (tTup t)) (gName j) tu) tz D σ H :=
  h H (Ex.refl H) _ fun xs H2 e2 hl2 hv => ⟨sz_of (by omega), fun p hp => ⟨p, rfl, ⟨xs, st_of upd_same⟩, for_tup (D := { D with nx := tz D }) (Pv p xs) (h0 p xs H2 e2 hl2 hv hp) (fun i σ' H' _ => hl p xs i σ' H') (fun i x σ' H' hx z => hs p xs i x σ' H' hx z) (fun σ' H' z => hd p xs σ' H' (by rw [hl2] at z; exact z))⟩⟩
theorem s_appT2 {p : Addr} {xs : List V} (hT : TrL K p xs H) (ha : Ev ta σ H (.ref p)) (h : TryE K te σ H p) (hz : xs.length < 1000) (k : ∀ ys H1, Ex (off p H) (off p H1) → TrL K p ys H1 → ys.length = xs.length + 1 → D.nx σ H1) :
    tDrop (tBM K "list" rAppend ta (tCons te tNil)) D σ H := ha H (Ex.refl H) _ fun H1 e1 =>
  ⟨Or.inl ⟨rfl, xs, sq_of (e1 p _ hT.1)⟩, h H1 e1 _ fun v H2 e2 hv => ⟨p, xs, v, rfl, rfl, (e1.trans e2) p _ hT.1, sz_lt (by omega), k (xs ++ [v]) _ (by rw [off_upd]; exact ex_off2 (e1.trans e2)) ⟨upd_same, fun x hm => by
    rw [off_upd]
    rcases List.mem_append.mp hm with hm | hm
    · exact TryP.mono x _ _ (ex_off2 (e1.trans e2)) (hT.2 x hm)
    · rw [List.mem_singleton.mp hm]
      exact hv⟩ (by rw [List.length_append]; rfl)⟩⟩
end
def NoP (K : PySem.W.Frag) (L : Nat) (v : V) (H : Hp) : Prop := ThI K H v ∧ noNum L v = true
def WdP (K : PySem.W.Frag) (n c : Nat) (v : V) (H : Hp) : Prop := ThS K H v ∧ noRead n c v = true

theorem has__law_last_right (T : Txt K mg cE cN cR cW cO cM) (S0 : Src K mg "_law_last_right" s__law_last_right ["_law_length", "_law_colours", "_law_cell"]) (D_many_rings : Has P w K mg base (L2.CX P w) 3 "many_rings" ["length", "colours"] (sp_many K cN ringsN)) (D__law_all : Has P w K mg base CX0 11 "_law_all" ["_law_tried"] (sp_tried K)) : Has P w K mg base CX0 12 "_law_last_right" ["_law_length", "_law_colours", "_law_cell"] sp_rightL := by
  obtain ⟨f, fd, gm, F, b⟩ := S0
  refine ⟨f, fd, gm, F.kp, b, F.ok sc__law_last_right (fun vs H Q E h => ?_) (fun cdv A outer s H vs Q E hr h => ⟨_, (pss_cons (ps_set (i := 3) sc__law_last_right.nd rfl (Or.inl rfl) (pe_has D_many_rings (hr.mono (by decide)) rfl passL (pa_cons (pv 0) (pa_cons (pv 1) pa_nil)))) (pss_cons (ps_set (i := 4) sc__law_last_right.nd rfl (Or.inl rfl) (pe_lst pa_nil)) (pss_cons (ps_for PassesOwn.never rfl (pi_tup (pe_tup (pa_cons (pe_op op_sub (pe_un un_neg pe_int) (pv 2)) (pa_cons (pv 3) (pa_cons (pe_op op_add (pv 3) (pv 2)) (pa_cons pe_non (pa_cons pe_bl (pa_cons pe_str (pa_cons (pe_lst (pa_cons pe_int pa_nil)) (pa_cons pe_bl pa_nil)))))))))) (pg_name (i := 5) sc__law_last_right.nd rfl (Or.inl rfl)) (pss_one (ps_expr (pe_bm PySem.F.plainAttrs_list PySem.F.slot_list_append PySem.F.type_list_append mt_append (pv 4) (pa_cons (pe_tup (pa_cons pe_int (pa_cons (pe_lst (pa_cons (pv 5) (pa_cons (pv 0) (pa_cons (pv 1) pa_nil)))) (pa_cons pe_str pa_nil)))) pa_nil))))) (pss_cons (ps_set (i := 6) sc__law_last_right.nd rfl (Or.inl rfl) (pe_op op_add_str (pe_op op_mulS pe_str (pe_op op_sub (pv 0) pe_int)) (pe_ix ix_str pe_str (pe_callB (id := "min") (call_min2 rfl) (by rfl) T.b_min (by decide +kernel) (pa_cons pe_int (pa_cons (pv 1) pa_nil))) (fun _ _ => rfl)))) (pss_cons (ps_for PassesOwn.never rfl (pi_tup (pe_tup (pa_cons (pe_op op_mulS pe_str (pe_op op_add (pv 0) pe_int)) (pa_cons (pe_op op_mulS pe_str (pe_op op_sub (pv 0) pe_int)) (pa_cons pe_str (pa_cons pe_non (pa_cons pe_int (pa_cons (pe_lst (pa_cons pe_str pa_nil)) (pa_cons (pe_op op_mulS pe_str (pv 0)) (pa_cons (pe_op op_mulS pe_str (pv 0)) (pa_cons pe_bl pa_nil))))))))))) (pg_name (i := 5) sc__law_last_right.nd rfl (Or.inl rfl)) (pss_one (ps_expr (pe_bm PySem.F.plainAttrs_list PySem.F.slot_list_append PySem.F.type_list_append mt_append (pv 4) (pa_cons (pe_tup (pa_cons pe_int (pa_cons (pe_lst (pa_cons (pv 5) (pa_cons (pv 0) (pa_cons (pv 1) pa_nil)))) (pa_cons pe_str pa_nil)))) pa_nil))))) (pss_cons (ps_set (i := 4) sc__law_last_right.nd rfl (Or.inl rfl) (pe_op op_cat (pv 4) (pe_lst (pa_cons (pe_tup (pa_cons pe_int (pa_cons (pe_lst (pa_cons pe_int (pa_cons (pv 0) (pa_cons (pv 1) pa_nil)))) (pa_cons pe_str pa_nil)))) (pa_cons (pe_tup (pa_cons pe_int (pa_cons (pe_lst (pa_cons (pe_op op_sub (pv 3) pe_int) (pa_cons (pv 0) (pa_cons (pv 1) pa_nil)))) (pa_cons pe_str pa_nil)))) pa_nil))))) (pss_one (ps_ret (pe_has D__law_all (hr.mono (by decide)) rfl pass0 (pa_cons (pe_op op_cat (pv 4) (pe_lst (pa_cons (pe_tup (pa_cons pe_int (pa_cons (pe_lst (pa_cons (pe_op op_mulS pe_str (pv 0)) (pa_cons (pv 0) (pa_cons (pv 1) pa_nil)))) (pa_cons pe_str pa_nil)))) (pa_cons (pe_tup (pa_cons pe_int (pa_cons (pe_lst (pa_cons (pv 6) (pa_cons (pv 0) (pa_cons (pv 1) pa_nil)))) (pa_cons pe_str pa_nil)))) pa_nil)))) pa_nil)))))))))), ?_⟩)⟩
  · obtain ⟨n, c, k, rfl, _⟩ := h
    rfl
  · obtain ⟨n, c, k, rfl, n1, n2, c1, c2, k1, q⟩ := h
    obtain ⟨hL, hL1, hp, hm3, w0, ws⟩ := last_of n1 n2 c1 c2
    have kA := kAll_ok n1 (show n ≤ 60 by omega) c1 (show c ≤ 8 by omega) hm3
    have kL := kLong_ok n1 (show n ≤ 60 by omega) c1 (show c ≤ 8 by omega) hp
    have w1 := ws (List.replicate (n + 1) 97) (by simp)
    have w2 := ws (List.replicate (n - 1) 97) (by simp)
    have w3 := ws [] (by simp)
    have w4 := ws (List.replicate n 122) (by simp)
    have w5 := ws (List.replicate n 65) (by simp)
    have w6 := ws (List.replicate (n - 1) 97 ++ [97 + c]) (by simp)
    clear ws
    refine q_asg (v := .int (ringsN n c)) (ev_call (ea_cons (ev_var rfl) (ea_cons (ev_var rfl) ea_nil)) fun H4 e4 Q4 q4 E4 => ⟨.int (n : Int), .int (c : Int), rfl, th_int _, th_int _, fun z => absurd (z.symm.trans (inB_ok (top := 60) n1 (by omega))) Bool.false_ne_true, fun _ z => absurd (z.symm.trans (inB_ok (top := 8) c1 (by omega))) Bool.false_ne_true, fun n' c' en ec _ _ _ _ => by
      have en' : (n : Int) = (n' : Int) := V.int.inj en
      have ec' : (c : Int) = (c' : Int) := V.int.inj ec
      have en'' : n = n' := by omega
      have ec'' : c = c' := by omega
      subst en'' ec''
      exact q4⟩) fun H1 e1 => ?_
    refine q_lstT (K := K) (n := 0) eall_nil (by decide) fun r0 ys0 H2 hr0 e2 hT0 hl0 => ?_
    have HR := hT0.1
    have eo0 : Ex H1 (off r0 H2) := ex_off hr0 e2
    have tne : ∀ (t : Addr) (H0 : Hp) (o : HO), H0 r0 = some o → H0 t = none → t ≠ r0 := fun t H0 o h1 h2 z => by
      rw [z, h1] at h2
      cases h2
    refine q_forAT (n := 8) (P := fun v H9 => NoP K (allR (few c) n).length v (off r0 H9)) (eall_cons (fun v H1 H2 e h => ⟨h.1.mono (ex_off2 e), h.2⟩) (ep_of (ev_op (ev_un ev_c ru_neg) (ev_var rfl) rv_I0) fun _ _ => ⟨th_int _, noNum_int (.inl (by omega))⟩) (eall_cons (fun v H1 H2 e h => ⟨h.1.mono (ex_off2 e), h.2⟩) (ep_of (ev_var rfl) fun _ _ => ⟨th_int _, noNum_int (.inr (by omega))⟩) (eall_cons (fun v H1 H2 e h => ⟨h.1.mono (ex_off2 e), h.2⟩) (ep_of (ev_op (ev_var rfl) (ev_var rfl) rv_I0) fun _ _ => ⟨th_int _, noNum_int (.inr (by omega))⟩) (eall_cons (fun v H1 H2 e h => ⟨h.1.mono (ex_off2 e), h.2⟩) (ep_of ev_c fun _ _ => ⟨bad_non.1, rfl⟩) (eall_cons (fun v H1 H2 e h => ⟨h.1.mono (ex_off2 e), h.2⟩) (ep_of ev_c fun _ _ => ⟨bad_bl.1, rfl⟩) (eall_cons (fun v H1 H2 e h => ⟨h.1.mono (ex_off2 e), h.2⟩) (ep_of ev_c fun _ _ => ⟨bad_str.1, rfl⟩) (eall_cons (fun v H1 H2 e h => ⟨h.1.mono (ex_off2 e), h.2⟩) (ep_lstX (el_lst (ea_cons ev_c ea_nil) (by show 1 ≤ 100000; decide)) HR fun p9 H9 np _ h9 => ⟨(bad_lst ((off_ne _ np).trans h9)).1, rfl⟩) (eall_cons (fun v H1 H2 e h => ⟨h.1.mono (ex_off2 e), h.2⟩) (ep_of ev_c fun _ _ => ⟨bad_bl.1, rfl⟩) eall_nil)))))))) (by decide) (fun t xs i σ' H' => (∃ ys b5, σ' = [some (.int (n : Int)), some (.int (c : Int)), some (.int (k : Int)), some (.int (ringsN n c)), some (.ref r0), b5, none] ∧ TrL K r0 ys H' ∧ ys.length = i) ∧ Ex H1 (off r0 H') ∧ off r0 H' t = some (.tup xs) ∧ xs.length = 8 ∧ ∀ x ∈ xs, NoP K (allR (few c) n).length x (off r0 H'))
      (fun t xs H0 e0 hxl hxs ht => ⟨⟨ys0, _, rfl, hT0.mono (e0.trans (Ex.new ht)), by omega⟩, eo0.trans (ex_off2 (e0.trans (Ex.new ht))), by rw [off_ne _ (tne t H0 _ (e0 r0 _ HR) ht)]; exact upd_same, hxl, fun x hx => ⟨(hxs x hx).1.mono (ex_off2 (Ex.new ht)), (hxs x hx).2⟩⟩) (fun t xs i σ' H' z => st_of (off_ex r0 H' t _ z.2.2.1)) ?_ ?_
    · rintro t xs i x σ' H3 hx ⟨⟨ys, b5, rfl, hT, hl⟩, eo, ht, hxl, hxs⟩
      have hi : i < xs.length := (List.getElem?_eq_some_iff.mp hx).1
      have hm := List.mem_of_getElem? hx
      refine s_appT2 hT (ev_var rfl) (try3E hT.1 (way := 4) (a := x) (b := (V.int (n : Int))) (c := (V.int (c : Int))) (nm := wNone) ev_c (ev_var rfl) (ev_var rfl) (ev_var rfl) (ev_cS (l := wNone) (by decide +kernel)) (fun H9 e9 => right4 ((hxs x hm).1.mono (ex_off2 e9)) (th_int _) (th_int _) ((kAt_of kA).trans (if_pos (hxs x hm).2)))) (by omega) fun ys2 H4 e4 hT2 hl2 => ⟨⟨ys2, _, rfl, hT2, by omega⟩, eo.trans e4, e4 t _ ht, hxl, fun y hy => ⟨(hxs y hy).1.mono e4, (hxs y hy).2⟩⟩
    rintro t xs σ' H3 ⟨⟨ys, b5, rfl, hT, hl⟩, eo, _⟩
    clear HR
    have HR := hT.1
    have at_ : atI abc (if (c : Int) < 7 then (c : Int) else 7) = some (97 + c) := by
      rw [if_pos (by omega)]
      rcases (show c = 1 ∨ c = 2 ∨ c = 3 ∨ c = 4 by omega) with z | z | z | z <;> subst z <;> rfl
    refine q_asg (v := .str (S (List.replicate (n - 1) 97 ++ [97 + c]))) (ev_op (x := .str (S (List.replicate (n - 1) 97))) (ev_is (ev_op (ev_cS (l := [97]) (by decide +kernel)) (ev_op (ev_var rfl) ev_c rv_I0) (rv_mulS (n := n - 1) (by omega) (by omega) (by decide))) (by rw [rep_ones])) (ev_op (ev_cS (l := abc) abc_S) (ev_minI ev_c (ev_var rfl)) (rv_ixW (by decide) at_)) (rv_catS (by rw [List.length_replicate, List.length_singleton]; omega))) fun H4 e4 => ?_
    have hT4 := hT.mono e4
    have HR4 := hT4.1
    have eo4 := eo.trans (ex_off2 e4)
    clear HR
    have HR := HR4
    refine q_forAT (n := 9) (P := fun v H9 => WdP K n c v (off r0 H9)) (eall_cons (fun v H1 H2 e h => ⟨h.1.mono (ex_off2 e), h.2⟩) (ep_of (v := .str (S (List.replicate (n + 1) 97))) (ev_is (ev_op (ev_cS (l := [97]) (by decide +kernel)) (ev_op (ev_var rfl) ev_c rv_I0) (rv_mulS (n := (n + 1)) (by omega) (by omega) (by decide))) (by rw [rep_ones])) fun _ _ => ⟨th_txt (by rw [List.length_replicate]; omega), w1⟩) (eall_cons (fun v H1 H2 e h => ⟨h.1.mono (ex_off2 e), h.2⟩) (ep_of (v := .str (S (List.replicate (n - 1) 97))) (ev_is (ev_op (ev_cS (l := [97]) (by decide +kernel)) (ev_op (ev_var rfl) ev_c rv_I0) (rv_mulS (n := (n - 1)) (by omega) (by omega) (by decide))) (by rw [rep_ones])) fun _ _ => ⟨th_txt (by rw [List.length_replicate]; omega), w2⟩) (eall_cons (fun v H1 H2 e h => ⟨h.1.mono (ex_off2 e), h.2⟩) (ep_of (v := .str (S [])) (ev_cS (by decide +kernel)) fun _ _ => ⟨th_txt (by decide), w3⟩) (eall_cons (fun v H1 H2 e h => ⟨h.1.mono (ex_off2 e), h.2⟩) (ep_of ev_c fun _ _ => ⟨odd_non.1, rfl⟩) (eall_cons (fun v H1 H2 e h => ⟨h.1.mono (ex_off2 e), h.2⟩) (ep_of ev_c fun _ _ => ⟨odd_int.1, rfl⟩) (eall_cons (fun v H1 H2 e h => ⟨h.1.mono (ex_off2 e), h.2⟩) (ep_lstX (el_lst (ea_cons ev_c ea_nil) (by show 1 ≤ 100000; decide)) HR fun p9 H9 np _ h9 => ⟨(odd_lst ((off_ne _ np).trans h9)).1, rfl⟩) (eall_cons (fun v H1 H2 e h => ⟨h.1.mono (ex_off2 e), h.2⟩) (ep_of (v := .str (S (List.replicate n 122))) (ev_is (ev_op (ev_cS (l := [122]) (by decide +kernel)) (ev_var rfl) (rv_mulS (n := n) (by omega) (by omega) (by decide))) (by rw [rep_ones])) fun _ _ => ⟨th_txt (by rw [List.length_replicate]; omega), w4⟩) (eall_cons (fun v H1 H2 e h => ⟨h.1.mono (ex_off2 e), h.2⟩) (ep_of (v := .str (S (List.replicate n 65))) (ev_is (ev_op (ev_cS (l := [65]) (by decide +kernel)) (ev_var rfl) (rv_mulS (n := n) (by omega) (by omega) (by decide))) (by rw [rep_ones])) fun _ _ => ⟨th_txt (by rw [List.length_replicate]; omega), w5⟩) (eall_cons (fun v H1 H2 e h => ⟨h.1.mono (ex_off2 e), h.2⟩) (ep_of ev_c fun _ _ => ⟨odd_bl.1, rfl⟩) eall_nil))))))))) (by decide) (fun t xs i σ' H' => (∃ ys b5, σ' = [some (.int (n : Int)), some (.int (c : Int)), some (.int (k : Int)), some (.int (ringsN n c)), some (.ref r0), b5, some (.str (S (List.replicate (n - 1) 97 ++ [97 + c])))] ∧ TrL K r0 ys H' ∧ ys.length = 8 + i) ∧ Ex H1 (off r0 H') ∧ off r0 H' t = some (.tup xs) ∧ xs.length = 9 ∧ ∀ x ∈ xs, WdP K n c x (off r0 H'))
      (fun t xs H0 e0 hxl hxs ht => ⟨⟨ys, _, rfl, hT4.mono (e0.trans (Ex.new ht)), by omega⟩, eo4.trans (ex_off2 (e0.trans (Ex.new ht))), by rw [off_ne _ (tne t H0 _ (e0 r0 _ HR) ht)]; exact upd_same, hxl, fun x hx => ⟨(hxs x hx).1.mono (ex_off2 (Ex.new ht)), (hxs x hx).2⟩⟩) (fun t xs i σ' H' z => st_of (off_ex r0 H' t _ z.2.2.1)) ?_ ?_
    · rintro t xs i x σ' H3 hx ⟨⟨ys, b5, rfl, hT, hl⟩, eo, ht, hxl, hxs⟩
      have hi : i < xs.length := (List.getElem?_eq_some_iff.mp hx).1
      have hm := List.mem_of_getElem? hx
      refine s_appT2 hT (ev_var rfl) (try3E hT.1 (way := 5) (a := x) (b := (V.int (n : Int))) (c := (V.int (c : Int))) (nm := wWord) ev_c (ev_var rfl) (ev_var rfl) (ev_var rfl) (ev_cS (l := wWord) (by decide +kernel)) (fun H9 e9 => right5 ((hxs x hm).1.mono (ex_off2 e9)) (th_int _) (th_int _) ((kPl_of kL).trans (if_pos (hxs x hm).2)))) (by omega) fun ys2 H4 e4 hT2 hl2 => ⟨⟨ys2, _, rfl, hT2, by omega⟩, eo.trans e4, e4 t _ ht, hxl, fun y hy => ⟨(hxs y hy).1.mono e4, (hxs y hy).2⟩⟩
    rintro t xs σ' H5 ⟨⟨ys5, b5', rfl, hT5, hl5⟩, eo5, _⟩
    refine q_catT rfl hT5 (eall_cons TryP.mono (try3 (way := 4) (a := (V.int 0)) (b := (V.int (n : Int))) (c := (V.int (c : Int))) (nm := []) ev_c ev_c (ev_var rfl) (ev_var rfl) (ev_cS (l := []) (by decide +kernel)) (fun H9 e9 => right4 (th_int _) (th_int _) (th_int _) ((kAt_of kA).trans (if_neg (by rw [noNum_at (by omega) (by omega)]; exact Bool.false_ne_true))))) (eall_cons TryP.mono (try3 (way := 4) (a := (V.int (ringsN n c - 1))) (b := (V.int (n : Int))) (c := (V.int (c : Int))) (nm := []) ev_c (ev_op (ev_var rfl) ev_c rv_I0) (ev_var rfl) (ev_var rfl) (ev_cS (l := []) (by decide +kernel)) (fun H9 e9 => right4 (th_int _) (th_int _) (th_int _) ((kAt_of kA).trans (if_neg (by rw [noNum_at (by omega) (by omega)]; exact Bool.false_ne_true))))) eall_nil)) (by omega) fun r6 ys6 H6 hr6 e6 hT6 hl6 => ?_
    have EF := ((e1.trans eo5).trans (off_ex r0 H5)).trans e6
    refine s_ret (v := .bl true) (ev_callP (P := AllP (TryP K) (ys6.length + 2)) (ep_catAll TryP.mono (ev_var rfl) hT6.1 hT6.all (eall_cons TryP.mono (try3 (way := 5) (a := (V.str (S (List.replicate n 97)))) (b := (V.int (n : Int))) (c := (V.int (c : Int))) (nm := []) ev_c (ev_is (ev_op (ev_cS (l := [97]) (by decide +kernel)) (ev_var rfl) (rv_mulS (n := n) (by omega) (by omega) (by decide))) (by rw [rep_ones])) (ev_var rfl) (ev_var rfl) (ev_cS (l := []) (by decide +kernel)) (fun H9 e9 => right5 (th_txt (by rw [List.length_replicate]; omega)) (th_int _) (th_int _) ((kPl_of kL).trans (if_neg (by rw [w0]; exact Bool.false_ne_true))))) (eall_cons TryP.mono (try3 (way := 5) (a := (V.str (S (List.replicate (n - 1) 97 ++ [97 + c])))) (b := (V.int (n : Int))) (c := (V.int (c : Int))) (nm := wWord) ev_c (ev_var rfl) (ev_var rfl) (ev_var rfl) (ev_cS (l := wWord) (by decide +kernel)) (fun H9 e9 => right5 (th_txt (by rw [List.length_append, List.length_replicate, List.length_singleton]; omega)) (th_int _) (th_int _) ((kPl_of kL).trans (if_pos w6)))) eall_nil)) (by omega)) fun v9 H9 e9 hv9 Q9 q9 => ⟨v9, _, rfl, by omega, hv9, q9⟩) fun H9 e9 => q H9 (EF.trans e9)

theorem pe_has0 {X : Cx} {C : CXT} {k : Nat} {sp : Sp} {E : XK} {x : Str} {p pos : Pos} (D : Has X.prog X.w X.K X.mg X.base C k x [] sp) (hr : Room k X.A) (hg : Gl X x) (hx : Passes C X E) (hdb : (x == ("__debug__" : Str)) = false := by decide) :
    PE X (.Call (.Name x p) [] [] pos) (tCall sp [] E tNil) := by
  obtain ⟨f, fd, gm, kp, b, F⟩ := D
  exact pe_call0 F hr hg gm kp b .nil hx hdb
def OddR (K : PySem.W.Frag) (v : V) (H : Hp) : Prop := ThS K H v ∧ ringV v = false
theorem OddR.mono {K : PySem.W.Frag} (v : V) (H1 H2 : Hp) (e : Ex H1 H2) (h : OddR K v H1) : OddR K v H2 := ⟨h.1.mono e, h.2⟩
/-- what is no number from 1 to the top -/
def BadN (K : PySem.W.Frag) (top : Int) (v : V) (H : Hp) : Prop := ThI K H v ∧ inB top v = false
theorem BadN.mono {K : PySem.W.Frag} {top : Int} (v : V) (H1 H2 : Hp) (e : Ex H1 H2) (h : BadN K top v H1) : BadN K top v H2 := ⟨h.1.mono e, h.2⟩
theorem badn_of {K : PySem.W.Frag} {top : Int} {v : V} {H : Hp} (h : BadI K v H) (e : inB top v = false) : BadN K top v H := ⟨h.1, e⟩
theorem badn_int {K : PySem.W.Frag} {top i : Int} {H : Hp} (h : i < 1 ∨ top < i) : BadN K top (.int i) H := ⟨.inl ⟨i, rfl⟩, by
  unfold inB
  rw [Bool.and_eq_false_iff, decide_eq_false_iff_not, decide_eq_false_iff_not]
  omega⟩
theorem ok_law (T : Txt K mg cE cN cR cW cO cM) {f : Addr} {fd : FuncData} (F : Fun K "law" "law" s_law f fd) (D__law_number : Has P w K mg base CX0 2 "_law_number" ["_law_script", "_law_k"] (sp_number K)) (D__law_rings_right : Has P w K mg base CX0 12 "_law_rings_right" ["_law_odd", "_law_bad"] (sp_rightR K))
    (D__law_sizes_right : Has P w K mg base CX0 12 "_law_sizes_right" ["_law_length", "_law_bad"] (sp_rightS K)) (D__law_last_right : Has P w K mg base CX0 12 "_law_last_right" ["_law_length", "_law_colours", "_law_cell"] sp_rightL) (D__law_bounds_right : Has P w K mg base CX0 12 "_law_bounds_right" [] sp_rightB) : FnOk P w K mg base CX0 14 f fd ["_law_script"] (sp_law K) := by
  refine F.ok sc_law (fun vs H Q E h => ?_) (fun cdv A outer s H vs Q E hr h => ⟨_, (pss_cons (ps_for PassesOwn.never rfl (pi_range1 rfl T.b_range (pa_cons (pe_op op_add pe_int (pe_callB (id := "min") (call_min2 rfl) (by rfl) T.b_min (by decide +kernel) (pa_cons pe_int (pa_cons (pe_callB (id := "len") call_len_seq (by rfl) T.b_len PySem.boot_len (pa_cons (pv 0) pa_nil)) pa_nil)))) pa_nil)) (pg_name (i := 1) sc_law.nd rfl (Or.inl rfl)) (pss_cons (ps_set (i := 2) sc_law.nd rfl (Or.inl rfl) (pe_has D__law_number (hr.mono (by decide)) rfl pass0 (pa_cons (pv 0) (pa_cons (pe_op op_mul pe_int (pv 1)) pa_nil)))) (pss_cons (ps_set (i := 3) sc_law.nd rfl (Or.inl rfl) (pe_ix ix_list (pe_lst (pa_cons pe_non (pa_cons pe_int (pa_cons pe_bl (pa_cons pe_str (pa_cons pe_str (pa_cons pe_str (pa_cons pe_str (pa_cons (pe_lst (pa_cons pe_str pa_nil)) (pa_cons (pe_tup (pa_cons pe_str pa_nil)) (pa_cons pe_dnewK (pa_cons (pe_op op_add_str pe_str pe_str) (pa_cons (pe_op op_mulS pe_str pe_int) (pa_cons (pe_op op_add_str pe_str pe_str) pa_nil)))))))))))))) (pe_op op_mod (pv 2) pe_int) (fun _ _ => rfl))) (pss_cons (ps_set (i := 4) sc_law.nd rfl (Or.inl rfl) (pe_ix ix_list (pe_lst (pa_cons pe_int (pa_cons (pe_op op_sub (pe_un un_neg pe_int) (pv 2)) (pa_cons pe_non (pa_cons pe_bl (pa_cons pe_str (pa_cons (pe_lst (pa_cons pe_int pa_nil)) (pa_cons (pe_tup (pa_cons pe_int pa_nil)) (pa_cons pe_dnewK (pa_cons (pe_op op_add pe_int (pv 2)) (pa_cons pe_bl pa_nil))))))))))) (pe_op op_mod (pe_op op_fdiv (pv 2) pe_int) pe_int) (fun _ _ => rfl))) (pss_cons (ps_set (i := 5) sc_law.nd rfl (Or.inl rfl) (pe_ix ix_list (pe_lst (pa_cons pe_int (pa_cons (pe_op op_sub (pe_un un_neg pe_int) (pv 2)) (pa_cons pe_non (pa_cons pe_bl (pa_cons pe_str (pa_cons (pe_lst (pa_cons pe_int pa_nil)) (pa_cons (pe_tup (pa_cons pe_int pa_nil)) (pa_cons pe_dnewK (pa_cons (pe_op op_add pe_int (pv 2)) (pa_cons pe_bl pa_nil))))))))))) (pe_op op_mod (pe_op op_fdiv (pv 2) pe_int) pe_int) (fun _ _ => rfl))) (pss_cons (ps_if (PW.pt (pw_or (pt_not (pt_val (pe_has D__law_rings_right (hr.mono (by decide)) rfl pass0 (pa_cons (pv 3) (pa_cons (pv 4) pa_nil))))) (pw_or1 (pt_not (pt_val (pe_has D__law_sizes_right (hr.mono (by decide)) rfl pass0 (pa_cons (pv 5) (pa_cons (pv 4) pa_nil)))))))) (pss_one (ps_ret pe_bl)) pss_nil) (pss_cons (ps_set (i := 6) sc_law.nd rfl (Or.inl rfl) (pe_has D__law_number (hr.mono (by decide)) rfl pass0 (pa_cons (pv 0) (pa_cons (pe_op op_add (pe_op op_mul pe_int (pv 1)) pe_int) pa_nil)))) (pss_one (ps_if (pt_not (pt_val (pe_has D__law_last_right (hr.mono (by decide)) rfl pass0 (pa_cons (pe_op op_add pe_int (pe_op op_mod (pv 6) pe_int)) (pa_cons (pe_op op_add pe_int (pe_op op_mod (pe_op op_fdiv (pv 6) pe_int) pe_int)) (pa_cons (pe_op op_mod (pe_op op_fdiv (pv 6) pe_int) pe_int) pa_nil)))))) (pss_one (ps_ret pe_bl)) pss_nil))))))))) (pss_one (ps_ret (pe_has0 D__law_bounds_right (hr.mono (by decide)) rfl pass0)))), ?_⟩)
  · obtain ⟨a, ns, rfl, _⟩ := h
    rfl
  · obtain ⟨a, ns, rfl, hs, hl, q⟩ := h
    obtain ⟨n0, n1⟩ := min30 ns.length
    refine q_forR1 (n := 1 + (if (ns.length : Int) < 30 then (ns.length : Int) else 30)) (ea_cons (ev_op ev_c (ev_minI ev_c (ev_lenI (ev_var rfl) hs)) rv_I0) ea_nil) ⟨by omega, by omega⟩
      (fun i σ' H' => (∃ a1 a2 a3 a4 a5 a6, σ' = [some (.ref a), a1, a2, a3, a4, a5, a6]) ∧ Ex H H') (fun H2 e2 => ⟨⟨_, _, _, _, _, _, rfl⟩, e2⟩) ?_ ?_
    · rintro i σ' H1 hi ⟨⟨a1, a2, a3, a4, a5, a6, rfl⟩, e1⟩
      have hi31 : (i : Int) ≤ 31 := by omega
      refine q_asg (v := .int (number ns (3 * (i : Int)))) (ev_call (ea_cons (ev_var rfl) (ea_cons (by walk_at "br_ev") ea_nil)) fun H3 e3 Q3 q3 E3 => ⟨a, ns, _, rfl, ex_l (e1.trans e3) hs, by omega, by omega, q3⟩) fun H2 e2 => ?_
      obtain ⟨m0, m1⟩ := number_bd ns (3 * (i : Int))
      generalize number ns (3 * (i : Int)) = nm at m0 m1 ⊢
      refine p_asg (P := OddR K) (ep_pick (n := 13) (i := nm % 13) OddR.mono (eall_cons OddR.mono (ep_of ev_c fun _ _ => ⟨odd_non.1, rfl⟩) (eall_cons OddR.mono (ep_of ev_c fun _ _ => ⟨odd_int.1, rfl⟩) (eall_cons OddR.mono (ep_of ev_c fun _ _ => ⟨odd_bl.1, rfl⟩) (eall_cons OddR.mono (ep_of (ev_cS (l := []) (by decide +kernel)) fun _ _ => ⟨th_txt (by decide), by decide +kernel⟩) (eall_cons OddR.mono (ep_of (ev_cS (l := [98, 97]) (by decide +kernel)) fun _ _ => ⟨th_txt (by decide), by decide +kernel⟩) (eall_cons OddR.mono (ep_of (ev_cS (l := [97, 98, 97]) (by decide +kernel)) fun _ _ => ⟨th_txt (by decide), by decide +kernel⟩) (eall_cons OddR.mono (ep_of (ev_cS (l := [105]) (by decide +kernel)) fun _ _ => ⟨th_txt (by decide), by decide +kernel⟩) (eall_cons OddR.mono (ep_lst (el_lst (ea_cons ev_c ea_nil) (by show 1 ≤ 100000; decide)) fun _ _ _ h => ⟨(odd_lst h).1, rfl⟩) (eall_cons OddR.mono (ep_tup (eu_tup (ea_cons ev_c ea_nil) (by show 1 ≤ 100000; decide)) fun _ _ _ h => ⟨(odd_tup h).1, rfl⟩) (eall_cons OddR.mono (ep_dct fun _ _ _ h => ⟨(odd_dct h).1, rfl⟩) (eall_cons OddR.mono (ep_of (ev_op (ev_cS (l := [97, 98, 97, 98]) (by decide +kernel)) (ev_cS (l := [97]) (by decide +kernel)) (rv_catS (by decide))) fun _ _ => ⟨th_txt (by decide), by decide +kernel⟩) (eall_cons OddR.mono (ep_of (ev_op (ev_cS (l := [97]) (by decide +kernel)) ev_c (rv_mulS (n := 61) rfl (by decide) (by decide))) fun _ _ => ⟨th_txt (by decide), by decide +kernel⟩) (eall_cons OddR.mono (ep_of (ev_op (ev_cS (l := [98, 98]) (by decide +kernel)) (ev_cS (l := [97]) (by decide +kernel)) (rv_catS (by decide))) fun _ _ => ⟨th_txt (by decide), by decide +kernel⟩) eall_nil))))))))))))) (fun H8 e8 => by walk_at "br_ev") (by decide) (by omega) (by omega)) fun x H3 e3 hx => ?_
      refine p_asg (P := BadN K 8) (ep_pick (n := 10) (i := nm / 13 % 10) BadN.mono (eall_cons BadN.mono (ep_of ev_c fun _ _ => badn_int (by omega)) (eall_cons BadN.mono (ep_of (ev_op (ev_un ev_c ru_neg) (ev_var rfl) rv_I0) fun _ _ => badn_int (by omega)) (eall_cons BadN.mono (ep_of ev_c fun _ _ => badn_of bad_non rfl) (eall_cons BadN.mono (ep_of ev_c fun _ _ => badn_of bad_bl rfl) (eall_cons BadN.mono (ep_of ev_c fun _ _ => badn_of bad_str rfl) (eall_cons BadN.mono (ep_lst (el_lst (ea_cons ev_c ea_nil) (by show 1 ≤ 100000; decide)) fun _ _ _ h => badn_of (bad_lst h) rfl) (eall_cons BadN.mono (ep_tup (eu_tup (ea_cons ev_c ea_nil) (by show 1 ≤ 100000; decide)) fun _ _ _ h => badn_of (bad_tup h) rfl) (eall_cons BadN.mono (ep_dct fun _ _ _ h => badn_of (bad_dct h) rfl) (eall_cons BadN.mono (ep_of (ev_op ev_c (ev_var rfl) rv_I0) fun _ _ => badn_int (by omega)) (eall_cons BadN.mono (ep_of ev_c fun _ _ => badn_of bad_bl rfl) eall_nil)))))))))) (fun H8 e8 => by walk_at "br_ev") (by decide) (by omega) (by omega)) fun u H4 e4 hu => ?_
      refine p_asg (P := BadN K 60) (ep_pick (n := 10) (i := nm / 130 % 10) BadN.mono (eall_cons BadN.mono (ep_of ev_c fun _ _ => badn_int (by omega)) (eall_cons BadN.mono (ep_of (ev_op (ev_un ev_c ru_neg) (ev_var rfl) rv_I0) fun _ _ => badn_int (by omega)) (eall_cons BadN.mono (ep_of ev_c fun _ _ => badn_of bad_non rfl) (eall_cons BadN.mono (ep_of ev_c fun _ _ => badn_of bad_bl rfl) (eall_cons BadN.mono (ep_of ev_c fun _ _ => badn_of bad_str rfl) (eall_cons BadN.mono (ep_lst (el_lst (ea_cons ev_c ea_nil) (by show 1 ≤ 100000; decide)) fun _ _ _ h => badn_of (bad_lst h) rfl) (eall_cons BadN.mono (ep_tup (eu_tup (ea_cons ev_c ea_nil) (by show 1 ≤ 100000; decide)) fun _ _ _ h => badn_of (bad_tup h) rfl) (eall_cons BadN.mono (ep_dct fun _ _ _ h => badn_of (bad_dct h) rfl) (eall_cons BadN.mono (ep_of (ev_op ev_c (ev_var rfl) rv_I0) fun _ _ => badn_int (by omega)) (eall_cons BadN.mono (ep_of ev_c fun _ _ => badn_of bad_bl rfl) eall_nil)))))))))) (fun H8 e8 => by walk_at "br_ev") (by decide) (by omega) (by omega)) fun v H5 e5 hv => ?_
      have e35 := e4.trans e5
      refine q_when (b := false) (et_or (a := false) (b := false) (et_not (a := true) (et_B (ev_call (ea_cons (ev_var rfl) (ea_cons (ev_var rfl) ea_nil)) fun H6 e6 Q6 q6 E6 => ⟨x, u, rfl, hx.1.mono (e35.trans e6), hx.2, hu.1.mono (e5.trans e6), hu.2, q6⟩))) fun _ => et_not (a := true) (et_B (ev_call (ea_cons (ev_var rfl) (ea_cons (ev_var rfl) ea_nil)) fun H6 e6 Q6 q6 E6 => ⟨v, u, rfl, hv.1.mono e6, hv.2, hu.1.mono (e5.trans e6), hu.2, q6⟩))) (fun z => nomatch z) (fun _ H6 e6 => ?_)
      have e16 := ((((e1.trans e2).trans e3).trans e4).trans e5).trans e6
      refine q_asg (v := .int (number ns (3 * (i : Int) + 1))) (ev_call (ea_cons (ev_var rfl) (ea_cons (by walk_at "br_ev") ea_nil)) fun H7 e7 Q7 q7 E7 => ⟨a, ns, _, rfl, ex_l (e16.trans e7) hs, by omega, by omega, q7⟩) fun H7 e7 => ?_
      obtain ⟨p0, p1⟩ := number_bd ns (3 * (i : Int) + 1)
      generalize number ns (3 * (i : Int) + 1) = mo at p0 p1 ⊢
      obtain ⟨gn, hgn⟩ : ∃ gn : Nat, (gn : Int) = 1 + mo % 5 := ⟨(1 + mo % 5).toNat, by omega⟩
      obtain ⟨gc, hgc⟩ : ∃ gc : Nat, (gc : Int) = 1 + mo / 5 % 4 := ⟨(1 + mo / 5 % 4).toNat, by omega⟩
      obtain ⟨gk, hgk⟩ : ∃ gk : Nat, (gk : Int) = mo / 20 % 1000 := ⟨(mo / 20 % 1000).toNat, by omega⟩
      refine s_when (b := false) (et_not (a := true) (et_B (ev_call (ea_cons (ev_is (v := .int (1 + mo % 5)) (by walk_at "br_ev") (by rw [hgn])) (ea_cons (ev_is (v := .int (1 + mo / 5 % 4)) (by walk_at "br_ev") (by rw [hgc])) (ea_cons (ev_is (v := .int (mo / 20 % 1000)) (by walk_at "br_ev") (by rw [hgk])) ea_nil))) fun H8 e8 Q8 q8 E8 => ⟨gn, gc, gk, rfl, by omega, by omega, by omega, by omega, by omega, q8⟩))) (fun z => nomatch z) (fun _ H8 e8 => ⟨⟨_, _, _, _, _, _, rfl⟩, (e16.trans e7).trans e8⟩)
    · rintro σ' H1 ⟨⟨a1, a2, a3, a4, a5, a6, rfl⟩, e1⟩
      exact s_ret (v := .bl true) (ev_call ea_nil fun H2 e2 Q2 q2 E2 => ⟨rfl, q2⟩) fun H2 e2 => q H2 (e1.trans e2)
end
theorem all_mk {l : PySem.W.OpenLaw} {w : World} {K : PySem.W.Frag} {h : Heap} {mg : Str → Option Value} {fa cE cN cR cW cO cM : Addr} (X : K.In h) (G : h.Ns mainGlobals mg) (hfa : mg "law" = some (.ref fa))
    {u_MOST_LETTERS : Value}
    {u_MOST_COLOURS : Value}
    {u_MOST_TOLD : Value}
    {u_LETTERS : Value}
    {f_is_whole : Addr} {od_is_whole an_is_whole : Option Addr} {sl_is_whole : Array (Option Value)} {oc_is_whole kV_is_whole dc_is_whole pm_is_whole cd_is_whole ct_is_whole : Value}
    {f_need_length : Addr} {od_need_length an_need_length : Option Addr} {sl_need_length : Array (Option Value)} {oc_need_length kV_need_length dc_need_length pm_need_length cd_need_length ct_need_length : Value}
    {f_need_colours : Addr} {od_need_colours an_need_colours : Option Addr} {sl_need_colours : Array (Option Value)} {oc_need_colours kV_need_colours dc_need_colours pm_need_colours cd_need_colours ct_need_colours : Value}
    {f_need_few : Addr} {od_need_few an_need_few : Option Addr} {sl_need_few : Array (Option Value)} {oc_need_few kV_need_few dc_need_few pm_need_few cd_need_few ct_need_few : Value}
    {f_many_words : Addr} {od_many_words an_many_words : Option Addr} {sl_many_words : Array (Option Value)} {oc_many_words kV_many_words dc_many_words pm_many_words cd_many_words ct_many_words : Value}
    {f_many_rings : Addr} {od_many_rings an_many_rings : Option Addr} {sl_many_rings : Array (Option Value)} {oc_many_rings kV_many_rings dc_many_rings pm_many_rings cd_many_rings ct_many_rings : Value}
    {f_divisors : Addr} {od_divisors an_divisors : Option Addr} {sl_divisors : Array (Option Value)} {oc_divisors kV_divisors dc_divisors pm_divisors cd_divisors ct_divisors : Value}
    {f_many_coprime : Addr} {od_many_coprime an_many_coprime : Option Addr} {sl_many_coprime : Array (Option Value)} {oc_many_coprime kV_many_coprime dc_many_coprime pm_many_coprime cd_many_coprime ct_many_coprime : Value}
    {f_is_word : Addr} {od_is_word an_is_word : Option Addr} {sl_is_word : Array (Option Value)} {oc_is_word kV_is_word dc_is_word pm_is_word cd_is_word ct_is_word : Value}
    {f_need_word : Addr} {od_need_word an_need_word : Option Addr} {sl_need_word : Array (Option Value)} {oc_need_word kV_need_word dc_need_word pm_need_word cd_need_word ct_need_word : Value}
    {f_is_of_colours : Addr} {od_is_of_colours an_is_of_colours : Option Addr} {sl_is_of_colours : Array (Option Value)} {oc_is_of_colours kV_is_of_colours dc_is_of_colours pm_is_of_colours cd_is_of_colours ct_is_of_colours : Value}
    {f_turned : Addr} {od_turned an_turned : Option Addr} {sl_turned : Array (Option Value)} {oc_turned kV_turned dc_turned pm_turned cd_turned ct_turned : Value}
    {f_turnings : Addr} {od_turnings an_turnings : Option Addr} {sl_turnings : Array (Option Value)} {oc_turnings kV_turnings dc_turnings pm_turnings cd_turnings ct_turnings : Value}
    {f_ring_of : Addr} {od_ring_of an_ring_of : Option Addr} {sl_ring_of : Array (Option Value)} {oc_ring_of kV_ring_of dc_ring_of pm_ring_of cd_ring_of ct_ring_of : Value}
    {f_is_ring : Addr} {od_is_ring an_is_ring : Option Addr} {sl_is_ring : Array (Option Value)} {oc_is_ring kV_is_ring dc_is_ring pm_is_ring cd_is_ring ct_is_ring : Value}
    {f_period : Addr} {od_period an_period : Option Addr} {sl_period : Array (Option Value)} {oc_period kV_period dc_period pm_period cd_period ct_period : Value}
    {f_next_ring : Addr} {od_next_ring an_next_ring : Option Addr} {sl_next_ring : Array (Option Value)} {oc_next_ring kV_next_ring dc_next_ring pm_next_ring cd_next_ring ct_next_ring : Value}
    {f_all_rings : Addr} {od_all_rings an_all_rings : Option Addr} {sl_all_rings : Array (Option Value)} {oc_all_rings kV_all_rings dc_all_rings pm_all_rings cd_all_rings ct_all_rings : Value}
    {f_number_of : Addr} {od_number_of an_number_of : Option Addr} {sl_number_of : Array (Option Value)} {oc_number_of kV_number_of dc_number_of pm_number_of cd_number_of ct_number_of : Value}
    {f_ring_at : Addr} {od_ring_at an_ring_at : Option Addr} {sl_ring_at : Array (Option Value)} {oc_ring_at kV_ring_at dc_ring_at pm_ring_at cd_ring_at ct_ring_at : Value}
    {f_need_ring : Addr} {od_need_ring an_need_ring : Option Addr} {sl_need_ring : Array (Option Value)} {oc_need_ring kV_need_ring dc_need_ring pm_need_ring cd_need_ring ct_need_ring : Value}
    {f_ring_behind : Addr} {od_ring_behind an_ring_behind : Option Addr} {sl_ring_behind : Array (Option Value)} {oc_ring_behind kV_ring_behind dc_ring_behind pm_ring_behind cd_ring_behind ct_ring_behind : Value}
    {f_long_word : Addr} {od_long_word an_long_word : Option Addr} {sl_long_word : Array (Option Value)} {oc_long_word kV_long_word dc_long_word pm_long_word cd_long_word ct_long_word : Value}
    {f_place_of : Addr} {od_place_of an_place_of : Option Addr} {sl_place_of : Array (Option Value)} {oc_place_of kV_place_of dc_place_of pm_place_of cd_place_of ct_place_of : Value}
    {f__law_mixed : Addr} {od__law_mixed an__law_mixed : Option Addr} {sl__law_mixed : Array (Option Value)} {oc__law_mixed kV__law_mixed dc__law_mixed pm__law_mixed cd__law_mixed ct__law_mixed : Value}
    {f__law_number : Addr} {od__law_number an__law_number : Option Addr} {sl__law_number : Array (Option Value)} {oc__law_number kV__law_number dc__law_number pm__law_number cd__law_number ct__law_number : Value}
    {f__law_kind : Addr} {od__law_kind an__law_kind : Option Addr} {sl__law_kind : Array (Option Value)} {oc__law_kind kV__law_kind dc__law_kind pm__law_kind cd__law_kind ct__law_kind : Value}
    {f__law_called : Addr} {od__law_called an__law_called : Option Addr} {sl__law_called : Array (Option Value)} {oc__law_called kV__law_called dc__law_called pm__law_called cd__law_called ct__law_called : Value}
    {f__law_said : Addr} {od__law_said an__law_said : Option Addr} {sl__law_said : Array (Option Value)} {oc__law_said kV__law_said dc__law_said pm__law_said cd__law_said ct__law_said : Value}
    {f__law_all : Addr} {od__law_all an__law_all : Option Addr} {sl__law_all : Array (Option Value)} {oc__law_all kV__law_all dc__law_all pm__law_all cd__law_all ct__law_all : Value}
    {f__law_rings_right : Addr} {od__law_rings_right an__law_rings_right : Option Addr} {sl__law_rings_right : Array (Option Value)} {oc__law_rings_right kV__law_rings_right dc__law_rings_right pm__law_rings_right cd__law_rings_right ct__law_rings_right : Value}
    {f__law_bounds_right : Addr} {od__law_bounds_right an__law_bounds_right : Option Addr} {sl__law_bounds_right : Array (Option Value)} {oc__law_bounds_right kV__law_bounds_right dc__law_bounds_right pm__law_bounds_right cd__law_bounds_right ct__law_bounds_right : Value}
    {f__law_sizes_right : Addr} {od__law_sizes_right an__law_sizes_right : Option Addr} {sl__law_sizes_right : Array (Option Value)} {oc__law_sizes_right kV__law_sizes_right dc__law_sizes_right pm__law_sizes_right cd__law_sizes_right ct__law_sizes_right : Value}
    {f__law_last_right : Addr} {od__law_last_right an__law_last_right : Option Addr} {sl__law_last_right : Array (Option Value)} {oc__law_last_right kV__law_last_right dc__law_last_right pm__law_last_right cd__law_last_right ct__law_last_right : Value}
    {f_law : Addr} {od_law an_law : Option Addr} {sl_law : Array (Option Value)} {oc_law kV_law dc_law pm_law cd_law ct_law : Value}
    (h_b_ValueError : PySem.W.nsIn K mainGlobals "ValueError" = some none)
    (h_b_all : PySem.W.nsIn K mainGlobals "all" = some none)
    (h_b_bool : PySem.W.nsIn K mainGlobals "bool" = some none)
    (h_b_int : PySem.W.nsIn K mainGlobals "int" = some none)
    (h_b_isinstance : PySem.W.nsIn K mainGlobals "isinstance" = some none)
    (h_b_len : PySem.W.nsIn K mainGlobals "len" = some none)
    (h_b_min : PySem.W.nsIn K mainGlobals "min" = some none)
    (h_b_range : PySem.W.nsIn K mainGlobals "range" = some none)
    (h_b_sorted : PySem.W.nsIn K mainGlobals "sorted" = some none)
    (h_b_str : PySem.W.nsIn K mainGlobals "str" = some none)
    (h_g_gcd : PySem.W.nsIn K mainGlobals "gcd" = some (some (.builtin "math.gcd")))
    (h_c_MOST_LETTERS : PySem.W.nsIn K mainGlobals "MOST_LETTERS" = some (some u_MOST_LETTERS)) (r_c_MOST_LETTERS : RelV (.int 60) u_MOST_LETTERS)
    (h_c_MOST_COLOURS : PySem.W.nsIn K mainGlobals "MOST_COLOURS" = some (some u_MOST_COLOURS)) (r_c_MOST_COLOURS : RelV (.int 8) u_MOST_COLOURS)
    (h_c_MOST_TOLD : PySem.W.nsIn K mainGlobals "MOST_TOLD" = some (some u_MOST_TOLD)) (r_c_MOST_TOLD : RelV (.int 3000) u_MOST_TOLD)
    (h_c_LETTERS : PySem.W.nsIn K mainGlobals "LETTERS" = some (some u_LETTERS)) (r_c_LETTERS : RelV (.str "abcdefgh") u_LETTERS)
    (h_k_BeadError : PySem.W.nsIn K mainGlobals "BeadError" = some (some (.ref cE)))
    (h_k_BadNumber : PySem.W.nsIn K mainGlobals "BadNumber" = some (some (.ref cN)))
    (h_k_BadRing : PySem.W.nsIn K mainGlobals "BadRing" = some (some (.ref cR)))
    (h_k_BadWord : PySem.W.nsIn K mainGlobals "BadWord" = some (some (.ref cW)))
    (h_k_NoRing : PySem.W.nsIn K mainGlobals "NoRing" = some (some (.ref cO)))
    (h_k_TooMany : PySem.W.nsIn K mainGlobals "TooMany" = some (some (.ref cM)))
    (h_x_BadNumber : PySem.W.excIn K cN [.type "ValueError", .type "Exception", .type "BaseException", .type "object"] "ValueError.__new__" = true)
    (h_p_BadNumber : PySem.W.keepIn K (.ref cN) = true)
    (h_s_BadNumber : PySem.W.subIn K (.ref cN) (.type "BaseException") = some true)
    (h_y_BadNumber : PySem.W.typeIn K (.ref cN) = some (.type "type"))
    (h_x_TooMany : PySem.W.excIn K cM [.type "ValueError", .type "Exception", .type "BaseException", .type "object"] "ValueError.__new__" = true)
    (h_p_TooMany : PySem.W.keepIn K (.ref cM) = true)
    (h_s_TooMany : PySem.W.subIn K (.ref cM) (.type "BaseException") = some true)
    (h_y_TooMany : PySem.W.typeIn K (.ref cM) = some (.type "type"))
    (h_x_BadWord : PySem.W.excIn K cW [.type "ValueError", .type "Exception", .type "BaseException", .type "object"] "ValueError.__new__" = true)
    (h_p_BadWord : PySem.W.keepIn K (.ref cW) = true)
    (h_s_BadWord : PySem.W.subIn K (.ref cW) (.type "BaseException") = some true)
    (h_y_BadWord : PySem.W.typeIn K (.ref cW) = some (.type "type"))
    (h_x_NoRing : PySem.W.excIn K cO [.type "ValueError", .type "Exception", .type "BaseException", .type "object"] "ValueError.__new__" = true)
    (h_p_NoRing : PySem.W.keepIn K (.ref cO) = true)
    (h_s_NoRing : PySem.W.subIn K (.ref cO) (.type "BaseException") = some true)
    (h_y_NoRing : PySem.W.typeIn K (.ref cO) = some (.type "type"))
    (h_x_BadRing : PySem.W.excIn K cR [.type "ValueError", .type "Exception", .type "BaseException", .type "object"] "ValueError.__new__" = true)
    (h_p_BadRing : PySem.W.keepIn K (.ref cR) = true)
    (h_s_BadRing : PySem.W.subIn K (.ref cR) (.type "BaseException") = some true)
    (h_y_BadRing : PySem.W.typeIn K (.ref cR) = some (.type "type"))
    (h_ga_BadNumber : PySem.W.findIn K (.ref cN) "__getattribute__" = some (some (.builtin "BaseException.__getattribute__")))
    (h_gg_BadNumber : PySem.W.findIn K (.ref cN) "__getattr__" = some none)
    (h_hd_BadNumber : PySem.W.hasDictIn K cN = true)
    (h_hc_BadNumber : PySem.W.findIn K (.ref cN) "__class__" = some (some (.builtin "object.__class__")))
    (h_mo_BadNumber : PySem.W.mroIn K cN (.type "object") = some true)
    (h_i_BadNumber_BadNumber : PySem.W.kitOne K (.ref cN) (.ref cN) = some true)
    (h_i_BadNumber_BadRing : PySem.W.kitOne K (.ref cN) (.ref cR) = some false)
    (h_i_BadNumber_BadWord : PySem.W.kitOne K (.ref cN) (.ref cW) = some false)
    (h_i_BadNumber_NoRing : PySem.W.kitOne K (.ref cN) (.ref cO) = some false)
    (h_i_BadNumber_TooMany : PySem.W.kitOne K (.ref cN) (.ref cM) = some false)
    (h_i_BadNumber_V : PySem.W.kitOne K (.ref cN) (.type "ValueError") = some true)
    (h_m_BadNumber : PySem.W.subIn K (.ref cN) (.ref cE) = some true)
    (h_ga_BadRing : PySem.W.findIn K (.ref cR) "__getattribute__" = some (some (.builtin "BaseException.__getattribute__")))
    (h_gg_BadRing : PySem.W.findIn K (.ref cR) "__getattr__" = some none)
    (h_hd_BadRing : PySem.W.hasDictIn K cR = true)
    (h_hc_BadRing : PySem.W.findIn K (.ref cR) "__class__" = some (some (.builtin "object.__class__")))
    (h_mo_BadRing : PySem.W.mroIn K cR (.type "object") = some true)
    (h_i_BadRing_BadNumber : PySem.W.kitOne K (.ref cR) (.ref cN) = some false)
    (h_i_BadRing_BadRing : PySem.W.kitOne K (.ref cR) (.ref cR) = some true)
    (h_i_BadRing_BadWord : PySem.W.kitOne K (.ref cR) (.ref cW) = some false)
    (h_i_BadRing_NoRing : PySem.W.kitOne K (.ref cR) (.ref cO) = some false)
    (h_i_BadRing_TooMany : PySem.W.kitOne K (.ref cR) (.ref cM) = some false)
    (h_i_BadRing_V : PySem.W.kitOne K (.ref cR) (.type "ValueError") = some true)
    (h_m_BadRing : PySem.W.subIn K (.ref cR) (.ref cE) = some true)
    (h_ga_BadWord : PySem.W.findIn K (.ref cW) "__getattribute__" = some (some (.builtin "BaseException.__getattribute__")))
    (h_gg_BadWord : PySem.W.findIn K (.ref cW) "__getattr__" = some none)
    (h_hd_BadWord : PySem.W.hasDictIn K cW = true)
    (h_hc_BadWord : PySem.W.findIn K (.ref cW) "__class__" = some (some (.builtin "object.__class__")))
    (h_mo_BadWord : PySem.W.mroIn K cW (.type "object") = some true)
    (h_i_BadWord_BadNumber : PySem.W.kitOne K (.ref cW) (.ref cN) = some false)
    (h_i_BadWord_BadRing : PySem.W.kitOne K (.ref cW) (.ref cR) = some false)
    (h_i_BadWord_BadWord : PySem.W.kitOne K (.ref cW) (.ref cW) = some true)
    (h_i_BadWord_NoRing : PySem.W.kitOne K (.ref cW) (.ref cO) = some false)
    (h_i_BadWord_TooMany : PySem.W.kitOne K (.ref cW) (.ref cM) = some false)
    (h_i_BadWord_V : PySem.W.kitOne K (.ref cW) (.type "ValueError") = some true)
    (h_m_BadWord : PySem.W.subIn K (.ref cW) (.ref cE) = some true)
    (h_ga_NoRing : PySem.W.findIn K (.ref cO) "__getattribute__" = some (some (.builtin "BaseException.__getattribute__")))
    (h_gg_NoRing : PySem.W.findIn K (.ref cO) "__getattr__" = some none)
    (h_hd_NoRing : PySem.W.hasDictIn K cO = true)
    (h_hc_NoRing : PySem.W.findIn K (.ref cO) "__class__" = some (some (.builtin "object.__class__")))
    (h_mo_NoRing : PySem.W.mroIn K cO (.type "object") = some true)
    (h_i_NoRing_BadNumber : PySem.W.kitOne K (.ref cO) (.ref cN) = some false)
    (h_i_NoRing_BadRing : PySem.W.kitOne K (.ref cO) (.ref cR) = some false)
    (h_i_NoRing_BadWord : PySem.W.kitOne K (.ref cO) (.ref cW) = some false)
    (h_i_NoRing_NoRing : PySem.W.kitOne K (.ref cO) (.ref cO) = some true)
    (h_i_NoRing_TooMany : PySem.W.kitOne K (.ref cO) (.ref cM) = some false)
    (h_i_NoRing_V : PySem.W.kitOne K (.ref cO) (.type "ValueError") = some true)
    (h_m_NoRing : PySem.W.subIn K (.ref cO) (.ref cE) = some true)
    (h_ga_TooMany : PySem.W.findIn K (.ref cM) "__getattribute__" = some (some (.builtin "BaseException.__getattribute__")))
    (h_gg_TooMany : PySem.W.findIn K (.ref cM) "__getattr__" = some none)
    (h_hd_TooMany : PySem.W.hasDictIn K cM = true)
    (h_hc_TooMany : PySem.W.findIn K (.ref cM) "__class__" = some (some (.builtin "object.__class__")))
    (h_mo_TooMany : PySem.W.mroIn K cM (.type "object") = some true)
    (h_i_TooMany_BadNumber : PySem.W.kitOne K (.ref cM) (.ref cN) = some false)
    (h_i_TooMany_BadRing : PySem.W.kitOne K (.ref cM) (.ref cR) = some false)
    (h_i_TooMany_BadWord : PySem.W.kitOne K (.ref cM) (.ref cW) = some false)
    (h_i_TooMany_NoRing : PySem.W.kitOne K (.ref cM) (.ref cO) = some false)
    (h_i_TooMany_TooMany : PySem.W.kitOne K (.ref cM) (.ref cM) = some true)
    (h_i_TooMany_V : PySem.W.kitOne K (.ref cM) (.type "ValueError") = some true)
    (h_m_TooMany : PySem.W.subIn K (.ref cM) (.ref cE) = some true)
    (h_sp : PySem.W.specialIn K (.builtin "object.__class__") "__get__" = some (some (.builtin "getset_descriptor.__get__")))
    (h_tk : PySem.W.takesIn K (.builtin "object.__class__") = some true)
    (h_sE : PySem.W.subIn K (.ref cE) (.type "BaseException") = some true)
    (h_hE : PySem.W.hasDictIn K cE = true)
    (h_yE : PySem.W.typeIn K (.ref cE) = some (.type "type"))
    (g_is_whole : PySem.W.nsIn K mainGlobals "is_whole" = some (some (.ref f_is_whole))) (l_is_whole : K.lookup f_is_whole = some ⟨oc_is_whole, od_is_whole, .func (PySem.W.fnOf "is_whole" "is_whole" (defArgs s_is_whole) (defBody s_is_whole) (defScope s_is_whole) .none kV_is_whole dc_is_whole pm_is_whole an_is_whole cd_is_whole ct_is_whole), sl_is_whole⟩) (d_is_whole : PySem.W.codeIn K cd_is_whole "is_whole" = true) (p_is_whole : PySem.W.keepIn K (.ref f_is_whole) = true)
    (g_need_length : PySem.W.nsIn K mainGlobals "need_length" = some (some (.ref f_need_length))) (l_need_length : K.lookup f_need_length = some ⟨oc_need_length, od_need_length, .func (PySem.W.fnOf "need_length" "need_length" (defArgs s_need_length) (defBody s_need_length) (defScope s_need_length) .none kV_need_length dc_need_length pm_need_length an_need_length cd_need_length ct_need_length), sl_need_length⟩) (d_need_length : PySem.W.codeIn K cd_need_length "need_length" = true) (p_need_length : PySem.W.keepIn K (.ref f_need_length) = true)
    (g_need_colours : PySem.W.nsIn K mainGlobals "need_colours" = some (some (.ref f_need_colours))) (l_need_colours : K.lookup f_need_colours = some ⟨oc_need_colours, od_need_colours, .func (PySem.W.fnOf "need_colours" "need_colours" (defArgs s_need_colours) (defBody s_need_colours) (defScope s_need_colours) .none kV_need_colours dc_need_colours pm_need_colours an_need_colours cd_need_colours ct_need_colours), sl_need_colours⟩) (d_need_colours : PySem.W.codeIn K cd_need_colours "need_colours" = true) (p_need_colours : PySem.W.keepIn K (.ref f_need_colours) = true)
    (g_need_few : PySem.W.nsIn K mainGlobals "need_few" = some (some (.ref f_need_few))) (l_need_few : K.lookup f_need_few = some ⟨oc_need_few, od_need_few, .func (PySem.W.fnOf "need_few" "need_few" (defArgs s_need_few) (defBody s_need_few) (defScope s_need_few) .none kV_need_few dc_need_few pm_need_few an_need_few cd_need_few ct_need_few), sl_need_few⟩) (d_need_few : PySem.W.codeIn K cd_need_few "need_few" = true) (p_need_few : PySem.W.keepIn K (.ref f_need_few) = true)
    (g_many_words : PySem.W.nsIn K mainGlobals "many_words" = some (some (.ref f_many_words))) (l_many_words : K.lookup f_many_words = some ⟨oc_many_words, od_many_words, .func (PySem.W.fnOf "many_words" "many_words" (defArgs s_many_words) (defBody s_many_words) (defScope s_many_words) .none kV_many_words dc_many_words pm_many_words an_many_words cd_many_words ct_many_words), sl_many_words⟩) (d_many_words : PySem.W.codeIn K cd_many_words "many_words" = true) (p_many_words : PySem.W.keepIn K (.ref f_many_words) = true)
    (g_many_rings : PySem.W.nsIn K mainGlobals "many_rings" = some (some (.ref f_many_rings))) (l_many_rings : K.lookup f_many_rings = some ⟨oc_many_rings, od_many_rings, .func (PySem.W.fnOf "many_rings" "many_rings" (defArgs s_many_rings) (defBody s_many_rings) (defScope s_many_rings) .none kV_many_rings dc_many_rings pm_many_rings an_many_rings cd_many_rings ct_many_rings), sl_many_rings⟩) (d_many_rings : PySem.W.codeIn K cd_many_rings "many_rings" = true) (p_many_rings : PySem.W.keepIn K (.ref f_many_rings) = true)
    (g_divisors : PySem.W.nsIn K mainGlobals "divisors" = some (some (.ref f_divisors))) (l_divisors : K.lookup f_divisors = some ⟨oc_divisors, od_divisors, .func (PySem.W.fnOf "divisors" "divisors" (defArgs s_divisors) (defBody s_divisors) (defScope s_divisors) .none kV_divisors dc_divisors pm_divisors an_divisors cd_divisors ct_divisors), sl_divisors⟩) (d_divisors : PySem.W.codeIn K cd_divisors "divisors" = true) (p_divisors : PySem.W.keepIn K (.ref f_divisors) = true)
    (g_many_coprime : PySem.W.nsIn K mainGlobals "many_coprime" = some (some (.ref f_many_coprime))) (l_many_coprime : K.lookup f_many_coprime = some ⟨oc_many_coprime, od_many_coprime, .func (PySem.W.fnOf "many_coprime" "many_coprime" (defArgs s_many_coprime) (defBody s_many_coprime) (defScope s_many_coprime) .none kV_many_coprime dc_many_coprime pm_many_coprime an_many_coprime cd_many_coprime ct_many_coprime), sl_many_coprime⟩) (d_many_coprime : PySem.W.codeIn K cd_many_coprime "many_coprime" = true) (p_many_coprime : PySem.W.keepIn K (.ref f_many_coprime) = true)
    (g_is_word : PySem.W.nsIn K mainGlobals "is_word" = some (some (.ref f_is_word))) (l_is_word : K.lookup f_is_word = some ⟨oc_is_word, od_is_word, .func (PySem.W.fnOf "is_word" "is_word" (defArgs s_is_word) (defBody s_is_word) (defScope s_is_word) .none kV_is_word dc_is_word pm_is_word an_is_word cd_is_word ct_is_word), sl_is_word⟩) (d_is_word : PySem.W.codeIn K cd_is_word "is_word" = true) (p_is_word : PySem.W.keepIn K (.ref f_is_word) = true)
    (g_need_word : PySem.W.nsIn K mainGlobals "need_word" = some (some (.ref f_need_word))) (l_need_word : K.lookup f_need_word = some ⟨oc_need_word, od_need_word, .func (PySem.W.fnOf "need_word" "need_word" (defArgs s_need_word) (defBody s_need_word) (defScope s_need_word) .none kV_need_word dc_need_word pm_need_word an_need_word cd_need_word ct_need_word), sl_need_word⟩) (d_need_word : PySem.W.codeIn K cd_need_word "need_word" = true) (p_need_word : PySem.W.keepIn K (.ref f_need_word) = true)
    (g_is_of_colours : PySem.W.nsIn K mainGlobals "is_of_colours" = some (some (.ref f_is_of_colours))) (l_is_of_colours : K.lookup f_is_of_colours = some ⟨oc_is_of_colours, od_is_of_colours, .func (PySem.W.fnOf "is_of_colours" "is_of_colours" (defArgs s_is_of_colours) (defBody s_is_of_colours) (defScope s_is_of_colours) .none kV_is_of_colours dc_is_of_colours pm_is_of_colours an_is_of_colours cd_is_of_colours ct_is_of_colours), sl_is_of_colours⟩) (d_is_of_colours : PySem.W.codeIn K cd_is_of_colours "is_of_colours" = true) (p_is_of_colours : PySem.W.keepIn K (.ref f_is_of_colours) = true)
    (g_turned : PySem.W.nsIn K mainGlobals "turned" = some (some (.ref f_turned))) (l_turned : K.lookup f_turned = some ⟨oc_turned, od_turned, .func (PySem.W.fnOf "turned" "turned" (defArgs s_turned) (defBody s_turned) (defScope s_turned) .none kV_turned dc_turned pm_turned an_turned cd_turned ct_turned), sl_turned⟩) (d_turned : PySem.W.codeIn K cd_turned "turned" = true) (p_turned : PySem.W.keepIn K (.ref f_turned) = true)
    (g_turnings : PySem.W.nsIn K mainGlobals "turnings" = some (some (.ref f_turnings))) (l_turnings : K.lookup f_turnings = some ⟨oc_turnings, od_turnings, .func (PySem.W.fnOf "turnings" "turnings" (defArgs s_turnings) (defBody s_turnings) (defScope s_turnings) .none kV_turnings dc_turnings pm_turnings an_turnings cd_turnings ct_turnings), sl_turnings⟩) (d_turnings : PySem.W.codeIn K cd_turnings "turnings" = true) (p_turnings : PySem.W.keepIn K (.ref f_turnings) = true)
    (g_ring_of : PySem.W.nsIn K mainGlobals "ring_of" = some (some (.ref f_ring_of))) (l_ring_of : K.lookup f_ring_of = some ⟨oc_ring_of, od_ring_of, .func (PySem.W.fnOf "ring_of" "ring_of" (defArgs s_ring_of) (defBody s_ring_of) (defScope s_ring_of) .none kV_ring_of dc_ring_of pm_ring_of an_ring_of cd_ring_of ct_ring_of), sl_ring_of⟩) (d_ring_of : PySem.W.codeIn K cd_ring_of "ring_of" = true) (p_ring_of : PySem.W.keepIn K (.ref f_ring_of) = true)
    (g_is_ring : PySem.W.nsIn K mainGlobals "is_ring" = some (some (.ref f_is_ring))) (l_is_ring : K.lookup f_is_ring = some ⟨oc_is_ring, od_is_ring, .func (PySem.W.fnOf "is_ring" "is_ring" (defArgs s_is_ring) (defBody s_is_ring) (defScope s_is_ring) .none kV_is_ring dc_is_ring pm_is_ring an_is_ring cd_is_ring ct_is_ring), sl_is_ring⟩) (d_is_ring : PySem.W.codeIn K cd_is_ring "is_ring" = true) (p_is_ring : PySem.W.keepIn K (.ref f_is_ring) = true)
    (g_period : PySem.W.nsIn K mainGlobals "period" = some (some (.ref f_period))) (l_period : K.lookup f_period = some ⟨oc_period, od_period, .func (PySem.W.fnOf "period" "period" (defArgs s_period) (defBody s_period) (defScope s_period) .none kV_period dc_period pm_period an_period cd_period ct_period), sl_period⟩) (d_period : PySem.W.codeIn K cd_period "period" = true) (p_period : PySem.W.keepIn K (.ref f_period) = true)
    (g_next_ring : PySem.W.nsIn K mainGlobals "next_ring" = some (some (.ref f_next_ring))) (l_next_ring : K.lookup f_next_ring = some ⟨oc_next_ring, od_next_ring, .func (PySem.W.fnOf "next_ring" "next_ring" (defArgs s_next_ring) (defBody s_next_ring) (defScope s_next_ring) .none kV_next_ring dc_next_ring pm_next_ring an_next_ring cd_next_ring ct_next_ring), sl_next_ring⟩) (d_next_ring : PySem.W.codeIn K cd_next_ring "next_ring" = true) (p_next_ring : PySem.W.keepIn K (.ref f_next_ring) = true)
    (g_all_rings : PySem.W.nsIn K mainGlobals "all_rings" = some (some (.ref f_all_rings))) (l_all_rings : K.lookup f_all_rings = some ⟨oc_all_rings, od_all_rings, .func (PySem.W.fnOf "all_rings" "all_rings" (defArgs s_all_rings) (defBody s_all_rings) (defScope s_all_rings) .none kV_all_rings dc_all_rings pm_all_rings an_all_rings cd_all_rings ct_all_rings), sl_all_rings⟩) (d_all_rings : PySem.W.codeIn K cd_all_rings "all_rings" = true) (p_all_rings : PySem.W.keepIn K (.ref f_all_rings) = true)
    (g_number_of : PySem.W.nsIn K mainGlobals "number_of" = some (some (.ref f_number_of))) (l_number_of : K.lookup f_number_of = some ⟨oc_number_of, od_number_of, .func (PySem.W.fnOf "number_of" "number_of" (defArgs s_number_of) (defBody s_number_of) (defScope s_number_of) .none kV_number_of dc_number_of pm_number_of an_number_of cd_number_of ct_number_of), sl_number_of⟩) (d_number_of : PySem.W.codeIn K cd_number_of "number_of" = true) (p_number_of : PySem.W.keepIn K (.ref f_number_of) = true)
    (g_ring_at : PySem.W.nsIn K mainGlobals "ring_at" = some (some (.ref f_ring_at))) (l_ring_at : K.lookup f_ring_at = some ⟨oc_ring_at, od_ring_at, .func (PySem.W.fnOf "ring_at" "ring_at" (defArgs s_ring_at) (defBody s_ring_at) (defScope s_ring_at) .none kV_ring_at dc_ring_at pm_ring_at an_ring_at cd_ring_at ct_ring_at), sl_ring_at⟩) (d_ring_at : PySem.W.codeIn K cd_ring_at "ring_at" = true) (p_ring_at : PySem.W.keepIn K (.ref f_ring_at) = true)
    (g_need_ring : PySem.W.nsIn K mainGlobals "need_ring" = some (some (.ref f_need_ring))) (l_need_ring : K.lookup f_need_ring = some ⟨oc_need_ring, od_need_ring, .func (PySem.W.fnOf "need_ring" "need_ring" (defArgs s_need_ring) (defBody s_need_ring) (defScope s_need_ring) .none kV_need_ring dc_need_ring pm_need_ring an_need_ring cd_need_ring ct_need_ring), sl_need_ring⟩) (d_need_ring : PySem.W.codeIn K cd_need_ring "need_ring" = true) (p_need_ring : PySem.W.keepIn K (.ref f_need_ring) = true)
    (g_ring_behind : PySem.W.nsIn K mainGlobals "ring_behind" = some (some (.ref f_ring_behind))) (l_ring_behind : K.lookup f_ring_behind = some ⟨oc_ring_behind, od_ring_behind, .func (PySem.W.fnOf "ring_behind" "ring_behind" (defArgs s_ring_behind) (defBody s_ring_behind) (defScope s_ring_behind) .none kV_ring_behind dc_ring_behind pm_ring_behind an_ring_behind cd_ring_behind ct_ring_behind), sl_ring_behind⟩) (d_ring_behind : PySem.W.codeIn K cd_ring_behind "ring_behind" = true) (p_ring_behind : PySem.W.keepIn K (.ref f_ring_behind) = true)
    (g_long_word : PySem.W.nsIn K mainGlobals "long_word" = some (some (.ref f_long_word))) (l_long_word : K.lookup f_long_word = some ⟨oc_long_word, od_long_word, .func (PySem.W.fnOf "long_word" "long_word" (defArgs s_long_word) (defBody s_long_word) (defScope s_long_word) .none kV_long_word dc_long_word pm_long_word an_long_word cd_long_word ct_long_word), sl_long_word⟩) (d_long_word : PySem.W.codeIn K cd_long_word "long_word" = true) (p_long_word : PySem.W.keepIn K (.ref f_long_word) = true)
    (g_place_of : PySem.W.nsIn K mainGlobals "place_of" = some (some (.ref f_place_of))) (l_place_of : K.lookup f_place_of = some ⟨oc_place_of, od_place_of, .func (PySem.W.fnOf "place_of" "place_of" (defArgs s_place_of) (defBody s_place_of) (defScope s_place_of) .none kV_place_of dc_place_of pm_place_of an_place_of cd_place_of ct_place_of), sl_place_of⟩) (d_place_of : PySem.W.codeIn K cd_place_of "place_of" = true) (p_place_of : PySem.W.keepIn K (.ref f_place_of) = true)
    (g__law_mixed : PySem.W.nsIn K mainGlobals "_law_mixed" = some (some (.ref f__law_mixed))) (l__law_mixed : K.lookup f__law_mixed = some ⟨oc__law_mixed, od__law_mixed, .func (PySem.W.fnOf "_law_mixed" "_law_mixed" (defArgs s__law_mixed) (defBody s__law_mixed) (defScope s__law_mixed) .none kV__law_mixed dc__law_mixed pm__law_mixed an__law_mixed cd__law_mixed ct__law_mixed), sl__law_mixed⟩) (d__law_mixed : PySem.W.codeIn K cd__law_mixed "_law_mixed" = true) (p__law_mixed : PySem.W.keepIn K (.ref f__law_mixed) = true)
    (g__law_number : PySem.W.nsIn K mainGlobals "_law_number" = some (some (.ref f__law_number))) (l__law_number : K.lookup f__law_number = some ⟨oc__law_number, od__law_number, .func (PySem.W.fnOf "_law_number" "_law_number" (defArgs s__law_number) (defBody s__law_number) (defScope s__law_number) .none kV__law_number dc__law_number pm__law_number an__law_number cd__law_number ct__law_number), sl__law_number⟩) (d__law_number : PySem.W.codeIn K cd__law_number "_law_number" = true) (p__law_number : PySem.W.keepIn K (.ref f__law_number) = true)
    (g__law_kind : PySem.W.nsIn K mainGlobals "_law_kind" = some (some (.ref f__law_kind))) (l__law_kind : K.lookup f__law_kind = some ⟨oc__law_kind, od__law_kind, .func (PySem.W.fnOf "_law_kind" "_law_kind" (defArgs s__law_kind) (defBody s__law_kind) (defScope s__law_kind) .none kV__law_kind dc__law_kind pm__law_kind an__law_kind cd__law_kind ct__law_kind), sl__law_kind⟩) (d__law_kind : PySem.W.codeIn K cd__law_kind "_law_kind" = true) (p__law_kind : PySem.W.keepIn K (.ref f__law_kind) = true)
    (g__law_called : PySem.W.nsIn K mainGlobals "_law_called" = some (some (.ref f__law_called))) (l__law_called : K.lookup f__law_called = some ⟨oc__law_called, od__law_called, .func (PySem.W.fnOf "_law_called" "_law_called" (defArgs s__law_called) (defBody s__law_called) (defScope s__law_called) .none kV__law_called dc__law_called pm__law_called an__law_called cd__law_called ct__law_called), sl__law_called⟩) (d__law_called : PySem.W.codeIn K cd__law_called "_law_called" = true) (p__law_called : PySem.W.keepIn K (.ref f__law_called) = true)
    (g__law_said : PySem.W.nsIn K mainGlobals "_law_said" = some (some (.ref f__law_said))) (l__law_said : K.lookup f__law_said = some ⟨oc__law_said, od__law_said, .func (PySem.W.fnOf "_law_said" "_law_said" (defArgs s__law_said) (defBody s__law_said) (defScope s__law_said) .none kV__law_said dc__law_said pm__law_said an__law_said cd__law_said ct__law_said), sl__law_said⟩) (d__law_said : PySem.W.codeIn K cd__law_said "_law_said" = true) (p__law_said : PySem.W.keepIn K (.ref f__law_said) = true)
    (g__law_all : PySem.W.nsIn K mainGlobals "_law_all" = some (some (.ref f__law_all))) (l__law_all : K.lookup f__law_all = some ⟨oc__law_all, od__law_all, .func (PySem.W.fnOf "_law_all" "_law_all" (defArgs s__law_all) (defBody s__law_all) (defScope s__law_all) .none kV__law_all dc__law_all pm__law_all an__law_all cd__law_all ct__law_all), sl__law_all⟩) (d__law_all : PySem.W.codeIn K cd__law_all "_law_all" = true) (p__law_all : PySem.W.keepIn K (.ref f__law_all) = true)
    (g__law_rings_right : PySem.W.nsIn K mainGlobals "_law_rings_right" = some (some (.ref f__law_rings_right))) (l__law_rings_right : K.lookup f__law_rings_right = some ⟨oc__law_rings_right, od__law_rings_right, .func (PySem.W.fnOf "_law_rings_right" "_law_rings_right" (defArgs s__law_rings_right) (defBody s__law_rings_right) (defScope s__law_rings_right) .none kV__law_rings_right dc__law_rings_right pm__law_rings_right an__law_rings_right cd__law_rings_right ct__law_rings_right), sl__law_rings_right⟩) (d__law_rings_right : PySem.W.codeIn K cd__law_rings_right "_law_rings_right" = true) (p__law_rings_right : PySem.W.keepIn K (.ref f__law_rings_right) = true)
    (g__law_bounds_right : PySem.W.nsIn K mainGlobals "_law_bounds_right" = some (some (.ref f__law_bounds_right))) (l__law_bounds_right : K.lookup f__law_bounds_right = some ⟨oc__law_bounds_right, od__law_bounds_right, .func (PySem.W.fnOf "_law_bounds_right" "_law_bounds_right" (defArgs s__law_bounds_right) (defBody s__law_bounds_right) (defScope s__law_bounds_right) .none kV__law_bounds_right dc__law_bounds_right pm__law_bounds_right an__law_bounds_right cd__law_bounds_right ct__law_bounds_right), sl__law_bounds_right⟩) (d__law_bounds_right : PySem.W.codeIn K cd__law_bounds_right "_law_bounds_right" = true) (p__law_bounds_right : PySem.W.keepIn K (.ref f__law_bounds_right) = true)
    (g__law_sizes_right : PySem.W.nsIn K mainGlobals "_law_sizes_right" = some (some (.ref f__law_sizes_right))) (l__law_sizes_right : K.lookup f__law_sizes_right = some ⟨oc__law_sizes_right, od__law_sizes_right, .func (PySem.W.fnOf "_law_sizes_right" "_law_sizes_right" (defArgs s__law_sizes_right) (defBody s__law_sizes_right) (defScope s__law_sizes_right) .none kV__law_sizes_right dc__law_sizes_right pm__law_sizes_right an__law_sizes_right cd__law_sizes_right ct__law_sizes_right), sl__law_sizes_right⟩) (d__law_sizes_right : PySem.W.codeIn K cd__law_sizes_right "_law_sizes_right" = true) (p__law_sizes_right : PySem.W.keepIn K (.ref f__law_sizes_right) = true)
    (g__law_last_right : PySem.W.nsIn K mainGlobals "_law_last_right" = some (some (.ref f__law_last_right))) (l__law_last_right : K.lookup f__law_last_right = some ⟨oc__law_last_right, od__law_last_right, .func (PySem.W.fnOf "_law_last_right" "_law_last_right" (defArgs s__law_last_right) (defBody s__law_last_right) (defScope s__law_last_right) .none kV__law_last_right dc__law_last_right pm__law_last_right an__law_last_right cd__law_last_right ct__law_last_right), sl__law_last_right⟩) (d__law_last_right : PySem.W.codeIn K cd__law_last_right "_law_last_right" = true) (p__law_last_right : PySem.W.keepIn K (.ref f__law_last_right) = true)
    (g_law : PySem.W.nsIn K mainGlobals "law" = some (some (.ref f_law))) (l_law : K.lookup f_law = some ⟨oc_law, od_law, .func (PySem.W.fnOf "law" "law" (defArgs s_law) (defBody s_law) (defScope s_law) .none kV_law dc_law pm_law an_law cd_law ct_law), sl_law⟩) (d_law : PySem.W.codeIn K cd_law "law" = true) (p_law : PySem.W.keepIn K (.ref f_law) = true)
    : ∃ fd : FuncData, (∀ (s : Shared) (v : Value), BindsTo s fd ⟨[v], []⟩ [("_law_script", v)]) ∧ ∀ base : Heap, K.In base → base.Ns mainGlobals mg → FnOk l.prog w K mg base CX0 14 fa fd ["_law_script"] (sp_law K) := by
  have e := hfa.symm.trans (PySem.W.mg_of X G g_law)
  cases e
  have T : Txt K mg cE cN cR cW cO cM := { b_ValueError := PySem.W.mg_none_of X G h_b_ValueError, b_all := PySem.W.mg_none_of X G h_b_all, b_bool := PySem.W.mg_none_of X G h_b_bool, b_int := PySem.W.mg_none_of X G h_b_int, b_isinstance := PySem.W.mg_none_of X G h_b_isinstance, b_len := PySem.W.mg_none_of X G h_b_len, b_min := PySem.W.mg_none_of X G h_b_min, b_range := PySem.W.mg_none_of X G h_b_range, b_sorted := PySem.W.mg_none_of X G h_b_sorted, b_str := PySem.W.mg_none_of X G h_b_str, g_gcd := PySem.W.mg_of X G h_g_gcd, c_MOST_LETTERS := ⟨_, PySem.W.mg_of X G h_c_MOST_LETTERS, r_c_MOST_LETTERS⟩, c_MOST_COLOURS := ⟨_, PySem.W.mg_of X G h_c_MOST_COLOURS, r_c_MOST_COLOURS⟩, c_MOST_TOLD := ⟨_, PySem.W.mg_of X G h_c_MOST_TOLD, r_c_MOST_TOLD⟩, c_LETTERS := ⟨_, PySem.W.mg_of X G h_c_LETTERS, r_c_LETTERS⟩, k_BeadError := PySem.W.mg_of X G h_k_BeadError, k_BadNumber := PySem.W.mg_of X G h_k_BadNumber, k_BadRing := PySem.W.mg_of X G h_k_BadRing, k_BadWord := PySem.W.mg_of X G h_k_BadWord, k_NoRing := PySem.W.mg_of X G h_k_NoRing, k_TooMany := PySem.W.mg_of X G h_k_TooMany, x_BadNumber := h_x_BadNumber, p_BadNumber := h_p_BadNumber, s_BadNumber := h_s_BadNumber, y_BadNumber := h_y_BadNumber, x_TooMany := h_x_TooMany, p_TooMany := h_p_TooMany, s_TooMany := h_s_TooMany, y_TooMany := h_y_TooMany, x_BadWord := h_x_BadWord, p_BadWord := h_p_BadWord, s_BadWord := h_s_BadWord, y_BadWord := h_y_BadWord, x_NoRing := h_x_NoRing, p_NoRing := h_p_NoRing, s_NoRing := h_s_NoRing, y_NoRing := h_y_NoRing, x_BadRing := h_x_BadRing, p_BadRing := h_p_BadRing, s_BadRing := h_s_BadRing, y_BadRing := h_y_BadRing, ga_BadNumber := h_ga_BadNumber, gg_BadNumber := h_gg_BadNumber, hd_BadNumber := h_hd_BadNumber, hc_BadNumber := h_hc_BadNumber, mo_BadNumber := h_mo_BadNumber, i_BadNumber_BadNumber := h_i_BadNumber_BadNumber, i_BadNumber_BadRing := h_i_BadNumber_BadRing, i_BadNumber_BadWord := h_i_BadNumber_BadWord, i_BadNumber_NoRing := h_i_BadNumber_NoRing, i_BadNumber_TooMany := h_i_BadNumber_TooMany, i_BadNumber_V := h_i_BadNumber_V, m_BadNumber := h_m_BadNumber, ga_BadRing := h_ga_BadRing, gg_BadRing := h_gg_BadRing, hd_BadRing := h_hd_BadRing, hc_BadRing := h_hc_BadRing, mo_BadRing := h_mo_BadRing, i_BadRing_BadNumber := h_i_BadRing_BadNumber, i_BadRing_BadRing := h_i_BadRing_BadRing, i_BadRing_BadWord := h_i_BadRing_BadWord, i_BadRing_NoRing := h_i_BadRing_NoRing, i_BadRing_TooMany := h_i_BadRing_TooMany, i_BadRing_V := h_i_BadRing_V, m_BadRing := h_m_BadRing, ga_BadWord := h_ga_BadWord, gg_BadWord := h_gg_BadWord, hd_BadWord := h_hd_BadWord, hc_BadWord := h_hc_BadWord, mo_BadWord := h_mo_BadWord, i_BadWord_BadNumber := h_i_BadWord_BadNumber, i_BadWord_BadRing := h_i_BadWord_BadRing, i_BadWord_BadWord := h_i_BadWord_BadWord, i_BadWord_NoRing := h_i_BadWord_NoRing, i_BadWord_TooMany := h_i_BadWord_TooMany, i_BadWord_V := h_i_BadWord_V, m_BadWord := h_m_BadWord, ga_NoRing := h_ga_NoRing, gg_NoRing := h_gg_NoRing, hd_NoRing := h_hd_NoRing, hc_NoRing := h_hc_NoRing, mo_NoRing := h_mo_NoRing, i_NoRing_BadNumber := h_i_NoRing_BadNumber, i_NoRing_BadRing := h_i_NoRing_BadRing, i_NoRing_BadWord := h_i_NoRing_BadWord, i_NoRing_NoRing := h_i_NoRing_NoRing, i_NoRing_TooMany := h_i_NoRing_TooMany, i_NoRing_V := h_i_NoRing_V, m_NoRing := h_m_NoRing, ga_TooMany := h_ga_TooMany, gg_TooMany := h_gg_TooMany, hd_TooMany := h_hd_TooMany, hc_TooMany := h_hc_TooMany, mo_TooMany := h_mo_TooMany, i_TooMany_BadNumber := h_i_TooMany_BadNumber, i_TooMany_BadRing := h_i_TooMany_BadRing, i_TooMany_BadWord := h_i_TooMany_BadWord, i_TooMany_NoRing := h_i_TooMany_NoRing, i_TooMany_TooMany := h_i_TooMany_TooMany, i_TooMany_V := h_i_TooMany_V, m_TooMany := h_m_TooMany, sp := h_sp, tk := h_tk, sE := h_sE, hE := h_hE, yE := h_yE }
  have S_is_whole : Src K mg "is_whole" s_is_whole ["thing"] := ⟨f_is_whole, _, PySem.W.mg_of X G g_is_whole, fun_mk (st := s_is_whole) l_is_whole d_is_whole p_is_whole, (fun_mk (st := s_is_whole) l_is_whole d_is_whole p_is_whole).binds (ps := ["thing"]) fun _ _ _ _ _ _ us hl => match us, hl with | [_], _ => rfl⟩
  have S_need_length : Src K mg "need_length" s_need_length ["thing"] := ⟨f_need_length, _, PySem.W.mg_of X G g_need_length, fun_mk (st := s_need_length) l_need_length d_need_length p_need_length, (fun_mk (st := s_need_length) l_need_length d_need_length p_need_length).binds (ps := ["thing"]) fun _ _ _ _ _ _ us hl => match us, hl with | [_], _ => rfl⟩
  have S_need_colours : Src K mg "need_colours" s_need_colours ["thing"] := ⟨f_need_colours, _, PySem.W.mg_of X G g_need_colours, fun_mk (st := s_need_colours) l_need_colours d_need_colours p_need_colours, (fun_mk (st := s_need_colours) l_need_colours d_need_colours p_need_colours).binds (ps := ["thing"]) fun _ _ _ _ _ _ us hl => match us, hl with | [_], _ => rfl⟩
  have S_need_few : Src K mg "need_few" s_need_few ["many"] := ⟨f_need_few, _, PySem.W.mg_of X G g_need_few, fun_mk (st := s_need_few) l_need_few d_need_few p_need_few, (fun_mk (st := s_need_few) l_need_few d_need_few p_need_few).binds (ps := ["many"]) fun _ _ _ _ _ _ us hl => match us, hl with | [_], _ => rfl⟩
  have S_many_words : Src K mg "many_words" s_many_words ["length", "colours"] := ⟨f_many_words, _, PySem.W.mg_of X G g_many_words, fun_mk (st := s_many_words) l_many_words d_many_words p_many_words, (fun_mk (st := s_many_words) l_many_words d_many_words p_many_words).binds (ps := ["length", "colours"]) fun _ _ _ _ _ _ us hl => match us, hl with | [_, _], _ => rfl⟩
  have S_many_rings : Src K mg "many_rings" s_many_rings ["length", "colours"] := ⟨f_many_rings, _, PySem.W.mg_of X G g_many_rings, fun_mk (st := s_many_rings) l_many_rings d_many_rings p_many_rings, (fun_mk (st := s_many_rings) l_many_rings d_many_rings p_many_rings).binds (ps := ["length", "colours"]) fun _ _ _ _ _ _ us hl => match us, hl with | [_, _], _ => rfl⟩
  have S_divisors : Src K mg "divisors" s_divisors ["number"] := ⟨f_divisors, _, PySem.W.mg_of X G g_divisors, fun_mk (st := s_divisors) l_divisors d_divisors p_divisors, (fun_mk (st := s_divisors) l_divisors d_divisors p_divisors).binds (ps := ["number"]) fun _ _ _ _ _ _ us hl => match us, hl with | [_], _ => rfl⟩
  have S_many_coprime : Src K mg "many_coprime" s_many_coprime ["number"] := ⟨f_many_coprime, _, PySem.W.mg_of X G g_many_coprime, fun_mk (st := s_many_coprime) l_many_coprime d_many_coprime p_many_coprime, (fun_mk (st := s_many_coprime) l_many_coprime d_many_coprime p_many_coprime).binds (ps := ["number"]) fun _ _ _ _ _ _ us hl => match us, hl with | [_], _ => rfl⟩
  have S_is_word : Src K mg "is_word" s_is_word ["thing"] := ⟨f_is_word, _, PySem.W.mg_of X G g_is_word, fun_mk (st := s_is_word) l_is_word d_is_word p_is_word, (fun_mk (st := s_is_word) l_is_word d_is_word p_is_word).binds (ps := ["thing"]) fun _ _ _ _ _ _ us hl => match us, hl with | [_], _ => rfl⟩
  have S_need_word : Src K mg "need_word" s_need_word ["thing"] := ⟨f_need_word, _, PySem.W.mg_of X G g_need_word, fun_mk (st := s_need_word) l_need_word d_need_word p_need_word, (fun_mk (st := s_need_word) l_need_word d_need_word p_need_word).binds (ps := ["thing"]) fun _ _ _ _ _ _ us hl => match us, hl with | [_], _ => rfl⟩
  have S_is_of_colours : Src K mg "is_of_colours" s_is_of_colours ["word", "colours"] := ⟨f_is_of_colours, _, PySem.W.mg_of X G g_is_of_colours, fun_mk (st := s_is_of_colours) l_is_of_colours d_is_of_colours p_is_of_colours, (fun_mk (st := s_is_of_colours) l_is_of_colours d_is_of_colours p_is_of_colours).binds (ps := ["word", "colours"]) fun _ _ _ _ _ _ us hl => match us, hl with | [_, _], _ => rfl⟩
  have S_turned : Src K mg "turned" s_turned ["word", "by"] := ⟨f_turned, _, PySem.W.mg_of X G g_turned, fun_mk (st := s_turned) l_turned d_turned p_turned, (fun_mk (st := s_turned) l_turned d_turned p_turned).binds (ps := ["word", "by"]) fun _ _ _ _ _ _ us hl => match us, hl with | [_, _], _ => rfl⟩
  have S_turnings : Src K mg "turnings" s_turnings ["word"] := ⟨f_turnings, _, PySem.W.mg_of X G g_turnings, fun_mk (st := s_turnings) l_turnings d_turnings p_turnings, (fun_mk (st := s_turnings) l_turnings d_turnings p_turnings).binds (ps := ["word"]) fun _ _ _ _ _ _ us hl => match us, hl with | [_], _ => rfl⟩
  have S_ring_of : Src K mg "ring_of" s_ring_of ["word"] := ⟨f_ring_of, _, PySem.W.mg_of X G g_ring_of, fun_mk (st := s_ring_of) l_ring_of d_ring_of p_ring_of, (fun_mk (st := s_ring_of) l_ring_of d_ring_of p_ring_of).binds (ps := ["word"]) fun _ _ _ _ _ _ us hl => match us, hl with | [_], _ => rfl⟩
  have S_is_ring : Src K mg "is_ring" s_is_ring ["thing"] := ⟨f_is_ring, _, PySem.W.mg_of X G g_is_ring, fun_mk (st := s_is_ring) l_is_ring d_is_ring p_is_ring, (fun_mk (st := s_is_ring) l_is_ring d_is_ring p_is_ring).binds (ps := ["thing"]) fun _ _ _ _ _ _ us hl => match us, hl with | [_], _ => rfl⟩
  have S_period : Src K mg "period" s_period ["word"] := ⟨f_period, _, PySem.W.mg_of X G g_period, fun_mk (st := s_period) l_period d_period p_period, (fun_mk (st := s_period) l_period d_period p_period).binds (ps := ["word"]) fun _ _ _ _ _ _ us hl => match us, hl with | [_], _ => rfl⟩
  have S_next_ring : Src K mg "next_ring" s_next_ring ["ring", "colours"] := ⟨f_next_ring, _, PySem.W.mg_of X G g_next_ring, fun_mk (st := s_next_ring) l_next_ring d_next_ring p_next_ring, (fun_mk (st := s_next_ring) l_next_ring d_next_ring p_next_ring).binds (ps := ["ring", "colours"]) fun _ _ _ _ _ _ us hl => match us, hl with | [_, _], _ => rfl⟩
  have S_all_rings : Src K mg "all_rings" s_all_rings ["length", "colours"] := ⟨f_all_rings, _, PySem.W.mg_of X G g_all_rings, fun_mk (st := s_all_rings) l_all_rings d_all_rings p_all_rings, (fun_mk (st := s_all_rings) l_all_rings d_all_rings p_all_rings).binds (ps := ["length", "colours"]) fun _ _ _ _ _ _ us hl => match us, hl with | [_, _], _ => rfl⟩
  have S_number_of : Src K mg "number_of" s_number_of ["ring", "colours"] := ⟨f_number_of, _, PySem.W.mg_of X G g_number_of, fun_mk (st := s_number_of) l_number_of d_number_of p_number_of, (fun_mk (st := s_number_of) l_number_of d_number_of p_number_of).binds (ps := ["ring", "colours"]) fun _ _ _ _ _ _ us hl => match us, hl with | [_, _], _ => rfl⟩
  have S_ring_at : Src K mg "ring_at" s_ring_at ["number", "length", "colours"] := ⟨f_ring_at, _, PySem.W.mg_of X G g_ring_at, fun_mk (st := s_ring_at) l_ring_at d_ring_at p_ring_at, (fun_mk (st := s_ring_at) l_ring_at d_ring_at p_ring_at).binds (ps := ["number", "length", "colours"]) fun _ _ _ _ _ _ us hl => match us, hl with | [_, _, _], _ => rfl⟩
  have S_need_ring : Src K mg "need_ring" s_need_ring ["thing", "colours"] := ⟨f_need_ring, _, PySem.W.mg_of X G g_need_ring, fun_mk (st := s_need_ring) l_need_ring d_need_ring p_need_ring, (fun_mk (st := s_need_ring) l_need_ring d_need_ring p_need_ring).binds (ps := ["thing", "colours"]) fun _ _ _ _ _ _ us hl => match us, hl with | [_, _], _ => rfl⟩
  have S_ring_behind : Src K mg "ring_behind" s_ring_behind ["ring", "colours"] := ⟨f_ring_behind, _, PySem.W.mg_of X G g_ring_behind, fun_mk (st := s_ring_behind) l_ring_behind d_ring_behind p_ring_behind, (fun_mk (st := s_ring_behind) l_ring_behind d_ring_behind p_ring_behind).binds (ps := ["ring", "colours"]) fun _ _ _ _ _ _ us hl => match us, hl with | [_, _], _ => rfl⟩
  have S_long_word : Src K mg "long_word" s_long_word ["length", "colours"] := ⟨f_long_word, _, PySem.W.mg_of X G g_long_word, fun_mk (st := s_long_word) l_long_word d_long_word p_long_word, (fun_mk (st := s_long_word) l_long_word d_long_word p_long_word).binds (ps := ["length", "colours"]) fun _ _ _ _ _ _ us hl => match us, hl with | [_, _], _ => rfl⟩
  have S_place_of : Src K mg "place_of" s_place_of ["text", "length", "colours"] := ⟨f_place_of, _, PySem.W.mg_of X G g_place_of, fun_mk (st := s_place_of) l_place_of d_place_of p_place_of, (fun_mk (st := s_place_of) l_place_of d_place_of p_place_of).binds (ps := ["text", "length", "colours"]) fun _ _ _ _ _ _ us hl => match us, hl with | [_, _, _], _ => rfl⟩
  have S__law_mixed : Src K mg "_law_mixed" s__law_mixed ["_law_cell", "_law_k"] := ⟨f__law_mixed, _, PySem.W.mg_of X G g__law_mixed, fun_mk (st := s__law_mixed) l__law_mixed d__law_mixed p__law_mixed, (fun_mk (st := s__law_mixed) l__law_mixed d__law_mixed p__law_mixed).binds (ps := ["_law_cell", "_law_k"]) fun _ _ _ _ _ _ us hl => match us, hl with | [_, _], _ => rfl⟩
  have S__law_number : Src K mg "_law_number" s__law_number ["_law_script", "_law_k"] := ⟨f__law_number, _, PySem.W.mg_of X G g__law_number, fun_mk (st := s__law_number) l__law_number d__law_number p__law_number, (fun_mk (st := s__law_number) l__law_number d__law_number p__law_number).binds (ps := ["_law_script", "_law_k"]) fun _ _ _ _ _ _ us hl => match us, hl with | [_, _], _ => rfl⟩
  have S__law_kind : Src K mg "_law_kind" s__law_kind ["_law_e"] := ⟨f__law_kind, _, PySem.W.mg_of X G g__law_kind, fun_mk (st := s__law_kind) l__law_kind d__law_kind p__law_kind, (fun_mk (st := s__law_kind) l__law_kind d__law_kind p__law_kind).binds (ps := ["_law_e"]) fun _ _ _ _ _ _ us hl => match us, hl with | [_], _ => rfl⟩
  have S__law_called : Src K mg "_law_called" s__law_called ["_law_way", "_law_things"] := ⟨f__law_called, _, PySem.W.mg_of X G g__law_called, fun_mk (st := s__law_called) l__law_called d__law_called p__law_called, (fun_mk (st := s__law_called) l__law_called d__law_called p__law_called).binds (ps := ["_law_way", "_law_things"]) fun _ _ _ _ _ _ us hl => match us, hl with | [_, _], _ => rfl⟩
  have S__law_said : Src K mg "_law_said" s__law_said ["_law_way", "_law_things"] := ⟨f__law_said, _, PySem.W.mg_of X G g__law_said, fun_mk (st := s__law_said) l__law_said d__law_said p__law_said, (fun_mk (st := s__law_said) l__law_said d__law_said p__law_said).binds (ps := ["_law_way", "_law_things"]) fun _ _ _ _ _ _ us hl => match us, hl with | [_, _], _ => rfl⟩
  have S__law_all : Src K mg "_law_all" s__law_all ["_law_tried"] := ⟨f__law_all, _, PySem.W.mg_of X G g__law_all, fun_mk (st := s__law_all) l__law_all d__law_all p__law_all, (fun_mk (st := s__law_all) l__law_all d__law_all p__law_all).binds (ps := ["_law_tried"]) fun _ _ _ _ _ _ us hl => match us, hl with | [_], _ => rfl⟩
  have S__law_rings_right : Src K mg "_law_rings_right" s__law_rings_right ["_law_odd", "_law_bad"] := ⟨f__law_rings_right, _, PySem.W.mg_of X G g__law_rings_right, fun_mk (st := s__law_rings_right) l__law_rings_right d__law_rings_right p__law_rings_right, (fun_mk (st := s__law_rings_right) l__law_rings_right d__law_rings_right p__law_rings_right).binds (ps := ["_law_odd", "_law_bad"]) fun _ _ _ _ _ _ us hl => match us, hl with | [_, _], _ => rfl⟩
  have S__law_bounds_right : Src K mg "_law_bounds_right" s__law_bounds_right [] := ⟨f__law_bounds_right, _, PySem.W.mg_of X G g__law_bounds_right, fun_mk (st := s__law_bounds_right) l__law_bounds_right d__law_bounds_right p__law_bounds_right, (fun_mk (st := s__law_bounds_right) l__law_bounds_right d__law_bounds_right p__law_bounds_right).binds (ps := []) fun _ _ _ _ _ _ us hl => match us, hl with | [], _ => rfl⟩
  have S__law_sizes_right : Src K mg "_law_sizes_right" s__law_sizes_right ["_law_length", "_law_bad"] := ⟨f__law_sizes_right, _, PySem.W.mg_of X G g__law_sizes_right, fun_mk (st := s__law_sizes_right) l__law_sizes_right d__law_sizes_right p__law_sizes_right, (fun_mk (st := s__law_sizes_right) l__law_sizes_right d__law_sizes_right p__law_sizes_right).binds (ps := ["_law_length", "_law_bad"]) fun _ _ _ _ _ _ us hl => match us, hl with | [_, _], _ => rfl⟩
  have S__law_last_right : Src K mg "_law_last_right" s__law_last_right ["_law_length", "_law_colours", "_law_cell"] := ⟨f__law_last_right, _, PySem.W.mg_of X G g__law_last_right, fun_mk (st := s__law_last_right) l__law_last_right d__law_last_right p__law_last_right, (fun_mk (st := s__law_last_right) l__law_last_right d__law_last_right p__law_last_right).binds (ps := ["_law_length", "_law_colours", "_law_cell"]) fun _ _ _ _ _ _ us hl => match us, hl with | [_, _, _], _ => rfl⟩
  refine ⟨PySem.W.fnOf "law" "law" (defArgs s_law) (defBody s_law) (defScope s_law) .none kV_law dc_law pm_law an_law cd_law ct_law, fun s v => .of_eq rfl, fun base _ _ => ?_⟩
  have D__law_mixed := has__law_mixed (P := l.prog) (w := w) (base := base) T S__law_mixed
  have D__law_number := has__law_number (P := l.prog) (w := w) (base := base) T S__law_number D__law_mixed
  have D_is_word := has_is_word (P := l.prog) (w := w) (base := base) T S_is_word
  have D_need_word := has_need_word (P := l.prog) (w := w) (base := base) T S_need_word D_is_word
  have D_is_whole := has_is_whole (P := l.prog) (w := w) (base := base) T S_is_whole
  have D_turned := has_turned (P := l.prog) (w := w) (base := base) T S_turned D_need_word D_is_whole
  have D_turnings := has_turnings (P := l.prog) (w := w) (base := base) T S_turnings D_need_word D_turned
  have D__law_kind := has__law_kind (P := l.prog) (w := w) (base := base) T S__law_kind
  have D_need_length := has_need_length (P := l.prog) (w := w) (base := base) T S_need_length D_is_whole
  have D_need_colours := has_need_colours (P := l.prog) (w := w) (base := base) T S_need_colours D_is_whole
  have D_need_few := has_need_few (P := l.prog) (w := w) (base := base) T S_need_few
  have D_many_words := has_many_words (P := l.prog) (w := w) (base := base) T S_many_words
  have D_divisors := has_divisors (P := l.prog) (w := w) (base := base) T S_divisors
  have D_many_coprime := has_many_coprime (P := l.prog) (w := w) (base := base) T S_many_coprime
  have D_many_rings := has_many_rings (P := l.prog) (w := w) (base := base) T S_many_rings D_need_length D_need_colours D_divisors D_many_coprime D_many_words
  have D_ring_of := has_ring_of (P := l.prog) (w := w) (base := base) T S_ring_of D_turnings
  have D_is_ring := has_is_ring (P := l.prog) (w := w) (base := base) T S_is_ring D_is_word D_ring_of
  have D_is_of_colours := has_is_of_colours (P := l.prog) (w := w) (base := base) T S_is_of_colours
  have D_period := has_period (P := l.prog) (w := w) (base := base) T S_period D_need_word
  have D_ring_behind := has_ring_behind (P := l.prog) (w := w) (base := base) T S_ring_behind
  have D_need_ring := has_need_ring (P := l.prog) (w := w) (base := base) T S_need_ring D_is_ring D_need_colours D_is_of_colours
  have D_next_ring := has_next_ring (P := l.prog) (w := w) (base := base) T S_next_ring D_need_ring D_ring_behind
  have D_all_rings := has_all_rings (P := l.prog) (w := w) (base := base) T S_all_rings D_need_few D_many_rings D_ring_behind
  have D_number_of := has_number_of (P := l.prog) (w := w) (base := base) T S_number_of D_need_ring D_all_rings
  have D_ring_at := has_ring_at (P := l.prog) (w := w) (base := base) T S_ring_at D_is_whole D_all_rings
  have D_long_word := has_long_word (P := l.prog) (w := w) (base := base) T S_long_word D_need_length D_need_colours D_need_few D_many_words D_all_rings D_period
  have D_place_of := has_place_of (P := l.prog) (w := w) (base := base) T S_place_of D_long_word D_is_word D_is_of_colours
  have D__law_called := has__law_called (P := l.prog) (w := w) (base := base) T S__law_called D_next_ring D_number_of D_all_rings D_long_word D_ring_at D_place_of
  have D__law_said := has__law_said (P := l.prog) (w := w) (base := base) T S__law_said D__law_called D__law_kind
  have D__law_all := has__law_all (P := l.prog) (w := w) (base := base) T S__law_all D__law_said
  have D__law_rings_right := has__law_rings_right (P := l.prog) (w := w) (base := base) T S__law_rings_right D__law_all
  have D__law_bounds_right := has__law_bounds_right (P := l.prog) (w := w) (base := base) T S__law_bounds_right D__law_all
  have D__law_sizes_right := has__law_sizes_right (P := l.prog) (w := w) (base := base) T S__law_sizes_right D__law_all
  have D__law_last_right := has__law_last_right (P := l.prog) (w := w) (base := base) T S__law_last_right D_many_rings D__law_all
  exact ok_law T (fun_mk (st := s_law) l_law d_law p_law) D__law_number D__law_rings_right D__law_sizes_right D__law_last_right D__law_bounds_right
end Br
open PySem PySem.W PyProof.Rows
set_option maxRecDepth 100000 in
set_option maxHeartbeats 0 in
theorem PySem.Challenge.cw_beadrings_k11_refused_holds : PySem.Challenge.rw_beadrings_k11_refused.Holds := by
  w_on; o_law; k_head; (case hw => w_witness2)
  k_fill
  refine L2.walk_ofK (l := PySem.Challenge.rw_beadrings_k11_refused) (n := 63) (k := 14) (x := "_law_script") (CX := L2.CX0) (sp := Br.sp_law) rfl (by decide) rfl ⟨rfl, by decide, by decide⟩ (fun w h Y => PySem.W.kIn_of Y) ?F Br.law_asked (fun _ _ _ _ z => z)
  case F =>
    intro w mg fa h KX G hmg
    refine' Br.all_mk KX G hmg ?h_b_ValueError ?h_b_all ?h_b_bool ?h_b_int ?h_b_isinstance ?h_b_len ?h_b_min ?h_b_range ?h_b_sorted ?h_b_str ?h_g_gcd ?h_c_MOST_LETTERS ?r_c_MOST_LETTERS ?h_c_MOST_COLOURS ?r_c_MOST_COLOURS ?h_c_MOST_TOLD ?r_c_MOST_TOLD ?h_c_LETTERS ?r_c_LETTERS ?h_k_BeadError ?h_k_BadNumber ?h_k_BadRing ?h_k_BadWord ?h_k_NoRing ?h_k_TooMany ?h_x_BadNumber ?h_p_BadNumber ?h_s_BadNumber ?h_y_BadNumber ?h_x_TooMany ?h_p_TooMany ?h_s_TooMany ?h_y_TooMany ?h_x_BadWord ?h_p_BadWord ?h_s_BadWord ?h_y_BadWord ?h_x_NoRing ?h_p_NoRing ?h_s_NoRing ?h_y_NoRing ?h_x_BadRing ?h_p_BadRing ?h_s_BadRing ?h_y_BadRing ?h_ga_BadNumber ?h_gg_BadNumber ?h_hd_BadNumber ?h_hc_BadNumber ?h_mo_BadNumber ?h_i_BadNumber_BadNumber ?h_i_BadNumber_BadRing ?h_i_BadNumber_BadWord ?h_i_BadNumber_NoRing ?h_i_BadNumber_TooMany ?h_i_BadNumber_V ?h_m_BadNumber ?h_ga_BadRing ?h_gg_BadRing ?h_hd_BadRing ?h_hc_BadRing ?h_mo_BadRing ?h_i_BadRing_BadNumber ?h_i_BadRing_BadRing ?h_i_BadRing_BadWord ?h_i_BadRing_NoRing ?h_i_BadRing_TooMany ?h_i_BadRing_V ?h_m_BadRing ?h_ga_BadWord ?h_gg_BadWord ?h_hd_BadWord ?h_hc_BadWord ?h_mo_BadWord ?h_i_BadWord_BadNumber ?h_i_BadWord_BadRing ?h_i_BadWord_BadWord ?h_i_BadWord_NoRing ?h_i_BadWord_TooMany ?h_i_BadWord_V ?h_m_BadWord ?h_ga_NoRing ?h_gg_NoRing ?h_hd_NoRing ?h_hc_NoRing ?h_mo_NoRing ?h_i_NoRing_BadNumber ?h_i_NoRing_BadRing ?h_i_NoRing_BadWord ?h_i_NoRing_NoRing ?h_i_NoRing_TooMany ?h_i_NoRing_V ?h_m_NoRing ?h_ga_TooMany ?h_gg_TooMany ?h_hd_TooMany ?h_hc_TooMany ?h_mo_TooMany ?h_i_TooMany_BadNumber ?h_i_TooMany_BadRing ?h_i_TooMany_BadWord ?h_i_TooMany_NoRing ?h_i_TooMany_TooMany ?h_i_TooMany_V ?h_m_TooMany ?h_sp ?h_tk ?h_sE ?h_hE ?h_yE ?g_is_whole ?l_is_whole ?d_is_whole ?p_is_whole ?g_need_length ?l_need_length ?d_need_length ?p_need_length ?g_need_colours ?l_need_colours ?d_need_colours ?p_need_colours ?g_need_few ?l_need_few ?d_need_few ?p_need_few ?g_many_words ?l_many_words ?d_many_words ?p_many_words ?g_many_rings ?l_many_rings ?d_many_rings ?p_many_rings ?g_divisors ?l_divisors ?d_divisors ?p_divisors ?g_many_coprime ?l_many_coprime ?d_many_coprime ?p_many_coprime ?g_is_word ?l_is_word ?d_is_word ?p_is_word ?g_need_word ?l_need_word ?d_need_word ?p_need_word ?g_is_of_colours ?l_is_of_colours ?d_is_of_colours ?p_is_of_colours ?g_turned ?l_turned ?d_turned ?p_turned ?g_turnings ?l_turnings ?d_turnings ?p_turnings ?g_ring_of ?l_ring_of ?d_ring_of ?p_ring_of ?g_is_ring ?l_is_ring ?d_is_ring ?p_is_ring ?g_period ?l_period ?d_period ?p_period ?g_next_ring ?l_next_ring ?d_next_ring ?p_next_ring ?g_all_rings ?l_all_rings ?d_all_rings ?p_all_rings ?g_number_of ?l_number_of ?d_number_of ?p_number_of ?g_ring_at ?l_ring_at ?d_ring_at ?p_ring_at ?g_need_ring ?l_need_ring ?d_need_ring ?p_need_ring ?g_ring_behind ?l_ring_behind ?d_ring_behind ?p_ring_behind ?g_long_word ?l_long_word ?d_long_word ?p_long_word ?g_place_of ?l_place_of ?d_place_of ?p_place_of ?g__law_mixed ?l__law_mixed ?d__law_mixed ?p__law_mixed ?g__law_number ?l__law_number ?d__law_number ?p__law_number ?g__law_kind ?l__law_kind ?d__law_kind ?p__law_kind ?g__law_called ?l__law_called ?d__law_called ?p__law_called ?g__law_said ?l__law_said ?d__law_said ?p__law_said ?g__law_all ?l__law_all ?d__law_all ?p__law_all ?g__law_rings_right ?l__law_rings_right ?d__law_rings_right ?p__law_rings_right ?g__law_bounds_right ?l__law_bounds_right ?d__law_bounds_right ?p__law_bounds_right ?g__law_sizes_right ?l__law_sizes_right ?d__law_sizes_right ?p__law_sizes_right ?g__law_last_right ?l__law_last_right ?d__law_last_right ?p__law_last_right ?g_law ?l_law ?d_law ?p_law
    (case h_b_ValueError => k_is)
    (case h_b_all => k_is)
    (case h_b_bool => k_is)
    (case h_b_int => k_is)
    (case h_b_isinstance => k_is)
    (case h_b_len => k_is)
    (case h_b_min => k_is)
    (case h_b_range => k_is)
    (case h_b_sorted => k_is)
    (case h_b_str => k_is)
    (case h_g_gcd => k_is)
    (case h_c_MOST_LETTERS => k_is)
    (case r_c_MOST_LETTERS => exact ⟨_, rfl⟩)
    (case h_c_MOST_COLOURS => k_is)
    (case r_c_MOST_COLOURS => exact ⟨_, rfl⟩)
    (case h_c_MOST_TOLD => k_is)
    (case r_c_MOST_TOLD => exact ⟨_, rfl⟩)
    (case h_c_LETTERS => k_is)
    (case r_c_LETTERS => exact ⟨_, rfl⟩)
    (case h_k_BeadError => k_is)
    (case h_k_BadNumber => k_is)
    (case h_k_BadRing => k_is)
    (case h_k_BadWord => k_is)
    (case h_k_NoRing => k_is)
    (case h_k_TooMany => k_is)
    (case h_x_BadNumber => k_exc)
    (case h_p_BadNumber => k_is)
    (case h_s_BadNumber => k_is)
    (case h_y_BadNumber => k_is)
    (case h_x_TooMany => k_exc)
    (case h_p_TooMany => k_is)
    (case h_s_TooMany => k_is)
    (case h_y_TooMany => k_is)
    (case h_x_BadWord => k_exc)
    (case h_p_BadWord => k_is)
    (case h_s_BadWord => k_is)
    (case h_y_BadWord => k_is)
    (case h_x_NoRing => k_exc)
    (case h_p_NoRing => k_is)
    (case h_s_NoRing => k_is)
    (case h_y_NoRing => k_is)
    (case h_x_BadRing => k_exc)
    (case h_p_BadRing => k_is)
    (case h_s_BadRing => k_is)
    (case h_y_BadRing => k_is)
    (case h_ga_BadNumber => k_is)
    (case h_gg_BadNumber => k_is)
    (case h_hd_BadNumber => k_is)
    (case h_hc_BadNumber => k_is)
    (case h_mo_BadNumber => k_is)
    (case h_i_BadNumber_BadNumber => kit_is)
    (case h_i_BadNumber_BadRing => kit_is)
    (case h_i_BadNumber_BadWord => kit_is)
    (case h_i_BadNumber_NoRing => kit_is)
    (case h_i_BadNumber_TooMany => kit_is)
    (case h_i_BadNumber_V => kit_is)
    (case h_m_BadNumber => k_is)
    (case h_ga_BadRing => k_is)
    (case h_gg_BadRing => k_is)
    (case h_hd_BadRing => k_is)
    (case h_hc_BadRing => k_is)
    (case h_mo_BadRing => k_is)
    (case h_i_BadRing_BadNumber => kit_is)
    (case h_i_BadRing_BadRing => kit_is)
    (case h_i_BadRing_BadWord => kit_is)
    (case h_i_BadRing_NoRing => kit_is)
    (case h_i_BadRing_TooMany => kit_is)
    (case h_i_BadRing_V => kit_is)
    (case h_m_BadRing => k_is)
    (case h_ga_BadWord => k_is)
    (case h_gg_BadWord => k_is)
    (case h_hd_BadWord => k_is)
    (case h_hc_BadWord => k_is)
    (case h_mo_BadWord => k_is)
    (case h_i_BadWord_BadNumber => kit_is)
    (case h_i_BadWord_BadRing => kit_is)
    (case h_i_BadWord_BadWord => kit_is)
    (case h_i_BadWord_NoRing => kit_is)
    (case h_i_BadWord_TooMany => kit_is)
    (case h_i_BadWord_V => kit_is)
    (case h_m_BadWord => k_is)
    (case h_ga_NoRing => k_is)
    (case h_gg_NoRing => k_is)
    (case h_hd_NoRing => k_is)
    (case h_hc_NoRing => k_is)
    (case h_mo_NoRing => k_is)
    (case h_i_NoRing_BadNumber => kit_is)
    (case h_i_NoRing_BadRing => kit_is)
    (case h_i_NoRing_BadWord => kit_is)
    (case h_i_NoRing_NoRing => kit_is)
    (case h_i_NoRing_TooMany => kit_is)
    (case h_i_NoRing_V => kit_is)
    (case h_m_NoRing => k_is)
    (case h_ga_TooMany => k_is)
    (case h_gg_TooMany => k_is)
    (case h_hd_TooMany => k_is)
    (case h_hc_TooMany => k_is)
    (case h_mo_TooMany => k_is)
    (case h_i_TooMany_BadNumber => kit_is)
    (case h_i_TooMany_BadRing => kit_is)
    (case h_i_TooMany_BadWord => kit_is)
    (case h_i_TooMany_NoRing => kit_is)
    (case h_i_TooMany_TooMany => kit_is)
    (case h_i_TooMany_V => kit_is)
    (case h_m_TooMany => k_is)
    (case h_sp => k_is)
    (case h_tk => k_is)
    (case h_sE => k_is)
    (case h_hE => k_is)
    (case h_yE => k_is)
    (case g_is_whole => k_is)
    (case l_is_whole => k_is)
    (case d_is_whole => k_is)
    (case p_is_whole => k_is)
    (case g_need_length => k_is)
    (case l_need_length => k_is)
    (case d_need_length => k_is)
    (case p_need_length => k_is)
    (case g_need_colours => k_is)
    (case l_need_colours => k_is)
    (case d_need_colours => k_is)
    (case p_need_colours => k_is)
    (case g_need_few => k_is)
    (case l_need_few => k_is)
    (case d_need_few => k_is)
    (case p_need_few => k_is)
    (case g_many_words => k_is)
    (case l_many_words => k_is)
    (case d_many_words => k_is)
    (case p_many_words => k_is)
    (case g_many_rings => k_is)
    (case l_many_rings => k_is)
    (case d_many_rings => k_is)
    (case p_many_rings => k_is)
    (case g_divisors => k_is)
    (case l_divisors => k_is)
    (case d_divisors => k_is)
    (case p_divisors => k_is)
    (case g_many_coprime => k_is)
    (case l_many_coprime => k_is)
    (case d_many_coprime => k_is)
    (case p_many_coprime => k_is)
    (case g_is_word => k_is)
    (case l_is_word => k_is)
    (case d_is_word => k_is)
    (case p_is_word => k_is)
    (case g_need_word => k_is)
    (case l_need_word => k_is)
    (case d_need_word => k_is)
    (case p_need_word => k_is)
    (case g_is_of_colours => k_is)
    (case l_is_of_colours => k_is)
    (case d_is_of_colours => k_is)
    (case p_is_of_colours => k_is)
    (case g_turned => k_is)
    (case l_turned => k_is)
    (case d_turned => k_is)
    (case p_turned => k_is)
    (case g_turnings => k_is)
    (case l_turnings => k_is)
    (case d_turnings => k_is)
    (case p_turnings => k_is)
    (case g_ring_of => k_is)
    (case l_ring_of => k_is)
    (case d_ring_of => k_is)
    (case p_ring_of => k_is)
    (case g_is_ring => k_is)
    (case l_is_ring => k_is)
    (case d_is_ring => k_is)
    (case p_is_ring => k_is)
    (case g_period => k_is)
    (case l_period => k_is)
    (case d_period => k_is)
    (case p_period => k_is)
    (case g_next_ring => k_is)
    (case l_next_ring => k_is)
    (case d_next_ring => k_is)
    (case p_next_ring => k_is)
    (case g_all_rings => k_is)
    (case l_all_rings => k_is)
    (case d_all_rings => k_is)
    (case p_all_rings => k_is)
    (case g_number_of => k_is)
    (case l_number_of => k_is)
    (case d_number_of => k_is)
    (case p_number_of => k_is)
    (case g_ring_at => k_is)
    (case l_ring_at => k_is)
    (case d_ring_at => k_is)
    (case p_ring_at => k_is)
    (case g_need_ring => k_is)
    (case l_need_ring => k_is)
    (case d_need_ring => k_is)
    (case p_need_ring => k_is)
    (case g_ring_behind => k_is)
    (case l_ring_behind => k_is)
    (case d_ring_behind => k_is)
    (case p_ring_behind => k_is)
    (case g_long_word => k_is)
    (case l_long_word => k_is)
    (case d_long_word => k_is)
    (case p_long_word => k_is)
    (case g_place_of => k_is)
    (case l_place_of => k_is)
    (case d_place_of => k_is)
    (case p_place_of => k_is)
    (case g__law_mixed => k_is)
    (case l__law_mixed => k_is)
    (case d__law_mixed => k_is)
    (case p__law_mixed => k_is)
    (case g__law_number => k_is)
    (case l__law_number => k_is)
    (case d__law_number => k_is)
    (case p__law_number => k_is)
    (case g__law_kind => k_is)
    (case l__law_kind => k_is)
    (case d__law_kind => k_is)
    (case p__law_kind => k_is)
    (case g__law_called => k_is)
    (case l__law_called => k_is)
    (case d__law_called => k_is)
    (case p__law_called => k_is)
    (case g__law_said => k_is)
    (case l__law_said => k_is)
    (case d__law_said => k_is)
    (case p__law_said => k_is)
    (case g__law_all => k_is)
    (case l__law_all => k_is)
    (case d__law_all => k_is)
    (case p__law_all => k_is)
    (case g__law_rings_right => k_is)
    (case l__law_rings_right => k_is)
    (case d__law_rings_right => k_is)
    (case p__law_rings_right => k_is)
    (case g__law_bounds_right => k_is)
    (case l__law_bounds_right => k_is)
    (case d__law_bounds_right => k_is)
    (case p__law_bounds_right => k_is)
    (case g__law_sizes_right => k_is)
    (case l__law_sizes_right => k_is)
    (case d__law_sizes_right => k_is)
    (case p__law_sizes_right => k_is)
    (case g__law_last_right => k_is)
    (case l__law_last_right => k_is)
    (case d__law_last_right => k_is)
    (case p__law_last_right => k_is)
    (case g_law => k_is)
    (case l_law => k_is)
    (case d_law => k_is)
    (case p_law => k_is)

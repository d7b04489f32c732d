import PyProof.Rows.All
import Wide.All
import OpenK.AllK
import Wide.FinOn
import Lean
import PyProof.EqAt
import PyProof.EqKinds
import PyProof.TupleCall
import PySem.Challenge.RW_formcycle_k69_no_chain
set_option Elab.async false
set_option linter.all false
set_option maxRecDepth 100000
set_option maxRecDepth 1000000
set_option maxHeartbeats 0
namespace My
open PySem PySem.W
def topT (tb : String → Option Builtin) (p : Program) (w : World) (m : Nat) (ann : Option Value) : Nat → SharedT → Thread → Option SharedT
  | 0, _, _ => none
  | k + 1, s, t => match through t with
    | true => some s
    | false => match stepOk m ann t with
      | false => none
      | true => match stepT (denote tb) p w s t with
        | some (s', t') => topT tb p w m ann k s' t'
        | none => none
theorem topT_of {tb : String → Option Builtin} {p : Program} {w : World} {m : Nat} {ann : Option Value} : ∀ (k : Nat) {s r : SharedT} {t : Thread}, topT tb p w m ann k s t = some r → topRun tb p w m ann k s.abs t = some r.abs
  | 0, s, r, t, h => by cases h
  | k + 1, s, r, t, h => by
    unfold topT at h
    unfold topRun
    cases e : through t with
    | true =>
      rw [e] at h
      cases h
      rfl
    | false =>
      rw [e] at h
      dsimp only at h ⊢
      cases e2 : stepOk m ann t with
      | false => rw [e2] at h; cases h
      | true =>
        rw [e2] at h
        dsimp only at h ⊢
        cases e3 : stepT (denote tb) p w s t with
        | none => rw [e3] at h; cases h
        | some st =>
          obtain ⟨s', t'⟩ := st
          rw [e3] at h
          rw [stepT_spec e3]
          exact topT_of k h
def growT : List Obj → Nat → BT → BT
  | [], _, t => t
  | o :: os, n, t => growT os (n + 1) (t.ins n o)
noncomputable def bootT (w : World) (os : OsState) : SharedT := ⟨growT (boot_heap w.params).objs.toList 0 .nil, (boot_heap w.params).objs.size, (boot_heap w.params).life, Array.mk [], boot_drawn, boot_toks, os⟩
noncomputable def bootS (w : World) (os : OsState) : Shared := ⟨boot_heap w.params, Array.mk [], boot_drawn, boot_toks, os⟩
def stays (p : Program) (s₀ s₁ : Shared) : Bool := staticsOk (importedModules p.main.body) s₀.heap s₁.heap && namesBound p s₁.heap && gensDone s₁ && laidKept s₀.heap s₁.heap
theorem boot_abs : ∀ w os, (bootT w os).abs = bootS w os := fun w os => by kernel_rfl
theorem ends_of {p : Program} {w : World} {N : Nat} {α : Type} {F : Shared → α} {g : α} (e : opening p = plainProg p.main.scope.names) (hN : Nat.ble 600 N = true) (f : ∀ s, fenceModules? p s = some s)
    (h : ∀ os, (topT treeTable p w (bootS w os).heap.objs.size ((bootS w os).heap.nsMap mainGlobals "__annotations__") N (bootT w os) (topStub p)).map (fun r => (stays p (bootS w os) r.abs, F r.abs)) = some (true, g))
    (h0 : ∀ os, ((bootS w os).heap.isNs mainGlobals && (bootS w os).gens.size == 0) = true) : (openEnds treeTable p w N).map F = some g := by
  have hb := boot_open e hN f w
  unfold openEnds
  cases q : fencedOpening treeTable p w N with
  | none => rw [q] at hb; cases hb
  | some s =>
    rw [q] at hb
    have hs : s = bootS w s.os := by
      obtain ⟨a, b, c, d, o⟩ := s
      simp only [Option.map_some, Option.some.injEq, Prod.mk.injEq] at hb
      obtain ⟨rfl, rfl, rfl, rfl⟩ := hb
      rfl
    generalize s.os = o at hs
    subst hs
    show (topFrom treeTable p w N (bootS w o)).map F = some g
    unfold topFrom
    rw [h0 o]
    have hh := h o
    cases q2 : topT treeTable p w (bootS w o).heap.objs.size ((bootS w o).heap.nsMap mainGlobals "__annotations__") N (bootT w o) (topStub p) with
    | none => rw [q2] at hh; cases hh
    | some r =>
      rw [q2] at hh
      have hr := topT_of N q2
      rw [boot_abs] at hr
      simp only [Option.map_some, Option.some.injEq, Prod.mk.injEq] at hh
      obtain ⟨h1, h2⟩ := hh
      unfold stays at h1
      dsimp only
      rw [hr]
      show (match staticsOk (importedModules p.main.body) (bootS w o).heap r.abs.heap && namesBound p r.abs.heap && gensDone r.abs && laidKept (bootS w o).heap r.abs.heap with
        | true => some r.abs
        | false => none).map F = some g
      rw [h1]
      exact congrArg some h2
end My
set_option maxRecDepth 1000000
set_option maxHeartbeats 0
namespace My
open PySem PySem.W
noncomputable def KK : Params → Frag :=
fun (P : Params) => (nat_lit 2, Obj.mk Value.none Option.none (Data.dict #[]) #[]) ::
(nat_lit 3, Obj.mk (Value.type "dict") Option.none (Data.dict #[DictEntry.mk (PyData.keyHash P (Str.ofString "__name__")) (Value.str (Str.ofString "__name__") 165) (Value.str (Str.ofString "law_formcycle_k69_no_chain") 645), DictEntry.mk (PyData.keyHash P (Str.ofString "__doc__")) (Value.str (Str.ofString "__doc__") 166) Value.none, DictEntry.mk (PyData.keyHash P (Str.ofString "__package__")) (Value.str (Str.ofString "__package__") 167) Value.none, DictEntry.mk (PyData.keyHash P (Str.ofString "__loader__")) (Value.str (Str.ofString "__loader__") 168) (Value.builtin "__main__.__loader__#opaque"), DictEntry.mk (PyData.keyHash P (Str.ofString "__spec__")) (Value.str (Str.ofString "__spec__") 169) Value.none, DictEntry.mk (PyData.keyHash P (Str.ofString "__annotations__")) (Value.str (Str.ofString "__annotations__") 170) (Value.ref 6), DictEntry.mk (PyData.keyHash P (Str.ofString "__builtins__")) (Value.str (Str.ofString "__builtins__") 171) (Value.ref 4), DictEntry.mk (PyData.keyHash P (Str.ofString "__file__")) (Value.str (Str.ofString "__file__") 173) (Value.str (Str.ofString "/claim/cut.py") 172), DictEntry.mk (PyData.keyHash P (Str.ofString "__cached__")) (Value.str (Str.ofString "__cached__") 174) Value.none, DictEntry.mk (PyData.keyHash P (Str.ofString "FormError")) (Value.str (Str.ofString "FormError") 206) (Value.ref 24), DictEntry.mk (PyData.keyHash P (Str.ofString "NoTurn")) (Value.str (Str.ofString "NoTurn") 231) (Value.ref 44), DictEntry.mk (PyData.keyHash P (Str.ofString "NoShape")) (Value.str (Str.ofString "NoShape") 256) (Value.ref 63), DictEntry.mk (PyData.keyHash P (Str.ofString "TooGreat")) (Value.str (Str.ofString "TooGreat") 283) (Value.ref 82), DictEntry.mk (PyData.keyHash P (Str.ofString "NoRoot")) (Value.str (Str.ofString "NoRoot") 308) (Value.ref 101), DictEntry.mk (PyData.keyHash P (Str.ofString "NotLevel")) (Value.str (Str.ofString "NotLevel") 333) (Value.ref 120), DictEntry.mk (PyData.keyHash P (Str.ofString "NotOwn")) (Value.str (Str.ofString "NotOwn") 358) (Value.ref 139), DictEntry.mk (PyData.keyHash P (Str.ofString "Apart")) (Value.str (Str.ofString "Apart") 374) (Value.ref 151), DictEntry.mk (PyData.keyHash P (Str.ofString "NotPlain")) (Value.str (Str.ofString "NotPlain") 399) (Value.ref 170), DictEntry.mk (PyData.keyHash P (Str.ofString "NoMeasure")) (Value.str (Str.ofString "NoMeasure") 424) (Value.ref 189), DictEntry.mk (PyData.keyHash P (Str.ofString "Nought")) (Value.str (Str.ofString "Nought") 440) (Value.ref 201), DictEntry.mk (PyData.keyHash P (Str.ofString "NoAnswer")) (Value.str (Str.ofString "NoAnswer") 465) (Value.ref 220), DictEntry.mk (PyData.keyHash P (Str.ofString "root")) (Value.str (Str.ofString "root") 476) (Value.ref 229), DictEntry.mk (PyData.keyHash P (Str.ofString "is_square")) (Value.str (Str.ofString "is_square") 484) (Value.ref 236), DictEntry.mk (PyData.keyHash P (Str.ofString "check_at_most")) (Value.str (Str.ofString "check_at_most") 492) (Value.ref 243), DictEntry.mk (PyData.keyHash P (Str.ofString "MOST_NUMBER")) (Value.str (Str.ofString "MOST_NUMBER") 496) (Value.int 1000 495), DictEntry.mk (PyData.keyHash P (Str.ofString "MOST_PLACE")) (Value.str (Str.ofString "MOST_PLACE") 498) (Value.int 300 497), DictEntry.mk (PyData.keyHash P (Str.ofString "check_number")) (Value.str (Str.ofString "check_number") 505) (Value.ref 250), DictEntry.mk (PyData.keyHash P (Str.ofString "chain")) (Value.str (Str.ofString "chain") 514) (Value.ref 257), DictEntry.mk (PyData.keyHash P (Str.ofString "row_behind")) (Value.str (Str.ofString "row_behind") 525) (Value.ref 264), DictEntry.mk (PyData.keyHash P (Str.ofString "part")) (Value.str (Str.ofString "part") 533) (Value.ref 271), DictEntry.mk (PyData.keyHash P (Str.ofString "part_of")) (Value.str (Str.ofString "part_of") 541) (Value.ref 278), DictEntry.mk (PyData.keyHash P (Str.ofString "fraction")) (Value.str (Str.ofString "fraction") 550) (Value.ref 285), DictEntry.mk (PyData.keyHash P (Str.ofString "fraction_of")) (Value.str (Str.ofString "fraction_of") 560) (Value.ref 292), DictEntry.mk (PyData.keyHash P (Str.ofString "first_pair")) (Value.str (Str.ofString "first_pair") 567) (Value.ref 299), DictEntry.mk (PyData.keyHash P (Str.ofString "pair_behind")) (Value.str (Str.ofString "pair_behind") 577) (Value.ref 306), DictEntry.mk (PyData.keyHash P (Str.ofString "plus_one")) (Value.str (Str.ofString "plus_one") 585) (Value.ref 313), DictEntry.mk (PyData.keyHash P (Str.ofString "minus_one")) (Value.str (Str.ofString "minus_one") 593) (Value.ref 320), DictEntry.mk (PyData.keyHash P (Str.ofString "point_of_round")) (Value.str (Str.ofString "point_of_round") 600) (Value.ref 327), DictEntry.mk (PyData.keyHash P (Str.ofString "square_less")) (Value.str (Str.ofString "square_less") 608) (Value.ref 334), DictEntry.mk (PyData.keyHash P (Str.ofString "nearest")) (Value.str (Str.ofString "nearest") 620) (Value.ref 341), DictEntry.mk (PyData.keyHash P (Str.ofString "last_pair_within")) (Value.str (Str.ofString "last_pair_within") 631) (Value.ref 348), DictEntry.mk (PyData.keyHash P (Str.ofString "nearer")) (Value.str (Str.ofString "nearer") 644) (Value.ref 355), DictEntry.mk (PyData.keyHash P (Str.ofString "_law_wholes")) (Value.str (Str.ofString "_law_wholes") 652) (Value.ref 360), DictEntry.mk (PyData.keyHash P (Str.ofString "_law_number")) (Value.str (Str.ofString "_law_number") 659) (Value.ref 367), DictEntry.mk (PyData.keyHash P (Str.ofString "_law_due")) (Value.str (Str.ofString "_law_due") 667) (Value.ref 374), DictEntry.mk (PyData.keyHash P (Str.ofString "_law_caught")) (Value.str (Str.ofString "_law_caught") 678) (Value.ref 381), DictEntry.mk (PyData.keyHash P (Str.ofString "_law_refused")) (Value.str (Str.ofString "_law_refused") 686) (Value.ref 388), DictEntry.mk (PyData.keyHash P (Str.ofString "_law_good")) (Value.str (Str.ofString "_law_good") 697) (Value.ref 395), DictEntry.mk (PyData.keyHash P (Str.ofString "law")) (Value.str (Str.ofString "law") 706) (Value.ref 402)] 49) #[]) ::
(nat_lit 15, Obj.mk (Value.type "tuple") Option.none (Data.seq #[Value.type "ValueError"]) #[]) ::
(nat_lit 22, Obj.mk (Value.type "tuple") Option.none (Data.seq #[]) #[]) ::
(nat_lit 23, Obj.mk (Value.type "dict") Option.none (Data.dict #[DictEntry.mk (PyData.keyHash P (Str.ofString "__module__")) (Value.str (Str.ofString "__module__") 196) (Value.str (Str.ofString "formcycle.errors") 187), DictEntry.mk (PyData.keyHash P (Str.ofString "__firstlineno__")) (Value.str (Str.ofString "__firstlineno__") 200) (Value.int 2 199), DictEntry.mk (PyData.keyHash P (Str.ofString "__static_attributes__")) (Value.str (Str.ofString "__static_attributes__") 201) (Value.ref 22), DictEntry.mk (PyData.keyHash P (Str.ofString "__weakref__")) (Value.str (Str.ofString "__weakref__") 203) (Value.ref 25), DictEntry.mk (PyData.keyHash P (Str.ofString "__doc__")) (Value.str (Str.ofString "__doc__") 204) Value.none] 3) #[]) ::
(nat_lit 24, Obj.mk (Value.type "type") Option.none (Data.cls (ClassData.mk (Str.ofString "FormError") [Value.type "ValueError"] [Value.ref 24, Value.type "ValueError", Value.type "Exception", Value.type "BaseException", Value.type "object"] 23 (Str.ofString "FormError") Bool.true [] [Value.ref 44, Value.ref 63, Value.ref 82, Value.ref 101, Value.ref 120, Value.ref 139, Value.ref 151, Value.ref 170, Value.ref 189, Value.ref 201, Value.ref 220] Bool.false Option.none Bool.false)) #[Option.some (Value.ref 15), Option.none, Option.some (Value.str (Str.ofString "FormError") 189), Option.some (Value.str (Str.ofString "FormError") 197), Option.some (Value.builtin "ValueError.__new__"), Option.some (Value.bool Bool.true)]) ::
(nat_lit 25, Obj.mk (Value.type "getset_descriptor") Option.none (Data.fields #[Value.str (Str.ofString "__weakref__") 202, Value.ref 24, Value.builtin "ExceptionGroup.__weakref__", Value.none]) #[]) ::
(nat_lit 28, Obj.mk (Value.type "tuple") Option.none (Data.seq #[Value.ref 24]) #[]) ::
(nat_lit 35, Obj.mk (Value.type "tuple") Option.none (Data.seq #[]) #[]) ::
(nat_lit 37, Obj.mk (Value.type "tuple") Option.none (Data.seq #[Value.str (Str.ofString "self") 222, Value.str (Str.ofString "turn") 223]) #[]) ::
(nat_lit 38, Obj.mk (Value.type "tuple") Option.none (Data.seq #[]) #[]) ::
(nat_lit 40, Obj.mk (Value.type "code") Option.none (Data.fields #[Value.str (Str.ofString "__init__") 219, Value.str (Str.ofString "NoTurn.__init__") 220, Value.str (Str.ofString "/claim/cut.py") 221, Value.int 6 0, Value.int 2 0, Value.int 0 0, Value.int 0 0, Value.int 3 0, Value.ref 35, Value.bool Bool.true, Value.int 181 0, Value.ref 36, Value.none, Value.ref 37, Value.ref 38, Value.ref 39, Value.int 224 0, Value.int 6 0, Value.str (Str.ofString "/claim/cut.py") 225]) #[]) ::
(nat_lit 41, Obj.mk (Value.type "function") Option.none (Data.func (FuncData.mk (Str.ofString "__init__") (Str.ofString "NoTurn.__init__") (Arguments.mk [] [Arg.mk (Str.ofString "self") Option.none (Pos.mk 6 17 6 21), Arg.mk (Str.ofString "turn") Option.none (Pos.mk 6 23 6 27)] Option.none [] [] Option.none []) (FuncBody.stmts [Stmt.Assign [Expr.Attribute (Expr.Name (Str.ofString "self") (Pos.mk 7 8 7 12)) (Str.ofString "turn") (Pos.mk 7 8 7 17)] (Expr.Name (Str.ofString "turn") (Pos.mk 7 20 7 24)) (Pos.mk 7 8 7 24)]) (Scope.mk ScopeKind.function [(Str.ofString "self", NameKind.local), (Str.ofString "turn", NameKind.local)] Bool.false Bool.false []) 3 [] Value.none Value.none Value.none (Value.str (Str.ofString "formcycle.errors") 187) Option.none (Value.ref 40) Value.none 0)) #[]) ::
(nat_lit 42, Obj.mk (Value.type "tuple") Option.none (Data.seq #[Value.str (Str.ofString "turn") 227]) #[]) ::
(nat_lit 43, Obj.mk (Value.type "dict") Option.none (Data.dict #[DictEntry.mk (PyData.keyHash P (Str.ofString "__module__")) (Value.str (Str.ofString "__module__") 214) (Value.str (Str.ofString "formcycle.errors") 187), DictEntry.mk (PyData.keyHash P (Str.ofString "__firstlineno__")) (Value.str (Str.ofString "__firstlineno__") 218) (Value.int 4 217), DictEntry.mk (PyData.keyHash P (Str.ofString "__init__")) (Value.str (Str.ofString "__init__") 226) (Value.ref 41), DictEntry.mk (PyData.keyHash P (Str.ofString "__static_attributes__")) (Value.str (Str.ofString "__static_attributes__") 228) (Value.ref 42), DictEntry.mk (PyData.keyHash P (Str.ofString "__doc__")) (Value.str (Str.ofString "__doc__") 229) Value.none] 2) #[]) ::
(nat_lit 44, Obj.mk (Value.type "type") Option.none (Data.cls (ClassData.mk (Str.ofString "NoTurn") [Value.ref 24] [Value.ref 44, Value.ref 24, Value.type "ValueError", Value.type "Exception", Value.type "BaseException", Value.type "object"] 43 (Str.ofString "NoTurn") Bool.true [] [] Bool.false Option.none Bool.false)) #[Option.some (Value.ref 28), Option.none, Option.some (Value.str (Str.ofString "NoTurn") 207), Option.some (Value.str (Str.ofString "NoTurn") 215), Option.some (Value.builtin "ValueError.__new__"), Option.some (Value.bool Bool.true)]) ::
(nat_lit 47, Obj.mk (Value.type "tuple") Option.none (Data.seq #[Value.ref 24]) #[]) ::
(nat_lit 54, Obj.mk (Value.type "tuple") Option.none (Data.seq #[]) #[]) ::
(nat_lit 56, Obj.mk (Value.type "tuple") Option.none (Data.seq #[Value.str (Str.ofString "self") 247, Value.str (Str.ofString "form") 248]) #[]) ::
(nat_lit 57, Obj.mk (Value.type "tuple") Option.none (Data.seq #[]) #[]) ::
(nat_lit 59, Obj.mk (Value.type "code") Option.none (Data.fields #[Value.str (Str.ofString "__init__") 244, Value.str (Str.ofString "NoShape.__init__") 245, Value.str (Str.ofString "/claim/cut.py") 246, Value.int 10 0, Value.int 2 0, Value.int 0 0, Value.int 0 0, Value.int 3 0, Value.ref 54, Value.bool Bool.true, Value.int 181 0, Value.ref 55, Value.none, Value.ref 56, Value.ref 57, Value.ref 58, Value.int 249 0, Value.int 10 0, Value.str (Str.ofString "/claim/cut.py") 250]) #[]) ::
(nat_lit 60, Obj.mk (Value.type "function") Option.none (Data.func (FuncData.mk (Str.ofString "__init__") (Str.ofString "NoShape.__init__") (Arguments.mk [] [Arg.mk (Str.ofString "self") Option.none (Pos.mk 10 17 10 21), Arg.mk (Str.ofString "form") Option.none (Pos.mk 10 23 10 27)] Option.none [] [] Option.none []) (FuncBody.stmts [Stmt.Assign [Expr.Attribute (Expr.Name (Str.ofString "self") (Pos.mk 11 8 11 12)) (Str.ofString "form") (Pos.mk 11 8 11 17)] (Expr.Name (Str.ofString "form") (Pos.mk 11 20 11 24)) (Pos.mk 11 8 11 24)]) (Scope.mk ScopeKind.function [(Str.ofString "self", NameKind.local), (Str.ofString "form", NameKind.local)] Bool.false Bool.false []) 3 [] Value.none Value.none Value.none (Value.str (Str.ofString "formcycle.errors") 187) Option.none (Value.ref 59) Value.none 0)) #[]) ::
(nat_lit 61, Obj.mk (Value.type "tuple") Option.none (Data.seq #[Value.str (Str.ofString "form") 252]) #[]) ::
(nat_lit 62, Obj.mk (Value.type "dict") Option.none (Data.dict #[DictEntry.mk (PyData.keyHash P (Str.ofString "__module__")) (Value.str (Str.ofString "__module__") 239) (Value.str (Str.ofString "formcycle.errors") 187), DictEntry.mk (PyData.keyHash P (Str.ofString "__firstlineno__")) (Value.str (Str.ofString "__firstlineno__") 243) (Value.int 8 242), DictEntry.mk (PyData.keyHash P (Str.ofString "__init__")) (Value.str (Str.ofString "__init__") 251) (Value.ref 60), DictEntry.mk (PyData.keyHash P (Str.ofString "__static_attributes__")) (Value.str (Str.ofString "__static_attributes__") 253) (Value.ref 61), DictEntry.mk (PyData.keyHash P (Str.ofString "__doc__")) (Value.str (Str.ofString "__doc__") 254) Value.none] 2) #[]) ::
(nat_lit 63, Obj.mk (Value.type "type") Option.none (Data.cls (ClassData.mk (Str.ofString "NoShape") [Value.ref 24] [Value.ref 63, Value.ref 24, Value.type "ValueError", Value.type "Exception", Value.type "BaseException", Value.type "object"] 62 (Str.ofString "NoShape") Bool.true [] [] Bool.false Option.none Bool.false)) #[Option.some (Value.ref 47), Option.none, Option.some (Value.str (Str.ofString "NoShape") 232), Option.some (Value.str (Str.ofString "NoShape") 240), Option.some (Value.builtin "ValueError.__new__"), Option.some (Value.bool Bool.true)]) ::
(nat_lit 66, Obj.mk (Value.type "tuple") Option.none (Data.seq #[Value.ref 24]) #[]) ::
(nat_lit 73, Obj.mk (Value.type "tuple") Option.none (Data.seq #[]) #[]) ::
(nat_lit 75, Obj.mk (Value.type "tuple") Option.none (Data.seq #[Value.str (Str.ofString "self") 272, Value.str (Str.ofString "number") 273, Value.str (Str.ofString "most") 274]) #[]) ::
(nat_lit 76, Obj.mk (Value.type "tuple") Option.none (Data.seq #[]) #[]) ::
(nat_lit 78, Obj.mk (Value.type "code") Option.none (Data.fields #[Value.str (Str.ofString "__init__") 269, Value.str (Str.ofString "TooGreat.__init__") 270, Value.str (Str.ofString "/claim/cut.py") 271, Value.int 14 0, Value.int 3 0, Value.int 0 0, Value.int 0 0, Value.int 3 0, Value.ref 73, Value.bool Bool.true, Value.int 181 0, Value.ref 74, Value.none, Value.ref 75, Value.ref 76, Value.ref 77, Value.int 275 0, Value.int 14 0, Value.str (Str.ofString "/claim/cut.py") 276]) #[]) ::
(nat_lit 79, Obj.mk (Value.type "function") Option.none (Data.func (FuncData.mk (Str.ofString "__init__") (Str.ofString "TooGreat.__init__") (Arguments.mk [] [Arg.mk (Str.ofString "self") Option.none (Pos.mk 14 17 14 21), Arg.mk (Str.ofString "number") Option.none (Pos.mk 14 23 14 29), Arg.mk (Str.ofString "most") Option.none (Pos.mk 14 31 14 35)] Option.none [] [] Option.none []) (FuncBody.stmts [Stmt.Assign [Expr.Attribute (Expr.Name (Str.ofString "self") (Pos.mk 15 8 15 12)) (Str.ofString "number") (Pos.mk 15 8 15 19)] (Expr.Name (Str.ofString "number") (Pos.mk 15 22 15 28)) (Pos.mk 15 8 15 28), Stmt.Assign [Expr.Attribute (Expr.Name (Str.ofString "self") (Pos.mk 16 8 16 12)) (Str.ofString "most") (Pos.mk 16 8 16 17)] (Expr.Name (Str.ofString "most") (Pos.mk 16 20 16 24)) (Pos.mk 16 8 16 24)]) (Scope.mk ScopeKind.function [(Str.ofString "self", NameKind.local), (Str.ofString "number", NameKind.local), (Str.ofString "most", NameKind.local)] Bool.false Bool.false []) 3 [] Value.none Value.none Value.none (Value.str (Str.ofString "formcycle.errors") 187) Option.none (Value.ref 78) Value.none 0)) #[]) ::
(nat_lit 80, Obj.mk (Value.type "tuple") Option.none (Data.seq #[Value.str (Str.ofString "most") 278, Value.str (Str.ofString "number") 279]) #[]) ::
(nat_lit 81, Obj.mk (Value.type "dict") Option.none (Data.dict #[DictEntry.mk (PyData.keyHash P (Str.ofString "__module__")) (Value.str (Str.ofString "__module__") 264) (Value.str (Str.ofString "formcycle.errors") 187), DictEntry.mk (PyData.keyHash P (Str.ofString "__firstlineno__")) (Value.str (Str.ofString "__firstlineno__") 268) (Value.int 12 267), DictEntry.mk (PyData.keyHash P (Str.ofString "__init__")) (Value.str (Str.ofString "__init__") 277) (Value.ref 79), DictEntry.mk (PyData.keyHash P (Str.ofString "__static_attributes__")) (Value.str (Str.ofString "__static_attributes__") 280) (Value.ref 80), DictEntry.mk (PyData.keyHash P (Str.ofString "__doc__")) (Value.str (Str.ofString "__doc__") 281) Value.none] 2) #[]) ::
(nat_lit 82, Obj.mk (Value.type "type") Option.none (Data.cls (ClassData.mk (Str.ofString "TooGreat") [Value.ref 24] [Value.ref 82, Value.ref 24, Value.type "ValueError", Value.type "Exception", Value.type "BaseException", Value.type "object"] 81 (Str.ofString "TooGreat") Bool.true [] [] Bool.false Option.none Bool.false)) #[Option.some (Value.ref 66), Option.none, Option.some (Value.str (Str.ofString "TooGreat") 257), Option.some (Value.str (Str.ofString "TooGreat") 265), Option.some (Value.builtin "ValueError.__new__"), Option.some (Value.bool Bool.true)]) ::
(nat_lit 85, Obj.mk (Value.type "tuple") Option.none (Data.seq #[Value.ref 24]) #[]) ::
(nat_lit 92, Obj.mk (Value.type "tuple") Option.none (Data.seq #[]) #[]) ::
(nat_lit 94, Obj.mk (Value.type "tuple") Option.none (Data.seq #[Value.str (Str.ofString "self") 299, Value.str (Str.ofString "number") 300]) #[]) ::
(nat_lit 95, Obj.mk (Value.type "tuple") Option.none (Data.seq #[]) #[]) ::
(nat_lit 97, Obj.mk (Value.type "code") Option.none (Data.fields #[Value.str (Str.ofString "__init__") 296, Value.str (Str.ofString "NoRoot.__init__") 297, Value.str (Str.ofString "/claim/cut.py") 298, Value.int 19 0, Value.int 2 0, Value.int 0 0, Value.int 0 0, Value.int 3 0, Value.ref 92, Value.bool Bool.true, Value.int 181 0, Value.ref 93, Value.none, Value.ref 94, Value.ref 95, Value.ref 96, Value.int 301 0, Value.int 19 0, Value.str (Str.ofString "/claim/cut.py") 302]) #[]) ::
(nat_lit 98, Obj.mk (Value.type "function") Option.none (Data.func (FuncData.mk (Str.ofString "__init__") (Str.ofString "NoRoot.__init__") (Arguments.mk [] [Arg.mk (Str.ofString "self") Option.none (Pos.mk 19 17 19 21), Arg.mk (Str.ofString "number") Option.none (Pos.mk 19 23 19 29)] Option.none [] [] Option.none []) (FuncBody.stmts [Stmt.Assign [Expr.Attribute (Expr.Name (Str.ofString "self") (Pos.mk 20 8 20 12)) (Str.ofString "number") (Pos.mk 20 8 20 19)] (Expr.Name (Str.ofString "number") (Pos.mk 20 22 20 28)) (Pos.mk 20 8 20 28)]) (Scope.mk ScopeKind.function [(Str.ofString "self", NameKind.local), (Str.ofString "number", NameKind.local)] Bool.false Bool.false []) 3 [] Value.none Value.none Value.none (Value.str (Str.ofString "formcycle.errors") 187) Option.none (Value.ref 97) Value.none 0)) #[]) ::
(nat_lit 99, Obj.mk (Value.type "tuple") Option.none (Data.seq #[Value.str (Str.ofString "number") 304]) #[]) ::
(nat_lit 100, Obj.mk (Value.type "dict") Option.none (Data.dict #[DictEntry.mk (PyData.keyHash P (Str.ofString "__module__")) (Value.str (Str.ofString "__module__") 291) (Value.str (Str.ofString "formcycle.errors") 187), DictEntry.mk (PyData.keyHash P (Str.ofString "__firstlineno__")) (Value.str (Str.ofString "__firstlineno__") 295) (Value.int 17 294), DictEntry.mk (PyData.keyHash P (Str.ofString "__init__")) (Value.str (Str.ofString "__init__") 303) (Value.ref 98), DictEntry.mk (PyData.keyHash P (Str.ofString "__static_attributes__")) (Value.str (Str.ofString "__static_attributes__") 305) (Value.ref 99), DictEntry.mk (PyData.keyHash P (Str.ofString "__doc__")) (Value.str (Str.ofString "__doc__") 306) Value.none] 2) #[]) ::
(nat_lit 101, Obj.mk (Value.type "type") Option.none (Data.cls (ClassData.mk (Str.ofString "NoRoot") [Value.ref 24] [Value.ref 101, Value.ref 24, Value.type "ValueError", Value.type "Exception", Value.type "BaseException", Value.type "object"] 100 (Str.ofString "NoRoot") Bool.true [] [] Bool.false Option.none Bool.false)) #[Option.some (Value.ref 85), Option.none, Option.some (Value.str (Str.ofString "NoRoot") 284), Option.some (Value.str (Str.ofString "NoRoot") 292), Option.some (Value.builtin "ValueError.__new__"), Option.some (Value.bool Bool.true)]) ::
(nat_lit 104, Obj.mk (Value.type "tuple") Option.none (Data.seq #[Value.ref 24]) #[]) ::
(nat_lit 111, Obj.mk (Value.type "tuple") Option.none (Data.seq #[]) #[]) ::
(nat_lit 113, Obj.mk (Value.type "tuple") Option.none (Data.seq #[Value.str (Str.ofString "self") 324, Value.str (Str.ofString "form") 325]) #[]) ::
(nat_lit 114, Obj.mk (Value.type "tuple") Option.none (Data.seq #[]) #[]) ::
(nat_lit 116, Obj.mk (Value.type "code") Option.none (Data.fields #[Value.str (Str.ofString "__init__") 321, Value.str (Str.ofString "NotLevel.__init__") 322, Value.str (Str.ofString "/claim/cut.py") 323, Value.int 23 0, Value.int 2 0, Value.int 0 0, Value.int 0 0, Value.int 3 0, Value.ref 111, Value.bool Bool.true, Value.int 181 0, Value.ref 112, Value.none, Value.ref 113, Value.ref 114, Value.ref 115, Value.int 326 0, Value.int 23 0, Value.str (Str.ofString "/claim/cut.py") 327]) #[]) ::
(nat_lit 117, Obj.mk (Value.type "function") Option.none (Data.func (FuncData.mk (Str.ofString "__init__") (Str.ofString "NotLevel.__init__") (Arguments.mk [] [Arg.mk (Str.ofString "self") Option.none (Pos.mk 23 17 23 21), Arg.mk (Str.ofString "form") Option.none (Pos.mk 23 23 23 27)] Option.none [] [] Option.none []) (FuncBody.stmts [Stmt.Assign [Expr.Attribute (Expr.Name (Str.ofString "self") (Pos.mk 24 8 24 12)) (Str.ofString "form") (Pos.mk 24 8 24 17)] (Expr.Name (Str.ofString "form") (Pos.mk 24 20 24 24)) (Pos.mk 24 8 24 24)]) (Scope.mk ScopeKind.function [(Str.ofString "self", NameKind.local), (Str.ofString "form", NameKind.local)] Bool.false Bool.false []) 3 [] Value.none Value.none Value.none (Value.str (Str.ofString "formcycle.errors") 187) Option.none (Value.ref 116) Value.none 0)) #[]) ::
(nat_lit 118, Obj.mk (Value.type "tuple") Option.none (Data.seq #[Value.str (Str.ofString "form") 329]) #[]) ::
(nat_lit 119, Obj.mk (Value.type "dict") Option.none (Data.dict #[DictEntry.mk (PyData.keyHash P (Str.ofString "__module__")) (Value.str (Str.ofString "__module__") 316) (Value.str (Str.ofString "formcycle.errors") 187), DictEntry.mk (PyData.keyHash P (Str.ofString "__firstlineno__")) (Value.str (Str.ofString "__firstlineno__") 320) (Value.int 21 319), DictEntry.mk (PyData.keyHash P (Str.ofString "__init__")) (Value.str (Str.ofString "__init__") 328) (Value.ref 117), DictEntry.mk (PyData.keyHash P (Str.ofString "__static_attributes__")) (Value.str (Str.ofString "__static_attributes__") 330) (Value.ref 118), DictEntry.mk (PyData.keyHash P (Str.ofString "__doc__")) (Value.str (Str.ofString "__doc__") 331) Value.none] 2) #[]) ::
(nat_lit 120, Obj.mk (Value.type "type") Option.none (Data.cls (ClassData.mk (Str.ofString "NotLevel") [Value.ref 24] [Value.ref 120, Value.ref 24, Value.type "ValueError", Value.type "Exception", Value.type "BaseException", Value.type "object"] 119 (Str.ofString "NotLevel") Bool.true [] [] Bool.false Option.none Bool.false)) #[Option.some (Value.ref 104), Option.none, Option.some (Value.str (Str.ofString "NotLevel") 309), Option.some (Value.str (Str.ofString "NotLevel") 317), Option.some (Value.builtin "ValueError.__new__"), Option.some (Value.bool Bool.true)]) ::
(nat_lit 123, Obj.mk (Value.type "tuple") Option.none (Data.seq #[Value.ref 24]) #[]) ::
(nat_lit 130, Obj.mk (Value.type "tuple") Option.none (Data.seq #[]) #[]) ::
(nat_lit 132, Obj.mk (Value.type "tuple") Option.none (Data.seq #[Value.str (Str.ofString "self") 349, Value.str (Str.ofString "turn") 350]) #[]) ::
(nat_lit 133, Obj.mk (Value.type "tuple") Option.none (Data.seq #[]) #[]) ::
(nat_lit 135, Obj.mk (Value.type "code") Option.none (Data.fields #[Value.str (Str.ofString "__init__") 346, Value.str (Str.ofString "NotOwn.__init__") 347, Value.str (Str.ofString "/claim/cut.py") 348, Value.int 27 0, Value.int 2 0, Value.int 0 0, Value.int 0 0, Value.int 3 0, Value.ref 130, Value.bool Bool.true, Value.int 181 0, Value.ref 131, Value.none, Value.ref 132, Value.ref 133, Value.ref 134, Value.int 351 0, Value.int 27 0, Value.str (Str.ofString "/claim/cut.py") 352]) #[]) ::
(nat_lit 136, Obj.mk (Value.type "function") Option.none (Data.func (FuncData.mk (Str.ofString "__init__") (Str.ofString "NotOwn.__init__") (Arguments.mk [] [Arg.mk (Str.ofString "self") Option.none (Pos.mk 27 17 27 21), Arg.mk (Str.ofString "turn") Option.none (Pos.mk 27 23 27 27)] Option.none [] [] Option.none []) (FuncBody.stmts [Stmt.Assign [Expr.Attribute (Expr.Name (Str.ofString "self") (Pos.mk 28 8 28 12)) (Str.ofString "turn") (Pos.mk 28 8 28 17)] (Expr.Name (Str.ofString "turn") (Pos.mk 28 20 28 24)) (Pos.mk 28 8 28 24)]) (Scope.mk ScopeKind.function [(Str.ofString "self", NameKind.local), (Str.ofString "turn", NameKind.local)] Bool.false Bool.false []) 3 [] Value.none Value.none Value.none (Value.str (Str.ofString "formcycle.errors") 187) Option.none (Value.ref 135) Value.none 0)) #[]) ::
(nat_lit 137, Obj.mk (Value.type "tuple") Option.none (Data.seq #[Value.str (Str.ofString "turn") 354]) #[]) ::
(nat_lit 138, Obj.mk (Value.type "dict") Option.none (Data.dict #[DictEntry.mk (PyData.keyHash P (Str.ofString "__module__")) (Value.str (Str.ofString "__module__") 341) (Value.str (Str.ofString "formcycle.errors") 187), DictEntry.mk (PyData.keyHash P (Str.ofString "__firstlineno__")) (Value.str (Str.ofString "__firstlineno__") 345) (Value.int 25 344), DictEntry.mk (PyData.keyHash P (Str.ofString "__init__")) (Value.str (Str.ofString "__init__") 353) (Value.ref 136), DictEntry.mk (PyData.keyHash P (Str.ofString "__static_attributes__")) (Value.str (Str.ofString "__static_attributes__") 355) (Value.ref 137), DictEntry.mk (PyData.keyHash P (Str.ofString "__doc__")) (Value.str (Str.ofString "__doc__") 356) Value.none] 2) #[]) ::
(nat_lit 139, Obj.mk (Value.type "type") Option.none (Data.cls (ClassData.mk (Str.ofString "NotOwn") [Value.ref 24] [Value.ref 139, Value.ref 24, Value.type "ValueError", Value.type "Exception", Value.type "BaseException", Value.type "object"] 138 (Str.ofString "NotOwn") Bool.true [] [] Bool.false Option.none Bool.false)) #[Option.some (Value.ref 123), Option.none, Option.some (Value.str (Str.ofString "NotOwn") 334), Option.some (Value.str (Str.ofString "NotOwn") 342), Option.some (Value.builtin "ValueError.__new__"), Option.some (Value.bool Bool.true)]) ::
(nat_lit 142, Obj.mk (Value.type "tuple") Option.none (Data.seq #[Value.ref 24]) #[]) ::
(nat_lit 149, Obj.mk (Value.type "tuple") Option.none (Data.seq #[]) #[]) ::
(nat_lit 150, Obj.mk (Value.type "dict") Option.none (Data.dict #[DictEntry.mk (PyData.keyHash P (Str.ofString "__module__")) (Value.str (Str.ofString "__module__") 366) (Value.str (Str.ofString "formcycle.errors") 187), DictEntry.mk (PyData.keyHash P (Str.ofString "__firstlineno__")) (Value.str (Str.ofString "__firstlineno__") 370) (Value.int 29 369), DictEntry.mk (PyData.keyHash P (Str.ofString "__static_attributes__")) (Value.str (Str.ofString "__static_attributes__") 371) (Value.ref 149), DictEntry.mk (PyData.keyHash P (Str.ofString "__doc__")) (Value.str (Str.ofString "__doc__") 372) Value.none] 2) #[]) ::
(nat_lit 151, Obj.mk (Value.type "type") Option.none (Data.cls (ClassData.mk (Str.ofString "Apart") [Value.ref 24] [Value.ref 151, Value.ref 24, Value.type "ValueError", Value.type "Exception", Value.type "BaseException", Value.type "object"] 150 (Str.ofString "Apart") Bool.true [] [] Bool.false Option.none Bool.false)) #[Option.some (Value.ref 142), Option.none, Option.some (Value.str (Str.ofString "Apart") 359), Option.some (Value.str (Str.ofString "Apart") 367), Option.some (Value.builtin "ValueError.__new__"), Option.some (Value.bool Bool.true)]) ::
(nat_lit 154, Obj.mk (Value.type "tuple") Option.none (Data.seq #[Value.ref 24]) #[]) ::
(nat_lit 161, Obj.mk (Value.type "tuple") Option.none (Data.seq #[]) #[]) ::
(nat_lit 163, Obj.mk (Value.type "tuple") Option.none (Data.seq #[Value.str (Str.ofString "self") 390, Value.str (Str.ofString "form") 391]) #[]) ::
(nat_lit 164, Obj.mk (Value.type "tuple") Option.none (Data.seq #[]) #[]) ::
(nat_lit 166, Obj.mk (Value.type "code") Option.none (Data.fields #[Value.str (Str.ofString "__init__") 387, Value.str (Str.ofString "NotPlain.__init__") 388, Value.str (Str.ofString "/claim/cut.py") 389, Value.int 33 0, Value.int 2 0, Value.int 0 0, Value.int 0 0, Value.int 3 0, Value.ref 161, Value.bool Bool.true, Value.int 181 0, Value.ref 162, Value.none, Value.ref 163, Value.ref 164, Value.ref 165, Value.int 392 0, Value.int 33 0, Value.str (Str.ofString "/claim/cut.py") 393]) #[]) ::
(nat_lit 167, Obj.mk (Value.type "function") Option.none (Data.func (FuncData.mk (Str.ofString "__init__") (Str.ofString "NotPlain.__init__") (Arguments.mk [] [Arg.mk (Str.ofString "self") Option.none (Pos.mk 33 17 33 21), Arg.mk (Str.ofString "form") Option.none (Pos.mk 33 23 33 27)] Option.none [] [] Option.none []) (FuncBody.stmts [Stmt.Assign [Expr.Attribute (Expr.Name (Str.ofString "self") (Pos.mk 34 8 34 12)) (Str.ofString "form") (Pos.mk 34 8 34 17)] (Expr.Name (Str.ofString "form") (Pos.mk 34 20 34 24)) (Pos.mk 34 8 34 24)]) (Scope.mk ScopeKind.function [(Str.ofString "self", NameKind.local), (Str.ofString "form", NameKind.local)] Bool.false Bool.false []) 3 [] Value.none Value.none Value.none (Value.str (Str.ofString "formcycle.errors") 187) Option.none (Value.ref 166) Value.none 0)) #[]) ::
(nat_lit 168, Obj.mk (Value.type "tuple") Option.none (Data.seq #[Value.str (Str.ofString "form") 395]) #[]) ::
(nat_lit 169, Obj.mk (Value.type "dict") Option.none (Data.dict #[DictEntry.mk (PyData.keyHash P (Str.ofString "__module__")) (Value.str (Str.ofString "__module__") 382) (Value.str (Str.ofString "formcycle.errors") 187), DictEntry.mk (PyData.keyHash P (Str.ofString "__firstlineno__")) (Value.str (Str.ofString "__firstlineno__") 386) (Value.int 31 385), DictEntry.mk (PyData.keyHash P (Str.ofString "__init__")) (Value.str (Str.ofString "__init__") 394) (Value.ref 167), DictEntry.mk (PyData.keyHash P (Str.ofString "__static_attributes__")) (Value.str (Str.ofString "__static_attributes__") 396) (Value.ref 168), DictEntry.mk (PyData.keyHash P (Str.ofString "__doc__")) (Value.str (Str.ofString "__doc__") 397) Value.none] 2) #[]) ::
(nat_lit 170, Obj.mk (Value.type "type") Option.none (Data.cls (ClassData.mk (Str.ofString "NotPlain") [Value.ref 24] [Value.ref 170, Value.ref 24, Value.type "ValueError", Value.type "Exception", Value.type "BaseException", Value.type "object"] 169 (Str.ofString "NotPlain") Bool.true [] [] Bool.false Option.none Bool.false)) #[Option.some (Value.ref 154), Option.none, Option.some (Value.str (Str.ofString "NotPlain") 375), Option.some (Value.str (Str.ofString "NotPlain") 383), Option.some (Value.builtin "ValueError.__new__"), Option.some (Value.bool Bool.true)]) ::
(nat_lit 173, Obj.mk (Value.type "tuple") Option.none (Data.seq #[Value.ref 24]) #[]) ::
(nat_lit 180, Obj.mk (Value.type "tuple") Option.none (Data.seq #[]) #[]) ::
(nat_lit 182, Obj.mk (Value.type "tuple") Option.none (Data.seq #[Value.str (Str.ofString "self") 415, Value.str (Str.ofString "number") 416]) #[]) ::
(nat_lit 183, Obj.mk (Value.type "tuple") Option.none (Data.seq #[]) #[]) ::
(nat_lit 185, Obj.mk (Value.type "code") Option.none (Data.fields #[Value.str (Str.ofString "__init__") 412, Value.str (Str.ofString "NoMeasure.__init__") 413, Value.str (Str.ofString "/claim/cut.py") 414, Value.int 37 0, Value.int 2 0, Value.int 0 0, Value.int 0 0, Value.int 3 0, Value.ref 180, Value.bool Bool.true, Value.int 181 0, Value.ref 181, Value.none, Value.ref 182, Value.ref 183, Value.ref 184, Value.int 417 0, Value.int 37 0, Value.str (Str.ofString "/claim/cut.py") 418]) #[]) ::
(nat_lit 186, Obj.mk (Value.type "function") Option.none (Data.func (FuncData.mk (Str.ofString "__init__") (Str.ofString "NoMeasure.__init__") (Arguments.mk [] [Arg.mk (Str.ofString "self") Option.none (Pos.mk 37 17 37 21), Arg.mk (Str.ofString "number") Option.none (Pos.mk 37 23 37 29)] Option.none [] [] Option.none []) (FuncBody.stmts [Stmt.Assign [Expr.Attribute (Expr.Name (Str.ofString "self") (Pos.mk 38 8 38 12)) (Str.ofString "number") (Pos.mk 38 8 38 19)] (Expr.Name (Str.ofString "number") (Pos.mk 38 22 38 28)) (Pos.mk 38 8 38 28)]) (Scope.mk ScopeKind.function [(Str.ofString "self", NameKind.local), (Str.ofString "number", NameKind.local)] Bool.false Bool.false []) 3 [] Value.none Value.none Value.none (Value.str (Str.ofString "formcycle.errors") 187) Option.none (Value.ref 185) Value.none 0)) #[]) ::
(nat_lit 187, Obj.mk (Value.type "tuple") Option.none (Data.seq #[Value.str (Str.ofString "number") 420]) #[]) ::
(nat_lit 188, Obj.mk (Value.type "dict") Option.none (Data.dict #[DictEntry.mk (PyData.keyHash P (Str.ofString "__module__")) (Value.str (Str.ofString "__module__") 407) (Value.str (Str.ofString "formcycle.errors") 187), DictEntry.mk (PyData.keyHash P (Str.ofString "__firstlineno__")) (Value.str (Str.ofString "__firstlineno__") 411) (Value.int 35 410), DictEntry.mk (PyData.keyHash P (Str.ofString "__init__")) (Value.str (Str.ofString "__init__") 419) (Value.ref 186), DictEntry.mk (PyData.keyHash P (Str.ofString "__static_attributes__")) (Value.str (Str.ofString "__static_attributes__") 421) (Value.ref 187), DictEntry.mk (PyData.keyHash P (Str.ofString "__doc__")) (Value.str (Str.ofString "__doc__") 422) Value.none] 2) #[]) ::
(nat_lit 189, Obj.mk (Value.type "type") Option.none (Data.cls (ClassData.mk (Str.ofString "NoMeasure") [Value.ref 24] [Value.ref 189, Value.ref 24, Value.type "ValueError", Value.type "Exception", Value.type "BaseException", Value.type "object"] 188 (Str.ofString "NoMeasure") Bool.true [] [] Bool.false Option.none Bool.false)) #[Option.some (Value.ref 173), Option.none, Option.some (Value.str (Str.ofString "NoMeasure") 400), Option.some (Value.str (Str.ofString "NoMeasure") 408), Option.some (Value.builtin "ValueError.__new__"), Option.some (Value.bool Bool.true)]) ::
(nat_lit 192, Obj.mk (Value.type "tuple") Option.none (Data.seq #[Value.ref 24]) #[]) ::
(nat_lit 199, Obj.mk (Value.type "tuple") Option.none (Data.seq #[]) #[]) ::
(nat_lit 200, Obj.mk (Value.type "dict") Option.none (Data.dict #[DictEntry.mk (PyData.keyHash P (Str.ofString "__module__")) (Value.str (Str.ofString "__module__") 432) (Value.str (Str.ofString "formcycle.errors") 187), DictEntry.mk (PyData.keyHash P (Str.ofString "__firstlineno__")) (Value.str (Str.ofString "__firstlineno__") 436) (Value.int 39 435), DictEntry.mk (PyData.keyHash P (Str.ofString "__static_attributes__")) (Value.str (Str.ofString "__static_attributes__") 437) (Value.ref 199), DictEntry.mk (PyData.keyHash P (Str.ofString "__doc__")) (Value.str (Str.ofString "__doc__") 438) Value.none] 2) #[]) ::
(nat_lit 201, Obj.mk (Value.type "type") Option.none (Data.cls (ClassData.mk (Str.ofString "Nought") [Value.ref 24] [Value.ref 201, Value.ref 24, Value.type "ValueError", Value.type "Exception", Value.type "BaseException", Value.type "object"] 200 (Str.ofString "Nought") Bool.true [] [] Bool.false Option.none Bool.false)) #[Option.some (Value.ref 192), Option.none, Option.some (Value.str (Str.ofString "Nought") 425), Option.some (Value.str (Str.ofString "Nought") 433), Option.some (Value.builtin "ValueError.__new__"), Option.some (Value.bool Bool.true)]) ::
(nat_lit 204, Obj.mk (Value.type "tuple") Option.none (Data.seq #[Value.ref 24]) #[]) ::
(nat_lit 211, Obj.mk (Value.type "tuple") Option.none (Data.seq #[]) #[]) ::
(nat_lit 213, Obj.mk (Value.type "tuple") Option.none (Data.seq #[Value.str (Str.ofString "self") 456, Value.str (Str.ofString "point") 457]) #[]) ::
(nat_lit 214, Obj.mk (Value.type "tuple") Option.none (Data.seq #[]) #[]) ::
(nat_lit 216, Obj.mk (Value.type "code") Option.none (Data.fields #[Value.str (Str.ofString "__init__") 453, Value.str (Str.ofString "NoAnswer.__init__") 454, Value.str (Str.ofString "/claim/cut.py") 455, Value.int 43 0, Value.int 2 0, Value.int 0 0, Value.int 0 0, Value.int 3 0, Value.ref 211, Value.bool Bool.true, Value.int 181 0, Value.ref 212, Value.none, Value.ref 213, Value.ref 214, Value.ref 215, Value.int 458 0, Value.int 43 0, Value.str (Str.ofString "/claim/cut.py") 459]) #[]) ::
(nat_lit 217, Obj.mk (Value.type "function") Option.none (Data.func (FuncData.mk (Str.ofString "__init__") (Str.ofString "NoAnswer.__init__") (Arguments.mk [] [Arg.mk (Str.ofString "self") Option.none (Pos.mk 43 17 43 21), Arg.mk (Str.ofString "point") Option.none (Pos.mk 43 23 43 28)] Option.none [] [] Option.none []) (FuncBody.stmts [Stmt.Assign [Expr.Attribute (Expr.Name (Str.ofString "self") (Pos.mk 44 8 44 12)) (Str.ofString "point") (Pos.mk 44 8 44 18)] (Expr.Name (Str.ofString "point") (Pos.mk 44 21 44 26)) (Pos.mk 44 8 44 26)]) (Scope.mk ScopeKind.function [(Str.ofString "self", NameKind.local), (Str.ofString "point", NameKind.local)] Bool.false Bool.false []) 3 [] Value.none Value.none Value.none (Value.str (Str.ofString "formcycle.errors") 187) Option.none (Value.ref 216) Value.none 0)) #[]) ::
(nat_lit 218, Obj.mk (Value.type "tuple") Option.none (Data.seq #[Value.str (Str.ofString "point") 461]) #[]) ::
(nat_lit 219, Obj.mk (Value.type "dict") Option.none (Data.dict #[DictEntry.mk (PyData.keyHash P (Str.ofString "__module__")) (Value.str (Str.ofString "__module__") 448) (Value.str (Str.ofString "formcycle.errors") 187), DictEntry.mk (PyData.keyHash P (Str.ofString "__firstlineno__")) (Value.str (Str.ofString "__firstlineno__") 452) (Value.int 41 451), DictEntry.mk (PyData.keyHash P (Str.ofString "__init__")) (Value.str (Str.ofString "__init__") 460) (Value.ref 217), DictEntry.mk (PyData.keyHash P (Str.ofString "__static_attributes__")) (Value.str (Str.ofString "__static_attributes__") 462) (Value.ref 218), DictEntry.mk (PyData.keyHash P (Str.ofString "__doc__")) (Value.str (Str.ofString "__doc__") 463) Value.none] 2) #[]) ::
(nat_lit 220, Obj.mk (Value.type "type") Option.none (Data.cls (ClassData.mk (Str.ofString "NoAnswer") [Value.ref 24] [Value.ref 220, Value.ref 24, Value.type "ValueError", Value.type "Exception", Value.type "BaseException", Value.type "object"] 219 (Str.ofString "NoAnswer") Bool.true [] [] Bool.false Option.none Bool.false)) #[Option.some (Value.ref 204), Option.none, Option.some (Value.str (Str.ofString "NoAnswer") 441), Option.some (Value.str (Str.ofString "NoAnswer") 449), Option.some (Value.builtin "ValueError.__new__"), Option.some (Value.bool Bool.true)]) ::
(nat_lit 223, Obj.mk (Value.type "tuple") Option.none (Data.seq #[]) #[]) ::
(nat_lit 225, Obj.mk (Value.type "tuple") Option.none (Data.seq #[Value.str (Str.ofString "number") 471, Value.str (Str.ofString "guess") 472, Value.str (Str.ofString "better") 473]) #[]) ::
(nat_lit 226, Obj.mk (Value.type "tuple") Option.none (Data.seq #[]) #[]) ::
(nat_lit 228, Obj.mk (Value.type "code") Option.none (Data.fields #[Value.str (Str.ofString "root") 468, Value.str (Str.ofString "root") 469, Value.str (Str.ofString "/claim/cut.py") 470, Value.int 46 0, Value.int 1 0, Value.int 0 0, Value.int 0 0, Value.int 3 0, Value.ref 223, Value.bool Bool.true, Value.int 181 0, Value.ref 224, Value.none, Value.ref 225, Value.ref 226, Value.ref 227, Value.int 474 0, Value.int 46 0, Value.str (Str.ofString "/claim/cut.py") 475]) #[]) ::
(nat_lit 229, Obj.mk (Value.type "function") Option.none (Data.func (FuncData.mk (Str.ofString "root") (Str.ofString "root") (Arguments.mk [] [Arg.mk (Str.ofString "number") Option.none (Pos.mk 46 9 46 15)] Option.none [] [] Option.none []) (FuncBody.stmts [Stmt.If (Expr.Compare (Expr.Name (Str.ofString "number") (Pos.mk 47 7 47 13)) [CmpOp.Lt] [Expr.Constant (Const.int 0) 0 (Pos.mk 47 16 47 17)] (Pos.mk 47 7 47 17)) [Stmt.Raise (Option.some (Expr.Call (Expr.Name (Str.ofString "NoRoot") (Pos.mk 48 14 48 20)) [Expr.Name (Str.ofString "number") (Pos.mk 48 21 48 27)] [] (Pos.mk 48 14 48 28))) Option.none (Pos.mk 48 8 48 28)] [] (Pos.mk 47 4 48 28), Stmt.If (Expr.Compare (Expr.Name (Str.ofString "number") (Pos.mk 49 7 49 13)) [CmpOp.Eq] [Expr.Constant (Const.int 0) 0 (Pos.mk 49 17 49 18)] (Pos.mk 49 7 49 18)) [Stmt.Return (Option.some (Expr.Constant (Const.int 0) 0 (Pos.mk 50 15 50 16))) (Pos.mk 50 8 50 16)] [] (Pos.mk 49 4 50 16), Stmt.Assign [Expr.Name (Str.ofString "guess") (Pos.mk 51 4 51 9)] (Expr.BinOp (Expr.Constant (Const.int 1) 0 (Pos.mk 51 12 51 13)) Operator.LShift (Expr.BinOp (Expr.BinOp (Expr.Call (Expr.Attribute (Expr.Name (Str.ofString "number") (Pos.mk 51 18 51 24)) (Str.ofString "bit_length") (Pos.mk 51 18 51 35)) [] [] (Pos.mk 51 18 51 37)) Operator.Add (Expr.Constant (Const.int 1) 0 (Pos.mk 51 40 51 41)) (Pos.mk 51 18 51 41)) Operator.FloorDiv (Expr.Constant (Const.int 2) 0 (Pos.mk 51 46 51 47)) (Pos.mk 51 17 51 47)) (Pos.mk 51 12 51 47)) (Pos.mk 51 4 51 47), Stmt.Assign [Expr.Name (Str.ofString "better") (Pos.mk 52 4 52 10)] (Expr.BinOp (Expr.BinOp (Expr.Name (Str.ofString "guess") (Pos.mk 52 14 52 19)) Operator.Add (Expr.BinOp (Expr.Name (Str.ofString "number") (Pos.mk 52 22 52 28)) Operator.FloorDiv (Expr.Name (Str.ofString "guess") (Pos.mk 52 32 52 37)) (Pos.mk 52 22 52 37)) (Pos.mk 52 14 52 37)) Operator.FloorDiv (Expr.Constant (Const.int 2) 0 (Pos.mk 52 42 52 43)) (Pos.mk 52 13 52 43)) (Pos.mk 52 4 52 43), Stmt.While (Expr.Compare (Expr.Name (Str.ofString "better") (Pos.mk 53 10 53 16)) [CmpOp.Lt] [Expr.Name (Str.ofString "guess") (Pos.mk 53 19 53 24)] (Pos.mk 53 10 53 24)) [Stmt.Assign [Expr.Name (Str.ofString "guess") (Pos.mk 54 8 54 13)] (Expr.Name (Str.ofString "better") (Pos.mk 54 16 54 22)) (Pos.mk 54 8 54 22), Stmt.Assign [Expr.Name (Str.ofString "better") (Pos.mk 55 8 55 14)] (Expr.BinOp (Expr.BinOp (Expr.Name (Str.ofString "guess") (Pos.mk 55 18 55 23)) Operator.Add (Expr.BinOp (Expr.Name (Str.ofString "number") (Pos.mk 55 26 55 32)) Operator.FloorDiv (Expr.Name (Str.ofString "guess") (Pos.mk 55 36 55 41)) (Pos.mk 55 26 55 41)) (Pos.mk 55 18 55 41)) Operator.FloorDiv (Expr.Constant (Const.int 2) 0 (Pos.mk 55 46 55 47)) (Pos.mk 55 17 55 47)) (Pos.mk 55 8 55 47)] [] (Pos.mk 53 4 55 47), Stmt.Return (Option.some (Expr.Name (Str.ofString "guess") (Pos.mk 56 11 56 16))) (Pos.mk 56 4 56 16)]) (Scope.mk ScopeKind.function [(Str.ofString "number", NameKind.local), (Str.ofString "guess", NameKind.local), (Str.ofString "better", NameKind.local), (Str.ofString "NoRoot", NameKind.globalImplicit)] Bool.false Bool.false []) 3 [] Value.none Value.none Value.none (Value.str (Str.ofString "formcycle.wholes") 466) Option.none (Value.ref 228) Value.none 0)) #[]) ::
(nat_lit 230, Obj.mk (Value.type "tuple") Option.none (Data.seq #[]) #[]) ::
(nat_lit 232, Obj.mk (Value.type "tuple") Option.none (Data.seq #[Value.str (Str.ofString "number") 480, Value.str (Str.ofString "side") 481]) #[]) ::
(nat_lit 233, Obj.mk (Value.type "tuple") Option.none (Data.seq #[]) #[]) ::
(nat_lit 235, Obj.mk (Value.type "code") Option.none (Data.fields #[Value.str (Str.ofString "is_square") 477, Value.str (Str.ofString "is_square") 478, Value.str (Str.ofString "/claim/cut.py") 479, Value.int 57 0, Value.int 1 0, Value.int 0 0, Value.int 0 0, Value.int 3 0, Value.ref 230, Value.bool Bool.true, Value.int 181 0, Value.ref 231, Value.none, Value.ref 232, Value.ref 233, Value.ref 234, Value.int 482 0, Value.int 57 0, Value.str (Str.ofString "/claim/cut.py") 483]) #[]) ::
(nat_lit 236, Obj.mk (Value.type "function") Option.none (Data.func (FuncData.mk (Str.ofString "is_square") (Str.ofString "is_square") (Arguments.mk [] [Arg.mk (Str.ofString "number") Option.none (Pos.mk 57 14 57 20)] Option.none [] [] Option.none []) (FuncBody.stmts [Stmt.If (Expr.Compare (Expr.Name (Str.ofString "number") (Pos.mk 58 7 58 13)) [CmpOp.Lt] [Expr.Constant (Const.int 0) 0 (Pos.mk 58 16 58 17)] (Pos.mk 58 7 58 17)) [Stmt.Return (Option.some (Expr.Constant (Const.bool Bool.false) 0 (Pos.mk 59 15 59 20))) (Pos.mk 59 8 59 20)] [] (Pos.mk 58 4 59 20), Stmt.Assign [Expr.Name (Str.ofString "side") (Pos.mk 60 4 60 8)] (Expr.Call (Expr.Name (Str.ofString "root") (Pos.mk 60 11 60 15)) [Expr.Name (Str.ofString "number") (Pos.mk 60 16 60 22)] [] (Pos.mk 60 11 60 23)) (Pos.mk 60 4 60 23), Stmt.Return (Option.some (Expr.Compare (Expr.BinOp (Expr.Name (Str.ofString "side") (Pos.mk 61 11 61 15)) Operator.Mult (Expr.Name (Str.ofString "side") (Pos.mk 61 18 61 22)) (Pos.mk 61 11 61 22)) [CmpOp.Eq] [Expr.Name (Str.ofString "number") (Pos.mk 61 26 61 32)] (Pos.mk 61 11 61 32))) (Pos.mk 61 4 61 32)]) (Scope.mk ScopeKind.function [(Str.ofString "number", NameKind.local), (Str.ofString "side", NameKind.local), (Str.ofString "root", NameKind.globalImplicit)] Bool.false Bool.false []) 3 [] Value.none Value.none Value.none (Value.str (Str.ofString "formcycle.wholes") 466) Option.none (Value.ref 235) Value.none 0)) #[]) ::
(nat_lit 237, Obj.mk (Value.type "tuple") Option.none (Data.seq #[]) #[]) ::
(nat_lit 239, Obj.mk (Value.type "tuple") Option.none (Data.seq #[Value.str (Str.ofString "number") 488, Value.str (Str.ofString "most") 489]) #[]) ::
(nat_lit 240, Obj.mk (Value.type "tuple") Option.none (Data.seq #[]) #[]) ::
(nat_lit 242, Obj.mk (Value.type "code") Option.none (Data.fields #[Value.str (Str.ofString "check_at_most") 485, Value.str (Str.ofString "check_at_most") 486, Value.str (Str.ofString "/claim/cut.py") 487, Value.int 62 0, Value.int 2 0, Value.int 0 0, Value.int 0 0, Value.int 3 0, Value.ref 237, Value.bool Bool.true, Value.int 181 0, Value.ref 238, Value.none, Value.ref 239, Value.ref 240, Value.ref 241, Value.int 490 0, Value.int 62 0, Value.str (Str.ofString "/claim/cut.py") 491]) #[]) ::
(nat_lit 243, Obj.mk (Value.type "function") Option.none (Data.func (FuncData.mk (Str.ofString "check_at_most") (Str.ofString "check_at_most") (Arguments.mk [] [Arg.mk (Str.ofString "number") Option.none (Pos.mk 62 18 62 24), Arg.mk (Str.ofString "most") Option.none (Pos.mk 62 26 62 30)] Option.none [] [] Option.none []) (FuncBody.stmts [Stmt.If (Expr.Compare (Expr.Name (Str.ofString "number") (Pos.mk 63 7 63 13)) [CmpOp.Gt] [Expr.Name (Str.ofString "most") (Pos.mk 63 16 63 20)] (Pos.mk 63 7 63 20)) [Stmt.Raise (Option.some (Expr.Call (Expr.Name (Str.ofString "TooGreat") (Pos.mk 64 14 64 22)) [Expr.Name (Str.ofString "number") (Pos.mk 64 23 64 29), Expr.Name (Str.ofString "most") (Pos.mk 64 31 64 35)] [] (Pos.mk 64 14 64 36))) Option.none (Pos.mk 64 8 64 36)] [] (Pos.mk 63 4 64 36)]) (Scope.mk ScopeKind.function [(Str.ofString "number", NameKind.local), (Str.ofString "most", NameKind.local), (Str.ofString "TooGreat", NameKind.globalImplicit)] Bool.false Bool.false []) 3 [] Value.none Value.none Value.none (Value.str (Str.ofString "formcycle.wholes") 466) Option.none (Value.ref 242) Value.none 0)) #[]) ::
(nat_lit 244, Obj.mk (Value.type "tuple") Option.none (Data.seq #[]) #[]) ::
(nat_lit 246, Obj.mk (Value.type "tuple") Option.none (Data.seq #[Value.str (Str.ofString "number") 502]) #[]) ::
(nat_lit 247, Obj.mk (Value.type "tuple") Option.none (Data.seq #[]) #[]) ::
(nat_lit 249, Obj.mk (Value.type "code") Option.none (Data.fields #[Value.str (Str.ofString "check_number") 499, Value.str (Str.ofString "check_number") 500, Value.str (Str.ofString "/claim/cut.py") 501, Value.int 68 0, Value.int 1 0, Value.int 0 0, Value.int 0 0, Value.int 3 0, Value.ref 244, Value.bool Bool.true, Value.int 181 0, Value.ref 245, Value.none, Value.ref 246, Value.ref 247, Value.ref 248, Value.int 503 0, Value.int 68 0, Value.str (Str.ofString "/claim/cut.py") 504]) #[]) ::
(nat_lit 250, Obj.mk (Value.type "function") Option.none (Data.func (FuncData.mk (Str.ofString "check_number") (Str.ofString "check_number") (Arguments.mk [] [Arg.mk (Str.ofString "number") Option.none (Pos.mk 68 17 68 23)] Option.none [] [] Option.none []) (FuncBody.stmts [Stmt.If (Expr.BoolOp BoolOp.Or [Expr.Compare (Expr.Name (Str.ofString "number") (Pos.mk 69 7 69 13)) [CmpOp.Lt] [Expr.Constant (Const.int 2) 0 (Pos.mk 69 16 69 17)] (Pos.mk 69 7 69 17), Expr.Call (Expr.Name (Str.ofString "is_square") (Pos.mk 69 21 69 30)) [Expr.Name (Str.ofString "number") (Pos.mk 69 31 69 37)] [] (Pos.mk 69 21 69 38)] (Pos.mk 69 7 69 38)) [Stmt.Raise (Option.some (Expr.Call (Expr.Name (Str.ofString "NoRoot") (Pos.mk 70 14 70 20)) [Expr.Name (Str.ofString "number") (Pos.mk 70 21 70 27)] [] (Pos.mk 70 14 70 28))) Option.none (Pos.mk 70 8 70 28)] [] (Pos.mk 69 4 70 28), Stmt.Expr (Expr.Call (Expr.Name (Str.ofString "check_at_most") (Pos.mk 71 4 71 17)) [Expr.Name (Str.ofString "number") (Pos.mk 71 18 71 24), Expr.Name (Str.ofString "MOST_NUMBER") (Pos.mk 71 26 71 37)] [] (Pos.mk 71 4 71 38)) (Pos.mk 71 4 71 38)]) (Scope.mk ScopeKind.function [(Str.ofString "number", NameKind.local), (Str.ofString "is_square", NameKind.globalImplicit), (Str.ofString "NoRoot", NameKind.globalImplicit), (Str.ofString "check_at_most", NameKind.globalImplicit), (Str.ofString "MOST_NUMBER", NameKind.globalImplicit)] Bool.false Bool.false []) 3 [] Value.none Value.none Value.none (Value.str (Str.ofString "formcycle.chains") 493) Option.none (Value.ref 249) Value.none 0)) #[]) ::
(nat_lit 251, Obj.mk (Value.type "tuple") Option.none (Data.seq #[]) #[]) ::
(nat_lit 253, Obj.mk (Value.type "tuple") Option.none (Data.seq #[Value.str (Str.ofString "number") 509, Value.str (Str.ofString "far") 510, Value.str (Str.ofString "rows") 511]) #[]) ::
(nat_lit 254, Obj.mk (Value.type "tuple") Option.none (Data.seq #[]) #[]) ::
(nat_lit 256, Obj.mk (Value.type "code") Option.none (Data.fields #[Value.str (Str.ofString "chain") 506, Value.str (Str.ofString "chain") 507, Value.str (Str.ofString "/claim/cut.py") 508, Value.int 72 0, Value.int 1 0, Value.int 0 0, Value.int 0 0, Value.int 3 0, Value.ref 251, Value.bool Bool.true, Value.int 181 0, Value.ref 252, Value.none, Value.ref 253, Value.ref 254, Value.ref 255, Value.int 512 0, Value.int 72 0, Value.str (Str.ofString "/claim/cut.py") 513]) #[]) ::
(nat_lit 257, Obj.mk (Value.type "function") Option.none (Data.func (FuncData.mk (Str.ofString "chain") (Str.ofString "chain") (Arguments.mk [] [Arg.mk (Str.ofString "number") Option.none (Pos.mk 72 10 72 16)] Option.none [] [] Option.none []) (FuncBody.stmts [Stmt.Expr (Expr.Call (Expr.Name (Str.ofString "check_number") (Pos.mk 73 4 73 16)) [Expr.Name (Str.ofString "number") (Pos.mk 73 17 73 23)] [] (Pos.mk 73 4 73 24)) (Pos.mk 73 4 73 24), Stmt.Assign [Expr.Name (Str.ofString "far") (Pos.mk 74 4 74 7)] (Expr.Call (Expr.Name (Str.ofString "root") (Pos.mk 74 10 74 14)) [Expr.Name (Str.ofString "number") (Pos.mk 74 15 74 21)] [] (Pos.mk 74 10 74 22)) (Pos.mk 74 4 74 22), Stmt.Assign [Expr.Name (Str.ofString "rows") (Pos.mk 75 4 75 8)] (Expr.List [Expr.Tuple [Expr.Constant (Const.int 0) 0 (Pos.mk 75 13 75 14), Expr.Constant (Const.int 1) 0 (Pos.mk 75 16 75 17), Expr.Name (Str.ofString "far") (Pos.mk 75 19 75 22)] 0 (Pos.mk 75 12 75 23)] (Pos.mk 75 11 75 24)) (Pos.mk 75 4 75 24), Stmt.Expr (Expr.Call (Expr.Attribute (Expr.Name (Str.ofString "rows") (Pos.mk 76 4 76 8)) (Str.ofString "append") (Pos.mk 76 4 76 15)) [Expr.Call (Expr.Name (Str.ofString "row_behind") (Pos.mk 76 16 76 26)) [Expr.Subscript (Expr.Name (Str.ofString "rows") (Pos.mk 76 27 76 31)) (Expr.Constant (Const.int 0) 0 (Pos.mk 76 32 76 33)) (Pos.mk 76 27 76 34), Expr.Name (Str.ofString "number") (Pos.mk 76 36 76 42), Expr.Name (Str.ofString "far") (Pos.mk 76 44 76 47)] [] (Pos.mk 76 16 76 48)] [] (Pos.mk 76 4 76 49)) (Pos.mk 76 4 76 49), Stmt.While (Expr.Compare (Expr.Subscript (Expr.Subscript (Expr.Name (Str.ofString "rows") (Pos.mk 77 10 77 14)) (Expr.UnaryOp UnaryOp.USub (Expr.Constant (Const.int 1) 0 (Pos.mk 77 16 77 17)) (Pos.mk 77 15 77 17)) (Pos.mk 77 10 77 18)) (Expr.Constant (Const.int 1) 0 (Pos.mk 77 19 77 20)) (Pos.mk 77 10 77 21)) [CmpOp.NotEq] [Expr.Constant (Const.int 1) 0 (Pos.mk 77 25 77 26)] (Pos.mk 77 10 77 26)) [Stmt.Expr (Expr.Call (Expr.Attribute (Expr.Name (Str.ofString "rows") (Pos.mk 78 8 78 12)) (Str.ofString "append") (Pos.mk 78 8 78 19)) [Expr.Call (Expr.Name (Str.ofString "row_behind") (Pos.mk 78 20 78 30)) [Expr.Subscript (Expr.Name (Str.ofString "rows") (Pos.mk 78 31 78 35)) (Expr.UnaryOp UnaryOp.USub (Expr.Constant (Const.int 1) 0 (Pos.mk 78 37 78 38)) (Pos.mk 78 36 78 38)) (Pos.mk 78 31 78 39), Expr.Name (Str.ofString "number") (Pos.mk 78 41 78 47), Expr.Name (Str.ofString "far") (Pos.mk 78 49 78 52)] [] (Pos.mk 78 20 78 53)] [] (Pos.mk 78 8 78 54)) (Pos.mk 78 8 78 54)] [] (Pos.mk 77 4 78 54), Stmt.Return (Option.some (Expr.Name (Str.ofString "rows") (Pos.mk 79 11 79 15))) (Pos.mk 79 4 79 15)]) (Scope.mk ScopeKind.function [(Str.ofString "number", NameKind.local), (Str.ofString "far", NameKind.local), (Str.ofString "rows", NameKind.local), (Str.ofString "check_number", NameKind.globalImplicit), (Str.ofString "root", NameKind.globalImplicit), (Str.ofString "row_behind", NameKind.globalImplicit)] Bool.false Bool.false []) 3 [] Value.none Value.none Value.none (Value.str (Str.ofString "formcycle.chains") 493) Option.none (Value.ref 256) Value.none 0)) #[]) ::
(nat_lit 258, Obj.mk (Value.type "tuple") Option.none (Data.seq #[]) #[]) ::
(nat_lit 260, Obj.mk (Value.type "tuple") Option.none (Data.seq #[Value.str (Str.ofString "row") 518, Value.str (Str.ofString "number") 519, Value.str (Str.ofString "far") 520, Value.str (Str.ofString "p") 521, Value.str (Str.ofString "q") 522]) #[]) ::
(nat_lit 261, Obj.mk (Value.type "tuple") Option.none (Data.seq #[]) #[]) ::
(nat_lit 263, Obj.mk (Value.type "code") Option.none (Data.fields #[Value.str (Str.ofString "row_behind") 515, Value.str (Str.ofString "row_behind") 516, Value.str (Str.ofString "/claim/cut.py") 517, Value.int 80 0, Value.int 3 0, Value.int 0 0, Value.int 0 0, Value.int 3 0, Value.ref 258, Value.bool Bool.true, Value.int 181 0, Value.ref 259, Value.none, Value.ref 260, Value.ref 261, Value.ref 262, Value.int 523 0, Value.int 80 0, Value.str (Str.ofString "/claim/cut.py") 524]) #[]) ::
(nat_lit 264, Obj.mk (Value.type "function") Option.none (Data.func (FuncData.mk (Str.ofString "row_behind") (Str.ofString "row_behind") (Arguments.mk [] [Arg.mk (Str.ofString "row") Option.none (Pos.mk 80 15 80 18), Arg.mk (Str.ofString "number") Option.none (Pos.mk 80 20 80 26), Arg.mk (Str.ofString "far") Option.none (Pos.mk 80 28 80 31)] Option.none [] [] Option.none []) (FuncBody.stmts [Stmt.Assign [Expr.Name (Str.ofString "p") (Pos.mk 81 4 81 5)] (Expr.BinOp (Expr.BinOp (Expr.Subscript (Expr.Name (Str.ofString "row") (Pos.mk 81 8 81 11)) (Expr.Constant (Const.int 2) 0 (Pos.mk 81 12 81 13)) (Pos.mk 81 8 81 14)) Operator.Mult (Expr.Subscript (Expr.Name (Str.ofString "row") (Pos.mk 81 17 81 20)) (Expr.Constant (Const.int 1) 0 (Pos.mk 81 21 81 22)) (Pos.mk 81 17 81 23)) (Pos.mk 81 8 81 23)) Operator.Sub (Expr.Subscript (Expr.Name (Str.ofString "row") (Pos.mk 81 26 81 29)) (Expr.Constant (Const.int 0) 0 (Pos.mk 81 30 81 31)) (Pos.mk 81 26 81 32)) (Pos.mk 81 8 81 32)) (Pos.mk 81 4 81 32), Stmt.Assign [Expr.Name (Str.ofString "q") (Pos.mk 82 4 82 5)] (Expr.BinOp (Expr.BinOp (Expr.Name (Str.ofString "number") (Pos.mk 82 9 82 15)) Operator.Sub (Expr.BinOp (Expr.Name (Str.ofString "p") (Pos.mk 82 18 82 19)) Operator.Mult (Expr.Name (Str.ofString "p") (Pos.mk 82 22 82 23)) (Pos.mk 82 18 82 23)) (Pos.mk 82 9 82 23)) Operator.FloorDiv (Expr.Subscript (Expr.Name (Str.ofString "row") (Pos.mk 82 28 82 31)) (Expr.Constant (Const.int 1) 0 (Pos.mk 82 32 82 33)) (Pos.mk 82 28 82 34)) (Pos.mk 82 8 82 34)) (Pos.mk 82 4 82 34), Stmt.Return (Option.some (Expr.Tuple [Expr.Name (Str.ofString "p") (Pos.mk 83 12 83 13), Expr.Name (Str.ofString "q") (Pos.mk 83 15 83 16), Expr.BinOp (Expr.BinOp (Expr.Name (Str.ofString "far") (Pos.mk 83 19 83 22)) Operator.Add (Expr.Name (Str.ofString "p") (Pos.mk 83 25 83 26)) (Pos.mk 83 19 83 26)) Operator.FloorDiv (Expr.Name (Str.ofString "q") (Pos.mk 83 31 83 32)) (Pos.mk 83 18 83 32)] 0 (Pos.mk 83 11 83 33))) (Pos.mk 83 4 83 33)]) (Scope.mk ScopeKind.function [(Str.ofString "row", NameKind.local), (Str.ofString "number", NameKind.local), (Str.ofString "far", NameKind.local), (Str.ofString "p", NameKind.local), (Str.ofString "q", NameKind.local)] Bool.false Bool.false []) 3 [] Value.none Value.none Value.none (Value.str (Str.ofString "formcycle.chains") 493) Option.none (Value.ref 263) Value.none 0)) #[]) ::
(nat_lit 265, Obj.mk (Value.type "tuple") Option.none (Data.seq #[]) #[]) ::
(nat_lit 267, Obj.mk (Value.type "tuple") Option.none (Data.seq #[Value.str (Str.ofString "number") 529, Value.str (Str.ofString "k") 530]) #[]) ::
(nat_lit 268, Obj.mk (Value.type "tuple") Option.none (Data.seq #[]) #[]) ::
(nat_lit 270, Obj.mk (Value.type "code") Option.none (Data.fields #[Value.str (Str.ofString "part") 526, Value.str (Str.ofString "part") 527, Value.str (Str.ofString "/claim/cut.py") 528, Value.int 84 0, Value.int 2 0, Value.int 0 0, Value.int 0 0, Value.int 3 0, Value.ref 265, Value.bool Bool.true, Value.int 181 0, Value.ref 266, Value.none, Value.ref 267, Value.ref 268, Value.ref 269, Value.int 531 0, Value.int 84 0, Value.str (Str.ofString "/claim/cut.py") 532]) #[]) ::
(nat_lit 271, Obj.mk (Value.type "function") Option.none (Data.func (FuncData.mk (Str.ofString "part") (Str.ofString "part") (Arguments.mk [] [Arg.mk (Str.ofString "number") Option.none (Pos.mk 84 9 84 15), Arg.mk (Str.ofString "k") Option.none (Pos.mk 84 17 84 18)] Option.none [] [] Option.none []) (FuncBody.stmts [Stmt.Return (Option.some (Expr.Call (Expr.Name (Str.ofString "part_of") (Pos.mk 85 11 85 18)) [Expr.Call (Expr.Name (Str.ofString "chain") (Pos.mk 85 19 85 24)) [Expr.Name (Str.ofString "number") (Pos.mk 85 25 85 31)] [] (Pos.mk 85 19 85 32), Expr.Name (Str.ofString "k") (Pos.mk 85 34 85 35)] [] (Pos.mk 85 11 85 36))) (Pos.mk 85 4 85 36)]) (Scope.mk ScopeKind.function [(Str.ofString "number", NameKind.local), (Str.ofString "k", NameKind.local), (Str.ofString "part_of", NameKind.globalImplicit), (Str.ofString "chain", NameKind.globalImplicit)] Bool.false Bool.false []) 3 [] Value.none Value.none Value.none (Value.str (Str.ofString "formcycle.chains") 493) Option.none (Value.ref 270) Value.none 0)) #[]) ::
(nat_lit 272, Obj.mk (Value.type "tuple") Option.none (Data.seq #[]) #[]) ::
(nat_lit 274, Obj.mk (Value.type "tuple") Option.none (Data.seq #[Value.str (Str.ofString "rows") 537, Value.str (Str.ofString "k") 538]) #[]) ::
(nat_lit 275, Obj.mk (Value.type "tuple") Option.none (Data.seq #[]) #[]) ::
(nat_lit 277, Obj.mk (Value.type "code") Option.none (Data.fields #[Value.str (Str.ofString "part_of") 534, Value.str (Str.ofString "part_of") 535, Value.str (Str.ofString "/claim/cut.py") 536, Value.int 86 0, Value.int 2 0, Value.int 0 0, Value.int 0 0, Value.int 3 0, Value.ref 272, Value.bool Bool.true, Value.int 181 0, Value.ref 273, Value.none, Value.ref 274, Value.ref 275, Value.ref 276, Value.int 539 0, Value.int 86 0, Value.str (Str.ofString "/claim/cut.py") 540]) #[]) ::
(nat_lit 278, Obj.mk (Value.type "function") Option.none (Data.func (FuncData.mk (Str.ofString "part_of") (Str.ofString "part_of") (Arguments.mk [] [Arg.mk (Str.ofString "rows") Option.none (Pos.mk 86 12 86 16), Arg.mk (Str.ofString "k") Option.none (Pos.mk 86 18 86 19)] Option.none [] [] Option.none []) (FuncBody.stmts [Stmt.If (Expr.Compare (Expr.Name (Str.ofString "k") (Pos.mk 87 7 87 8)) [CmpOp.Eq] [Expr.Constant (Const.int 0) 0 (Pos.mk 87 12 87 13)] (Pos.mk 87 7 87 13)) [Stmt.Return (Option.some (Expr.Subscript (Expr.Subscript (Expr.Name (Str.ofString "rows") (Pos.mk 88 15 88 19)) (Expr.Constant (Const.int 0) 0 (Pos.mk 88 20 88 21)) (Pos.mk 88 15 88 22)) (Expr.Constant (Const.int 2) 0 (Pos.mk 88 23 88 24)) (Pos.mk 88 15 88 25))) (Pos.mk 88 8 88 25)] [] (Pos.mk 87 4 88 25), Stmt.Return (Option.some (Expr.Subscript (Expr.Subscript (Expr.Name (Str.ofString "rows") (Pos.mk 89 11 89 15)) (Expr.BinOp (Expr.Constant (Const.int 1) 0 (Pos.mk 89 16 89 17)) Operator.Add (Expr.BinOp (Expr.BinOp (Expr.Name (Str.ofString "k") (Pos.mk 89 21 89 22)) Operator.Sub (Expr.Constant (Const.int 1) 0 (Pos.mk 89 25 89 26)) (Pos.mk 89 21 89 26)) Operator.Mod (Expr.BinOp (Expr.Call (Expr.Name (Str.ofString "len") (Pos.mk 89 31 89 34)) [Expr.Name (Str.ofString "rows") (Pos.mk 89 35 89 39)] [] (Pos.mk 89 31 89 40)) Operator.Sub (Expr.Constant (Const.int 1) 0 (Pos.mk 89 43 89 44)) (Pos.mk 89 31 89 44)) (Pos.mk 89 20 89 45)) (Pos.mk 89 16 89 45)) (Pos.mk 89 11 89 46)) (Expr.Constant (Const.int 2) 0 (Pos.mk 89 47 89 48)) (Pos.mk 89 11 89 49))) (Pos.mk 89 4 89 49)]) (Scope.mk ScopeKind.function [(Str.ofString "rows", NameKind.local), (Str.ofString "k", NameKind.local), (Str.ofString "len", NameKind.globalImplicit)] Bool.false Bool.false []) 3 [] Value.none Value.none Value.none (Value.str (Str.ofString "formcycle.chains") 493) Option.none (Value.ref 277) Value.none 0)) #[]) ::
(nat_lit 279, Obj.mk (Value.type "tuple") Option.none (Data.seq #[]) #[]) ::
(nat_lit 281, Obj.mk (Value.type "tuple") Option.none (Data.seq #[Value.str (Str.ofString "number") 545, Value.str (Str.ofString "k") 546, Value.str (Str.ofString "rows") 547]) #[]) ::
(nat_lit 282, Obj.mk (Value.type "tuple") Option.none (Data.seq #[]) #[]) ::
(nat_lit 284, Obj.mk (Value.type "code") Option.none (Data.fields #[Value.str (Str.ofString "fraction") 542, Value.str (Str.ofString "fraction") 543, Value.str (Str.ofString "/claim/cut.py") 544, Value.int 90 0, Value.int 2 0, Value.int 0 0, Value.int 0 0, Value.int 3 0, Value.ref 279, Value.bool Bool.true, Value.int 181 0, Value.ref 280, Value.none, Value.ref 281, Value.ref 282, Value.ref 283, Value.int 548 0, Value.int 90 0, Value.str (Str.ofString "/claim/cut.py") 549]) #[]) ::
(nat_lit 285, Obj.mk (Value.type "function") Option.none (Data.func (FuncData.mk (Str.ofString "fraction") (Str.ofString "fraction") (Arguments.mk [] [Arg.mk (Str.ofString "number") Option.none (Pos.mk 90 13 90 19), Arg.mk (Str.ofString "k") Option.none (Pos.mk 90 21 90 22)] Option.none [] [] Option.none []) (FuncBody.stmts [Stmt.Assign [Expr.Name (Str.ofString "rows") (Pos.mk 91 4 91 8)] (Expr.Call (Expr.Name (Str.ofString "chain") (Pos.mk 91 11 91 16)) [Expr.Name (Str.ofString "number") (Pos.mk 91 17 91 23)] [] (Pos.mk 91 11 91 24)) (Pos.mk 91 4 91 24), Stmt.Expr (Expr.Call (Expr.Name (Str.ofString "check_at_most") (Pos.mk 92 4 92 17)) [Expr.Name (Str.ofString "k") (Pos.mk 92 18 92 19), Expr.Name (Str.ofString "MOST_PLACE") (Pos.mk 92 21 92 31)] [] (Pos.mk 92 4 92 32)) (Pos.mk 92 4 92 32), Stmt.Return (Option.some (Expr.Call (Expr.Name (Str.ofString "fraction_of") (Pos.mk 93 11 93 22)) [Expr.Name (Str.ofString "rows") (Pos.mk 93 23 93 27), Expr.Name (Str.ofString "k") (Pos.mk 93 29 93 30)] [] (Pos.mk 93 11 93 31))) (Pos.mk 93 4 93 31)]) (Scope.mk ScopeKind.function [(Str.ofString "number", NameKind.local), (Str.ofString "k", NameKind.local), (Str.ofString "rows", NameKind.local), (Str.ofString "chain", NameKind.globalImplicit), (Str.ofString "check_at_most", NameKind.globalImplicit), (Str.ofString "MOST_PLACE", NameKind.globalImplicit), (Str.ofString "fraction_of", NameKind.globalImplicit)] Bool.false Bool.false []) 3 [] Value.none Value.none Value.none (Value.str (Str.ofString "formcycle.chains") 493) Option.none (Value.ref 284) Value.none 0)) #[]) ::
(nat_lit 286, Obj.mk (Value.type "tuple") Option.none (Data.seq #[]) #[]) ::
(nat_lit 288, Obj.mk (Value.type "tuple") Option.none (Data.seq #[Value.str (Str.ofString "rows") 554, Value.str (Str.ofString "k") 555, Value.str (Str.ofString "pair") 556, Value.str (Str.ofString "place") 557]) #[]) ::
(nat_lit 289, Obj.mk (Value.type "tuple") Option.none (Data.seq #[]) #[]) ::
(nat_lit 291, Obj.mk (Value.type "code") Option.none (Data.fields #[Value.str (Str.ofString "fraction_of") 551, Value.str (Str.ofString "fraction_of") 552, Value.str (Str.ofString "/claim/cut.py") 553, Value.int 94 0, Value.int 2 0, Value.int 0 0, Value.int 0 0, Value.int 3 0, Value.ref 286, Value.bool Bool.true, Value.int 181 0, Value.ref 287, Value.none, Value.ref 288, Value.ref 289, Value.ref 290, Value.int 558 0, Value.int 94 0, Value.str (Str.ofString "/claim/cut.py") 559]) #[]) ::
(nat_lit 292, Obj.mk (Value.type "function") Option.none (Data.func (FuncData.mk (Str.ofString "fraction_of") (Str.ofString "fraction_of") (Arguments.mk [] [Arg.mk (Str.ofString "rows") Option.none (Pos.mk 94 16 94 20), Arg.mk (Str.ofString "k") Option.none (Pos.mk 94 22 94 23)] Option.none [] [] Option.none []) (FuncBody.stmts [Stmt.Assign [Expr.Name (Str.ofString "pair") (Pos.mk 95 4 95 8)] (Expr.Call (Expr.Name (Str.ofString "first_pair") (Pos.mk 95 11 95 21)) [Expr.Name (Str.ofString "rows") (Pos.mk 95 22 95 26)] [] (Pos.mk 95 11 95 27)) (Pos.mk 95 4 95 27), Stmt.For (Expr.Name (Str.ofString "place") (Pos.mk 96 8 96 13)) (Expr.Call (Expr.Name (Str.ofString "range") (Pos.mk 96 17 96 22)) [Expr.Constant (Const.int 1) 0 (Pos.mk 96 23 96 24), Expr.BinOp (Expr.Name (Str.ofString "k") (Pos.mk 96 26 96 27)) Operator.Add (Expr.Constant (Const.int 1) 0 (Pos.mk 96 30 96 31)) (Pos.mk 96 26 96 31)] [] (Pos.mk 96 17 96 32)) [Stmt.Assign [Expr.Name (Str.ofString "pair") (Pos.mk 97 8 97 12)] (Expr.Call (Expr.Name (Str.ofString "pair_behind") (Pos.mk 97 15 97 26)) [Expr.Name (Str.ofString "pair") (Pos.mk 97 27 97 31), Expr.Call (Expr.Name (Str.ofString "part_of") (Pos.mk 97 33 97 40)) [Expr.Name (Str.ofString "rows") (Pos.mk 97 41 97 45), Expr.Name (Str.ofString "place") (Pos.mk 97 47 97 52)] [] (Pos.mk 97 33 97 53)] [] (Pos.mk 97 15 97 54)) (Pos.mk 97 8 97 54)] [] (Pos.mk 96 4 97 54), Stmt.Return (Option.some (Expr.Subscript (Expr.Name (Str.ofString "pair") (Pos.mk 98 11 98 15)) (Expr.Constant (Const.int 1) 0 (Pos.mk 98 16 98 17)) (Pos.mk 98 11 98 18))) (Pos.mk 98 4 98 18)]) (Scope.mk ScopeKind.function [(Str.ofString "rows", NameKind.local), (Str.ofString "k", NameKind.local), (Str.ofString "pair", NameKind.local), (Str.ofString "place", NameKind.local), (Str.ofString "first_pair", NameKind.globalImplicit), (Str.ofString "range", NameKind.globalImplicit), (Str.ofString "pair_behind", NameKind.globalImplicit), (Str.ofString "part_of", NameKind.globalImplicit)] Bool.false Bool.false []) 3 [] Value.none Value.none Value.none (Value.str (Str.ofString "formcycle.chains") 493) Option.none (Value.ref 291) Value.none 0)) #[]) ::
(nat_lit 293, Obj.mk (Value.type "tuple") Option.none (Data.seq #[]) #[]) ::
(nat_lit 295, Obj.mk (Value.type "tuple") Option.none (Data.seq #[Value.str (Str.ofString "rows") 564]) #[]) ::
(nat_lit 296, Obj.mk (Value.type "tuple") Option.none (Data.seq #[]) #[]) ::
(nat_lit 298, Obj.mk (Value.type "code") Option.none (Data.fields #[Value.str (Str.ofString "first_pair") 561, Value.str (Str.ofString "first_pair") 562, Value.str (Str.ofString "/claim/cut.py") 563, Value.int 99 0, Value.int 1 0, Value.int 0 0, Value.int 0 0, Value.int 3 0, Value.ref 293, Value.bool Bool.true, Value.int 181 0, Value.ref 294, Value.none, Value.ref 295, Value.ref 296, Value.ref 297, Value.int 565 0, Value.int 99 0, Value.str (Str.ofString "/claim/cut.py") 566]) #[]) ::
(nat_lit 299, Obj.mk (Value.type "function") Option.none (Data.func (FuncData.mk (Str.ofString "first_pair") (Str.ofString "first_pair") (Arguments.mk [] [Arg.mk (Str.ofString "rows") Option.none (Pos.mk 99 15 99 19)] Option.none [] [] Option.none []) (FuncBody.stmts [Stmt.Return (Option.some (Expr.Tuple [Expr.Tuple [Expr.Constant (Const.int 1) 0 (Pos.mk 100 13 100 14), Expr.Constant (Const.int 0) 0 (Pos.mk 100 16 100 17)] 0 (Pos.mk 100 12 100 18), Expr.Tuple [Expr.Subscript (Expr.Subscript (Expr.Name (Str.ofString "rows") (Pos.mk 100 21 100 25)) (Expr.Constant (Const.int 0) 0 (Pos.mk 100 26 100 27)) (Pos.mk 100 21 100 28)) (Expr.Constant (Const.int 2) 0 (Pos.mk 100 29 100 30)) (Pos.mk 100 21 100 31), Expr.Constant (Const.int 1) 0 (Pos.mk 100 33 100 34)] 0 (Pos.mk 100 20 100 35)] 0 (Pos.mk 100 11 100 36))) (Pos.mk 100 4 100 36)]) (Scope.mk ScopeKind.function [(Str.ofString "rows", NameKind.local)] Bool.false Bool.false []) 3 [] Value.none Value.none Value.none (Value.str (Str.ofString "formcycle.chains") 493) Option.none (Value.ref 298) Value.none 0)) #[]) ::
(nat_lit 300, Obj.mk (Value.type "tuple") Option.none (Data.seq #[]) #[]) ::
(nat_lit 302, Obj.mk (Value.type "tuple") Option.none (Data.seq #[Value.str (Str.ofString "pair") 571, Value.str (Str.ofString "often") 572, Value.str (Str.ofString "ahead") 573, Value.str (Str.ofString "last") 574]) #[]) ::
(nat_lit 303, Obj.mk (Value.type "tuple") Option.none (Data.seq #[]) #[]) ::
(nat_lit 305, Obj.mk (Value.type "code") Option.none (Data.fields #[Value.str (Str.ofString "pair_behind") 568, Value.str (Str.ofString "pair_behind") 569, Value.str (Str.ofString "/claim/cut.py") 570, Value.int 101 0, Value.int 2 0, Value.int 0 0, Value.int 0 0, Value.int 3 0, Value.ref 300, Value.bool Bool.true, Value.int 181 0, Value.ref 301, Value.none, Value.ref 302, Value.ref 303, Value.ref 304, Value.int 575 0, Value.int 101 0, Value.str (Str.ofString "/claim/cut.py") 576]) #[]) ::
(nat_lit 306, Obj.mk (Value.type "function") Option.none (Data.func (FuncData.mk (Str.ofString "pair_behind") (Str.ofString "pair_behind") (Arguments.mk [] [Arg.mk (Str.ofString "pair") Option.none (Pos.mk 101 16 101 20), Arg.mk (Str.ofString "often") Option.none (Pos.mk 101 22 101 27)] Option.none [] [] Option.none []) (FuncBody.stmts [Stmt.Assign [Expr.Name (Str.ofString "ahead") (Pos.mk 102 4 102 9)] (Expr.Subscript (Expr.Name (Str.ofString "pair") (Pos.mk 102 12 102 16)) (Expr.Constant (Const.int 0) 0 (Pos.mk 102 17 102 18)) (Pos.mk 102 12 102 19)) (Pos.mk 102 4 102 19), Stmt.Assign [Expr.Name (Str.ofString "last") (Pos.mk 103 4 103 8)] (Expr.Subscript (Expr.Name (Str.ofString "pair") (Pos.mk 103 11 103 15)) (Expr.Constant (Const.int 1) 0 (Pos.mk 103 16 103 17)) (Pos.mk 103 11 103 18)) (Pos.mk 103 4 103 18), Stmt.Return (Option.some (Expr.Tuple [Expr.Name (Str.ofString "last") (Pos.mk 104 12 104 16), Expr.Tuple [Expr.BinOp (Expr.BinOp (Expr.Name (Str.ofString "often") (Pos.mk 104 19 104 24)) Operator.Mult (Expr.Subscript (Expr.Name (Str.ofString "last") (Pos.mk 104 27 104 31)) (Expr.Constant (Const.int 0) 0 (Pos.mk 104 32 104 33)) (Pos.mk 104 27 104 34)) (Pos.mk 104 19 104 34)) Operator.Add (Expr.Subscript (Expr.Name (Str.ofString "ahead") (Pos.mk 104 37 104 42)) (Expr.Constant (Const.int 0) 0 (Pos.mk 104 43 104 44)) (Pos.mk 104 37 104 45)) (Pos.mk 104 19 104 45), Expr.BinOp (Expr.BinOp (Expr.Name (Str.ofString "often") (Pos.mk 104 47 104 52)) Operator.Mult (Expr.Subscript (Expr.Name (Str.ofString "last") (Pos.mk 104 55 104 59)) (Expr.Constant (Const.int 1) 0 (Pos.mk 104 60 104 61)) (Pos.mk 104 55 104 62)) (Pos.mk 104 47 104 62)) Operator.Add (Expr.Subscript (Expr.Name (Str.ofString "ahead") (Pos.mk 104 65 104 70)) (Expr.Constant (Const.int 1) 0 (Pos.mk 104 71 104 72)) (Pos.mk 104 65 104 73)) (Pos.mk 104 47 104 73)] 0 (Pos.mk 104 18 104 74)] 0 (Pos.mk 104 11 104 75))) (Pos.mk 104 4 104 75)]) (Scope.mk ScopeKind.function [(Str.ofString "pair", NameKind.local), (Str.ofString "often", NameKind.local), (Str.ofString "ahead", NameKind.local), (Str.ofString "last", NameKind.local)] Bool.false Bool.false []) 3 [] Value.none Value.none Value.none (Value.str (Str.ofString "formcycle.chains") 493) Option.none (Value.ref 305) Value.none 0)) #[]) ::
(nat_lit 307, Obj.mk (Value.type "tuple") Option.none (Data.seq #[]) #[]) ::
(nat_lit 309, Obj.mk (Value.type "tuple") Option.none (Data.seq #[Value.str (Str.ofString "number") 581, Value.str (Str.ofString "point") 582]) #[]) ::
(nat_lit 310, Obj.mk (Value.type "tuple") Option.none (Data.seq #[]) #[]) ::
(nat_lit 312, Obj.mk (Value.type "code") Option.none (Data.fields #[Value.str (Str.ofString "plus_one") 578, Value.str (Str.ofString "plus_one") 579, Value.str (Str.ofString "/claim/cut.py") 580, Value.int 105 0, Value.int 1 0, Value.int 0 0, Value.int 0 0, Value.int 3 0, Value.ref 307, Value.bool Bool.true, Value.int 181 0, Value.ref 308, Value.none, Value.ref 309, Value.ref 310, Value.ref 311, Value.int 583 0, Value.int 105 0, Value.str (Str.ofString "/claim/cut.py") 584]) #[]) ::
(nat_lit 313, Obj.mk (Value.type "function") Option.none (Data.func (FuncData.mk (Str.ofString "plus_one") (Str.ofString "plus_one") (Arguments.mk [] [Arg.mk (Str.ofString "number") Option.none (Pos.mk 105 13 105 19)] Option.none [] [] Option.none []) (FuncBody.stmts [Stmt.Assign [Expr.Name (Str.ofString "point") (Pos.mk 106 4 106 9)] (Expr.Call (Expr.Name (Str.ofString "point_of_round") (Pos.mk 106 12 106 26)) [Expr.Call (Expr.Name (Str.ofString "chain") (Pos.mk 106 27 106 32)) [Expr.Name (Str.ofString "number") (Pos.mk 106 33 106 39)] [] (Pos.mk 106 27 106 40)] [] (Pos.mk 106 12 106 41)) (Pos.mk 106 4 106 41), Stmt.If (Expr.Compare (Expr.Call (Expr.Name (Str.ofString "square_less") (Pos.mk 107 7 107 18)) [Expr.Name (Str.ofString "number") (Pos.mk 107 19 107 25), Expr.Name (Str.ofString "point") (Pos.mk 107 27 107 32)] [] (Pos.mk 107 7 107 33)) [CmpOp.Eq] [Expr.Constant (Const.int 1) 0 (Pos.mk 107 37 107 38)] (Pos.mk 107 7 107 38)) [Stmt.Return (Option.some (Expr.Name (Str.ofString "point") (Pos.mk 108 15 108 20))) (Pos.mk 108 8 108 20)] [] (Pos.mk 107 4 108 20), Stmt.Return (Option.some (Expr.Tuple [Expr.BinOp (Expr.BinOp (Expr.Subscript (Expr.Name (Str.ofString "point") (Pos.mk 109 12 109 17)) (Expr.Constant (Const.int 0) 0 (Pos.mk 109 18 109 19)) (Pos.mk 109 12 109 20)) Operator.Mult (Expr.Subscript (Expr.Name (Str.ofString "point") (Pos.mk 109 23 109 28)) (Expr.Constant (Const.int 0) 0 (Pos.mk 109 29 109 30)) (Pos.mk 109 23 109 31)) (Pos.mk 109 12 109 31)) Operator.Add (Expr.BinOp (Expr.BinOp (Expr.Name (Str.ofString "number") (Pos.mk 109 34 109 40)) Operator.Mult (Expr.Subscript (Expr.Name (Str.ofString "point") (Pos.mk 109 43 109 48)) (Expr.Constant (Const.int 1) 0 (Pos.mk 109 49 109 50)) (Pos.mk 109 43 109 51)) (Pos.mk 109 34 109 51)) Operator.Mult (Expr.Subscript (Expr.Name (Str.ofString "point") (Pos.mk 109 54 109 59)) (Expr.Constant (Const.int 1) 0 (Pos.mk 109 60 109 61)) (Pos.mk 109 54 109 62)) (Pos.mk 109 34 109 62)) (Pos.mk 109 12 109 62), Expr.BinOp (Expr.BinOp (Expr.Constant (Const.int 2) 0 (Pos.mk 109 64 109 65)) Operator.Mult (Expr.Subscript (Expr.Name (Str.ofString "point") (Pos.mk 109 68 109 73)) (Expr.Constant (Const.int 0) 0 (Pos.mk 109 74 109 75)) (Pos.mk 109 68 109 76)) (Pos.mk 109 64 109 76)) Operator.Mult (Expr.Subscript (Expr.Name (Str.ofString "point") (Pos.mk 109 79 109 84)) (Expr.Constant (Const.int 1) 0 (Pos.mk 109 85 109 86)) (Pos.mk 109 79 109 87)) (Pos.mk 109 64 109 87)] 0 (Pos.mk 109 11 109 88))) (Pos.mk 109 4 109 88)]) (Scope.mk ScopeKind.function [(Str.ofString "number", NameKind.local), (Str.ofString "point", NameKind.local), (Str.ofString "point_of_round", NameKind.globalImplicit), (Str.ofString "chain", NameKind.globalImplicit), (Str.ofString "square_less", NameKind.globalImplicit)] Bool.false Bool.false []) 3 [] Value.none Value.none Value.none (Value.str (Str.ofString "formcycle.chains") 493) Option.none (Value.ref 312) Value.none 0)) #[]) ::
(nat_lit 314, Obj.mk (Value.type "tuple") Option.none (Data.seq #[]) #[]) ::
(nat_lit 316, Obj.mk (Value.type "tuple") Option.none (Data.seq #[Value.str (Str.ofString "number") 589, Value.str (Str.ofString "point") 590]) #[]) ::
(nat_lit 317, Obj.mk (Value.type "tuple") Option.none (Data.seq #[]) #[]) ::
(nat_lit 319, Obj.mk (Value.type "code") Option.none (Data.fields #[Value.str (Str.ofString "minus_one") 586, Value.str (Str.ofString "minus_one") 587, Value.str (Str.ofString "/claim/cut.py") 588, Value.int 110 0, Value.int 1 0, Value.int 0 0, Value.int 0 0, Value.int 3 0, Value.ref 314, Value.bool Bool.true, Value.int 181 0, Value.ref 315, Value.none, Value.ref 316, Value.ref 317, Value.ref 318, Value.int 591 0, Value.int 110 0, Value.str (Str.ofString "/claim/cut.py") 592]) #[]) ::
(nat_lit 320, Obj.mk (Value.type "function") Option.none (Data.func (FuncData.mk (Str.ofString "minus_one") (Str.ofString "minus_one") (Arguments.mk [] [Arg.mk (Str.ofString "number") Option.none (Pos.mk 110 14 110 20)] Option.none [] [] Option.none []) (FuncBody.stmts [Stmt.Assign [Expr.Name (Str.ofString "point") (Pos.mk 111 4 111 9)] (Expr.Call (Expr.Name (Str.ofString "point_of_round") (Pos.mk 111 12 111 26)) [Expr.Call (Expr.Name (Str.ofString "chain") (Pos.mk 111 27 111 32)) [Expr.Name (Str.ofString "number") (Pos.mk 111 33 111 39)] [] (Pos.mk 111 27 111 40)] [] (Pos.mk 111 12 111 41)) (Pos.mk 111 4 111 41), Stmt.If (Expr.Compare (Expr.Call (Expr.Name (Str.ofString "square_less") (Pos.mk 112 7 112 18)) [Expr.Name (Str.ofString "number") (Pos.mk 112 19 112 25), Expr.Name (Str.ofString "point") (Pos.mk 112 27 112 32)] [] (Pos.mk 112 7 112 33)) [CmpOp.Eq] [Expr.UnaryOp UnaryOp.USub (Expr.Constant (Const.int 1) 0 (Pos.mk 112 38 112 39)) (Pos.mk 112 37 112 39)] (Pos.mk 112 7 112 39)) [Stmt.Return (Option.some (Expr.Name (Str.ofString "point") (Pos.mk 113 15 113 20))) (Pos.mk 113 8 113 20)] [] (Pos.mk 112 4 113 20), Stmt.Return (Option.some (Expr.Constant Const.none 0 (Pos.mk 114 11 114 15))) (Pos.mk 114 4 114 15)]) (Scope.mk ScopeKind.function [(Str.ofString "number", NameKind.local), (Str.ofString "point", NameKind.local), (Str.ofString "point_of_round", NameKind.globalImplicit), (Str.ofString "chain", NameKind.globalImplicit), (Str.ofString "square_less", NameKind.globalImplicit)] Bool.false Bool.false []) 3 [] Value.none Value.none Value.none (Value.str (Str.ofString "formcycle.chains") 493) Option.none (Value.ref 319) Value.none 0)) #[]) ::
(nat_lit 321, Obj.mk (Value.type "tuple") Option.none (Data.seq #[]) #[]) ::
(nat_lit 323, Obj.mk (Value.type "tuple") Option.none (Data.seq #[Value.str (Str.ofString "rows") 597]) #[]) ::
(nat_lit 324, Obj.mk (Value.type "tuple") Option.none (Data.seq #[]) #[]) ::
(nat_lit 326, Obj.mk (Value.type "code") Option.none (Data.fields #[Value.str (Str.ofString "point_of_round") 594, Value.str (Str.ofString "point_of_round") 595, Value.str (Str.ofString "/claim/cut.py") 596, Value.int 115 0, Value.int 1 0, Value.int 0 0, Value.int 0 0, Value.int 3 0, Value.ref 321, Value.bool Bool.true, Value.int 181 0, Value.ref 322, Value.none, Value.ref 323, Value.ref 324, Value.ref 325, Value.int 598 0, Value.int 115 0, Value.str (Str.ofString "/claim/cut.py") 599]) #[]) ::
(nat_lit 327, Obj.mk (Value.type "function") Option.none (Data.func (FuncData.mk (Str.ofString "point_of_round") (Str.ofString "point_of_round") (Arguments.mk [] [Arg.mk (Str.ofString "rows") Option.none (Pos.mk 115 19 115 23)] Option.none [] [] Option.none []) (FuncBody.stmts [Stmt.Return (Option.some (Expr.Call (Expr.Name (Str.ofString "fraction_of") (Pos.mk 116 11 116 22)) [Expr.Name (Str.ofString "rows") (Pos.mk 116 23 116 27), Expr.BinOp (Expr.Call (Expr.Name (Str.ofString "len") (Pos.mk 116 29 116 32)) [Expr.Name (Str.ofString "rows") (Pos.mk 116 33 116 37)] [] (Pos.mk 116 29 116 38)) Operator.Sub (Expr.Constant (Const.int 2) 0 (Pos.mk 116 41 116 42)) (Pos.mk 116 29 116 42)] [] (Pos.mk 116 11 116 43))) (Pos.mk 116 4 116 43)]) (Scope.mk ScopeKind.function [(Str.ofString "rows", NameKind.local), (Str.ofString "fraction_of", NameKind.globalImplicit), (Str.ofString "len", NameKind.globalImplicit)] Bool.false Bool.false []) 3 [] Value.none Value.none Value.none (Value.str (Str.ofString "formcycle.chains") 493) Option.none (Value.ref 326) Value.none 0)) #[]) ::
(nat_lit 328, Obj.mk (Value.type "tuple") Option.none (Data.seq #[]) #[]) ::
(nat_lit 330, Obj.mk (Value.type "tuple") Option.none (Data.seq #[Value.str (Str.ofString "number") 604, Value.str (Str.ofString "point") 605]) #[]) ::
(nat_lit 331, Obj.mk (Value.type "tuple") Option.none (Data.seq #[]) #[]) ::
(nat_lit 333, Obj.mk (Value.type "code") Option.none (Data.fields #[Value.str (Str.ofString "square_less") 601, Value.str (Str.ofString "square_less") 602, Value.str (Str.ofString "/claim/cut.py") 603, Value.int 117 0, Value.int 2 0, Value.int 0 0, Value.int 0 0, Value.int 3 0, Value.ref 328, Value.bool Bool.true, Value.int 181 0, Value.ref 329, Value.none, Value.ref 330, Value.ref 331, Value.ref 332, Value.int 606 0, Value.int 117 0, Value.str (Str.ofString "/claim/cut.py") 607]) #[]) ::
(nat_lit 334, Obj.mk (Value.type "function") Option.none (Data.func (FuncData.mk (Str.ofString "square_less") (Str.ofString "square_less") (Arguments.mk [] [Arg.mk (Str.ofString "number") Option.none (Pos.mk 117 16 117 22), Arg.mk (Str.ofString "point") Option.none (Pos.mk 117 24 117 29)] Option.none [] [] Option.none []) (FuncBody.stmts [Stmt.Return (Option.some (Expr.BinOp (Expr.BinOp (Expr.Subscript (Expr.Name (Str.ofString "point") (Pos.mk 118 11 118 16)) (Expr.Constant (Const.int 0) 0 (Pos.mk 118 17 118 18)) (Pos.mk 118 11 118 19)) Operator.Mult (Expr.Subscript (Expr.Name (Str.ofString "point") (Pos.mk 118 22 118 27)) (Expr.Constant (Const.int 0) 0 (Pos.mk 118 28 118 29)) (Pos.mk 118 22 118 30)) (Pos.mk 118 11 118 30)) Operator.Sub (Expr.BinOp (Expr.BinOp (Expr.Name (Str.ofString "number") (Pos.mk 118 33 118 39)) Operator.Mult (Expr.Subscript (Expr.Name (Str.ofString "point") (Pos.mk 118 42 118 47)) (Expr.Constant (Const.int 1) 0 (Pos.mk 118 48 118 49)) (Pos.mk 118 42 118 50)) (Pos.mk 118 33 118 50)) Operator.Mult (Expr.Subscript (Expr.Name (Str.ofString "point") (Pos.mk 118 53 118 58)) (Expr.Constant (Const.int 1) 0 (Pos.mk 118 59 118 60)) (Pos.mk 118 53 118 61)) (Pos.mk 118 33 118 61)) (Pos.mk 118 11 118 61))) (Pos.mk 118 4 118 61)]) (Scope.mk ScopeKind.function [(Str.ofString "number", NameKind.local), (Str.ofString "point", NameKind.local)] Bool.false Bool.false []) 3 [] Value.none Value.none Value.none (Value.str (Str.ofString "formcycle.chains") 493) Option.none (Value.ref 333) Value.none 0)) #[]) ::
(nat_lit 335, Obj.mk (Value.type "tuple") Option.none (Data.seq #[]) #[]) ::
(nat_lit 337, Obj.mk (Value.type "tuple") Option.none (Data.seq #[Value.str (Str.ofString "number") 614, Value.str (Str.ofString "most") 615, Value.str (Str.ofString "pair") 616, Value.str (Str.ofString "often") 617]) #[]) ::
(nat_lit 338, Obj.mk (Value.type "tuple") Option.none (Data.seq #[]) #[]) ::
(nat_lit 340, Obj.mk (Value.type "code") Option.none (Data.fields #[Value.str (Str.ofString "nearest") 611, Value.str (Str.ofString "nearest") 612, Value.str (Str.ofString "/claim/cut.py") 613, Value.int 120 0, Value.int 2 0, Value.int 0 0, Value.int 0 0, Value.int 3 0, Value.ref 335, Value.bool Bool.true, Value.int 181 0, Value.ref 336, Value.none, Value.ref 337, Value.ref 338, Value.ref 339, Value.int 618 0, Value.int 120 0, Value.str (Str.ofString "/claim/cut.py") 619]) #[]) ::
(nat_lit 341, Obj.mk (Value.type "function") Option.none (Data.func (FuncData.mk (Str.ofString "nearest") (Str.ofString "nearest") (Arguments.mk [] [Arg.mk (Str.ofString "number") Option.none (Pos.mk 120 12 120 18), Arg.mk (Str.ofString "most") Option.none (Pos.mk 120 20 120 24)] Option.none [] [] Option.none []) (FuncBody.stmts [Stmt.Assign [Expr.Name (Str.ofString "pair") (Pos.mk 121 4 121 8)] (Expr.Call (Expr.Name (Str.ofString "last_pair_within") (Pos.mk 121 11 121 27)) [Expr.Call (Expr.Name (Str.ofString "chain") (Pos.mk 121 28 121 33)) [Expr.Name (Str.ofString "number") (Pos.mk 121 34 121 40)] [] (Pos.mk 121 28 121 41), Expr.Name (Str.ofString "most") (Pos.mk 121 43 121 47)] [] (Pos.mk 121 11 121 48)) (Pos.mk 121 4 121 48), Stmt.Assign [Expr.Name (Str.ofString "often") (Pos.mk 122 4 122 9)] (Expr.BinOp (Expr.BinOp (Expr.Name (Str.ofString "most") (Pos.mk 122 13 122 17)) Operator.Sub (Expr.Subscript (Expr.Subscript (Expr.Name (Str.ofString "pair") (Pos.mk 122 20 122 24)) (Expr.Constant (Const.int 0) 0 (Pos.mk 122 25 122 26)) (Pos.mk 122 20 122 27)) (Expr.Constant (Const.int 1) 0 (Pos.mk 122 28 122 29)) (Pos.mk 122 20 122 30)) (Pos.mk 122 13 122 30)) Operator.FloorDiv (Expr.Subscript (Expr.Subscript (Expr.Name (Str.ofString "pair") (Pos.mk 122 35 122 39)) (Expr.Constant (Const.int 1) 0 (Pos.mk 122 40 122 41)) (Pos.mk 122 35 122 42)) (Expr.Constant (Const.int 1) 0 (Pos.mk 122 43 122 44)) (Pos.mk 122 35 122 45)) (Pos.mk 122 12 122 45)) (Pos.mk 122 4 122 45), Stmt.Return (Option.some (Expr.Call (Expr.Name (Str.ofString "nearer") (Pos.mk 123 11 123 17)) [Expr.Name (Str.ofString "number") (Pos.mk 123 18 123 24), Expr.Subscript (Expr.Name (Str.ofString "pair") (Pos.mk 123 26 123 30)) (Expr.Constant (Const.int 1) 0 (Pos.mk 123 31 123 32)) (Pos.mk 123 26 123 33), Expr.Subscript (Expr.Call (Expr.Name (Str.ofString "pair_behind") (Pos.mk 123 35 123 46)) [Expr.Name (Str.ofString "pair") (Pos.mk 123 47 123 51), Expr.Name (Str.ofString "often") (Pos.mk 123 53 123 58)] [] (Pos.mk 123 35 123 59)) (Expr.Constant (Const.int 1) 0 (Pos.mk 123 60 123 61)) (Pos.mk 123 35 123 62)] [] (Pos.mk 123 11 123 63))) (Pos.mk 123 4 123 63)]) (Scope.mk ScopeKind.function [(Str.ofString "number", NameKind.local), (Str.ofString "most", NameKind.local), (Str.ofString "pair", NameKind.local), (Str.ofString "often", NameKind.local), (Str.ofString "last_pair_within", NameKind.globalImplicit), (Str.ofString "chain", NameKind.globalImplicit), (Str.ofString "nearer", NameKind.globalImplicit), (Str.ofString "pair_behind", NameKind.globalImplicit)] Bool.false Bool.false []) 3 [] Value.none Value.none Value.none (Value.str (Str.ofString "formcycle.near") 609) Option.none (Value.ref 340) Value.none 0)) #[]) ::
(nat_lit 342, Obj.mk (Value.type "tuple") Option.none (Data.seq #[]) #[]) ::
(nat_lit 344, Obj.mk (Value.type "tuple") Option.none (Data.seq #[Value.str (Str.ofString "rows") 624, Value.str (Str.ofString "most") 625, Value.str (Str.ofString "pair") 626, Value.str (Str.ofString "place") 627, Value.str (Str.ofString "further") 628]) #[]) ::
(nat_lit 345, Obj.mk (Value.type "tuple") Option.none (Data.seq #[]) #[]) ::
(nat_lit 347, Obj.mk (Value.type "code") Option.none (Data.fields #[Value.str (Str.ofString "last_pair_within") 621, Value.str (Str.ofString "last_pair_within") 622, Value.str (Str.ofString "/claim/cut.py") 623, Value.int 124 0, Value.int 2 0, Value.int 0 0, Value.int 0 0, Value.int 3 0, Value.ref 342, Value.bool Bool.true, Value.int 181 0, Value.ref 343, Value.none, Value.ref 344, Value.ref 345, Value.ref 346, Value.int 629 0, Value.int 124 0, Value.str (Str.ofString "/claim/cut.py") 630]) #[]) ::
(nat_lit 348, Obj.mk (Value.type "function") Option.none (Data.func (FuncData.mk (Str.ofString "last_pair_within") (Str.ofString "last_pair_within") (Arguments.mk [] [Arg.mk (Str.ofString "rows") Option.none (Pos.mk 124 21 124 25), Arg.mk (Str.ofString "most") Option.none (Pos.mk 124 27 124 31)] Option.none [] [] Option.none []) (FuncBody.stmts [Stmt.Assign [Expr.Name (Str.ofString "pair") (Pos.mk 125 4 125 8)] (Expr.Call (Expr.Name (Str.ofString "first_pair") (Pos.mk 125 11 125 21)) [Expr.Name (Str.ofString "rows") (Pos.mk 125 22 125 26)] [] (Pos.mk 125 11 125 27)) (Pos.mk 125 4 125 27), Stmt.Assign [Expr.Name (Str.ofString "place") (Pos.mk 126 4 126 9)] (Expr.Constant (Const.int 1) 0 (Pos.mk 126 12 126 13)) (Pos.mk 126 4 126 13), Stmt.Assign [Expr.Name (Str.ofString "further") (Pos.mk 127 4 127 11)] (Expr.Call (Expr.Name (Str.ofString "pair_behind") (Pos.mk 127 14 127 25)) [Expr.Name (Str.ofString "pair") (Pos.mk 127 26 127 30), Expr.Call (Expr.Name (Str.ofString "part_of") (Pos.mk 127 32 127 39)) [Expr.Name (Str.ofString "rows") (Pos.mk 127 40 127 44), Expr.Name (Str.ofString "place") (Pos.mk 127 46 127 51)] [] (Pos.mk 127 32 127 52)] [] (Pos.mk 127 14 127 53)) (Pos.mk 127 4 127 53), Stmt.While (Expr.Compare (Expr.Subscript (Expr.Subscript (Expr.Name (Str.ofString "further") (Pos.mk 128 10 128 17)) (Expr.Constant (Const.int 1) 0 (Pos.mk 128 18 128 19)) (Pos.mk 128 10 128 20)) (Expr.Constant (Const.int 1) 0 (Pos.mk 128 21 128 22)) (Pos.mk 128 10 128 23)) [CmpOp.LtE] [Expr.Name (Str.ofString "most") (Pos.mk 128 27 128 31)] (Pos.mk 128 10 128 31)) [Stmt.Assign [Expr.Name (Str.ofString "pair") (Pos.mk 129 8 129 12)] (Expr.Name (Str.ofString "further") (Pos.mk 129 15 129 22)) (Pos.mk 129 8 129 22), Stmt.AugAssign (Expr.Name (Str.ofString "place") (Pos.mk 130 8 130 13)) Operator.Add (Expr.Constant (Const.int 1) 0 (Pos.mk 130 17 130 18)) (Pos.mk 130 8 130 18), Stmt.Assign [Expr.Name (Str.ofString "further") (Pos.mk 131 8 131 15)] (Expr.Call (Expr.Name (Str.ofString "pair_behind") (Pos.mk 131 18 131 29)) [Expr.Name (Str.ofString "pair") (Pos.mk 131 30 131 34), Expr.Call (Expr.Name (Str.ofString "part_of") (Pos.mk 131 36 131 43)) [Expr.Name (Str.ofString "rows") (Pos.mk 131 44 131 48), Expr.Name (Str.ofString "place") (Pos.mk 131 50 131 55)] [] (Pos.mk 131 36 131 56)] [] (Pos.mk 131 18 131 57)) (Pos.mk 131 8 131 57)] [] (Pos.mk 128 4 131 57), Stmt.Return (Option.some (Expr.Name (Str.ofString "pair") (Pos.mk 132 11 132 15))) (Pos.mk 132 4 132 15)]) (Scope.mk ScopeKind.function [(Str.ofString "rows", NameKind.local), (Str.ofString "most", NameKind.local), (Str.ofString "pair", NameKind.local), (Str.ofString "place", NameKind.local), (Str.ofString "further", NameKind.local), (Str.ofString "first_pair", NameKind.globalImplicit), (Str.ofString "pair_behind", NameKind.globalImplicit), (Str.ofString "part_of", NameKind.globalImplicit)] Bool.false Bool.false []) 3 [] Value.none Value.none Value.none (Value.str (Str.ofString "formcycle.near") 609) Option.none (Value.ref 347) Value.none 0)) #[]) ::
(nat_lit 349, Obj.mk (Value.type "tuple") Option.none (Data.seq #[]) #[]) ::
(nat_lit 351, Obj.mk (Value.type "tuple") Option.none (Data.seq #[Value.str (Str.ofString "number") 635, Value.str (Str.ofString "one") 636, Value.str (Str.ofString "other") 637, Value.str (Str.ofString "left") 638, Value.str (Str.ofString "right") 639, Value.str (Str.ofString "whole") 640, Value.str (Str.ofString "is_above_middle") 641]) #[]) ::
(nat_lit 352, Obj.mk (Value.type "tuple") Option.none (Data.seq #[]) #[]) ::
(nat_lit 354, Obj.mk (Value.type "code") Option.none (Data.fields #[Value.str (Str.ofString "nearer") 632, Value.str (Str.ofString "nearer") 633, Value.str (Str.ofString "/claim/cut.py") 634, Value.int 133 0, Value.int 3 0, Value.int 0 0, Value.int 0 0, Value.int 3 0, Value.ref 349, Value.bool Bool.true, Value.int 181 0, Value.ref 350, Value.none, Value.ref 351, Value.ref 352, Value.ref 353, Value.int 642 0, Value.int 133 0, Value.str (Str.ofString "/claim/cut.py") 643]) #[]) ::
(nat_lit 355, Obj.mk (Value.type "function") Option.none (Data.func (FuncData.mk (Str.ofString "nearer") (Str.ofString "nearer") (Arguments.mk [] [Arg.mk (Str.ofString "number") Option.none (Pos.mk 133 11 133 17), Arg.mk (Str.ofString "one") Option.none (Pos.mk 133 19 133 22), Arg.mk (Str.ofString "other") Option.none (Pos.mk 133 24 133 29)] Option.none [] [] Option.none []) (FuncBody.stmts [Stmt.Assign [Expr.Name (Str.ofString "left") (Pos.mk 134 4 134 8)] (Expr.BinOp (Expr.Subscript (Expr.Name (Str.ofString "one") (Pos.mk 134 11 134 14)) (Expr.Constant (Const.int 0) 0 (Pos.mk 134 15 134 16)) (Pos.mk 134 11 134 17)) Operator.Mult (Expr.Subscript (Expr.Name (Str.ofString "other") (Pos.mk 134 20 134 25)) (Expr.Constant (Const.int 1) 0 (Pos.mk 134 26 134 27)) (Pos.mk 134 20 134 28)) (Pos.mk 134 11 134 28)) (Pos.mk 134 4 134 28), Stmt.Assign [Expr.Name (Str.ofString "right") (Pos.mk 135 4 135 9)] (Expr.BinOp (Expr.Subscript (Expr.Name (Str.ofString "other") (Pos.mk 135 12 135 17)) (Expr.Constant (Const.int 0) 0 (Pos.mk 135 18 135 19)) (Pos.mk 135 12 135 20)) Operator.Mult (Expr.Subscript (Expr.Name (Str.ofString "one") (Pos.mk 135 23 135 26)) (Expr.Constant (Const.int 1) 0 (Pos.mk 135 27 135 28)) (Pos.mk 135 23 135 29)) (Pos.mk 135 12 135 29)) (Pos.mk 135 4 135 29), Stmt.Assign [Expr.Name (Str.ofString "whole") (Pos.mk 136 4 136 9)] (Expr.BinOp (Expr.BinOp (Expr.Constant (Const.int 2) 0 (Pos.mk 136 12 136 13)) Operator.Mult (Expr.Subscript (Expr.Name (Str.ofString "one") (Pos.mk 136 16 136 19)) (Expr.Constant (Const.int 1) 0 (Pos.mk 136 20 136 21)) (Pos.mk 136 16 136 22)) (Pos.mk 136 12 136 22)) Operator.Mult (Expr.Subscript (Expr.Name (Str.ofString "other") (Pos.mk 136 25 136 30)) (Expr.Constant (Const.int 1) 0 (Pos.mk 136 31 136 32)) (Pos.mk 136 25 136 33)) (Pos.mk 136 12 136 33)) (Pos.mk 136 4 136 33), Stmt.Assign [Expr.Name (Str.ofString "is_above_middle") (Pos.mk 137 4 137 19)] (Expr.Compare (Expr.BinOp (Expr.BinOp (Expr.Name (Str.ofString "number") (Pos.mk 137 22 137 28)) Operator.Mult (Expr.Name (Str.ofString "whole") (Pos.mk 137 31 137 36)) (Pos.mk 137 22 137 36)) Operator.Mult (Expr.Name (Str.ofString "whole") (Pos.mk 137 39 137 44)) (Pos.mk 137 22 137 44)) [CmpOp.Gt] [Expr.BinOp (Expr.BinOp (Expr.Name (Str.ofString "left") (Pos.mk 137 48 137 52)) Operator.Add (Expr.Name (Str.ofString "right") (Pos.mk 137 55 137 60)) (Pos.mk 137 48 137 60)) Operator.Mult (Expr.BinOp (Expr.Name (Str.ofString "left") (Pos.mk 137 65 137 69)) Operator.Add (Expr.Name (Str.ofString "right") (Pos.mk 137 72 137 77)) (Pos.mk 137 65 137 77)) (Pos.mk 137 47 137 78)] (Pos.mk 137 22 137 78)) (Pos.mk 137 4 137 78), Stmt.If (Expr.Compare (Expr.Name (Str.ofString "is_above_middle") (Pos.mk 138 7 138 22)) [CmpOp.Eq] [Expr.Compare (Expr.Name (Str.ofString "left") (Pos.mk 138 27 138 31)) [CmpOp.Gt] [Expr.Name (Str.ofString "right") (Pos.mk 138 34 138 39)] (Pos.mk 138 27 138 39)] (Pos.mk 138 7 138 40)) [Stmt.Return (Option.some (Expr.Name (Str.ofString "one") (Pos.mk 139 15 139 18))) (Pos.mk 139 8 139 18)] [] (Pos.mk 138 4 139 18), Stmt.Return (Option.some (Expr.Name (Str.ofString "other") (Pos.mk 140 11 140 16))) (Pos.mk 140 4 140 16)]) (Scope.mk ScopeKind.function [(Str.ofString "number", NameKind.local), (Str.ofString "one", NameKind.local), (Str.ofString "other", NameKind.local), (Str.ofString "left", NameKind.local), (Str.ofString "right", NameKind.local), (Str.ofString "whole", NameKind.local), (Str.ofString "is_above_middle", NameKind.local)] Bool.false Bool.false []) 3 [] Value.none Value.none Value.none (Value.str (Str.ofString "formcycle.near") 609) Option.none (Value.ref 354) Value.none 0)) #[]) ::
(nat_lit 356, Obj.mk (Value.type "tuple") Option.none (Data.seq #[]) #[]) ::
(nat_lit 359, Obj.mk (Value.type "code") Option.none (Data.fields #[Value.str (Str.ofString "_law_wholes") 647, Value.str (Str.ofString "_law_wholes") 648, Value.str (Str.ofString "/claim/cut.py") 649, Value.int 142 0, Value.int 2 0, Value.int 0 0, Value.int 0 0, Value.int 3 0, Value.ref 356, Value.bool Bool.true, Value.int 181 0, Value.ref 357, Value.none, Value.none, Value.none, Value.ref 358, Value.int 650 0, Value.int 142 0, Value.str (Str.ofString "/claim/cut.py") 651]) #[]) ::
(nat_lit 360, Obj.mk (Value.type "function") Option.none (Data.func (FuncData.mk (Str.ofString "_law_wholes") (Str.ofString "_law_wholes") (Arguments.mk [] [Arg.mk (Str.ofString "_law_found") Option.none (Pos.mk 142 16 142 26), Arg.mk (Str.ofString "_law_many") Option.none (Pos.mk 142 28 142 37)] Option.none [] [] Option.none []) (FuncBody.stmts [Stmt.If (Expr.BoolOp BoolOp.Or [Expr.UnaryOp UnaryOp.Not (Expr.Call (Expr.Name (Str.ofString "isinstance") (Pos.mk 143 11 143 21)) [Expr.Name (Str.ofString "_law_found") (Pos.mk 143 22 143 32), Expr.Name (Str.ofString "tuple") (Pos.mk 143 34 143 39)] [] (Pos.mk 143 11 143 40)) (Pos.mk 143 7 143 40), Expr.Compare (Expr.Call (Expr.Name (Str.ofString "len") (Pos.mk 143 44 143 47)) [Expr.Name (Str.ofString "_law_found") (Pos.mk 143 48 143 58)] [] (Pos.mk 143 44 143 59)) [CmpOp.NotEq] [Expr.Name (Str.ofString "_law_many") (Pos.mk 143 63 143 72)] (Pos.mk 143 44 143 72)] (Pos.mk 143 7 143 72)) [Stmt.Return (Option.some (Expr.Constant (Const.bool Bool.false) 0 (Pos.mk 144 15 144 20))) (Pos.mk 144 8 144 20)] [] (Pos.mk 143 4 144 20), Stmt.Return (Option.some (Expr.Compare (Expr.Call (Expr.Name (Str.ofString "len") (Pos.mk 145 11 145 14)) [Expr.ListComp (Expr.Name (Str.ofString "_law_one") (Pos.mk 145 16 145 24)) [Comprehension.mk (Expr.Name (Str.ofString "_law_one") (Pos.mk 145 29 145 37)) (Expr.Name (Str.ofString "_law_found") (Pos.mk 145 41 145 51)) [Expr.BoolOp BoolOp.And [Expr.Call (Expr.Name (Str.ofString "isinstance") (Pos.mk 145 55 145 65)) [Expr.Name (Str.ofString "_law_one") (Pos.mk 145 66 145 74), Expr.Name (Str.ofString "int") (Pos.mk 145 76 145 79)] [] (Pos.mk 145 55 145 80), Expr.UnaryOp UnaryOp.Not (Expr.Call (Expr.Name (Str.ofString "isinstance") (Pos.mk 145 90 145 100)) [Expr.Name (Str.ofString "_law_one") (Pos.mk 145 101 145 109), Expr.Name (Str.ofString "bool") (Pos.mk 145 111 145 115)] [] (Pos.mk 145 90 145 116)) (Pos.mk 145 86 145 116)] (Pos.mk 145 55 145 117)] 0] (Scope.mk ScopeKind.function [(Str.ofString ".0", NameKind.local), (Str.ofString "_law_one", NameKind.local), (Str.ofString "isinstance", NameKind.globalImplicit), (Str.ofString "int", NameKind.globalImplicit), (Str.ofString "bool", NameKind.globalImplicit)] Bool.false Bool.false []) (Pos.mk 145 15 145 118)] [] (Pos.mk 145 11 145 119)) [CmpOp.Eq] [Expr.Name (Str.ofString "_law_many") (Pos.mk 145 123 145 132)] (Pos.mk 145 11 145 132))) (Pos.mk 145 4 145 132)]) (Scope.mk ScopeKind.function [(Str.ofString "_law_found", NameKind.local), (Str.ofString "_law_many", NameKind.local), (Str.ofString "isinstance", NameKind.globalImplicit), (Str.ofString "tuple", NameKind.globalImplicit), (Str.ofString "len", NameKind.globalImplicit)] Bool.false Bool.false [(Str.ofString "fast", Const.str (Str.ofString "_law_found")), (Str.ofString "fast", Const.str (Str.ofString "_law_many")), (Str.ofString "fast", Const.str (Str.ofString "_law_one"))]) 3 [] Value.none Value.none Value.none (Value.str (Str.ofString "law_formcycle_k69_no_chain") 645) Option.none (Value.ref 359) Value.none 0)) #[]) ::
(nat_lit 361, Obj.mk (Value.type "tuple") Option.none (Data.seq #[]) #[]) ::
(nat_lit 363, Obj.mk (Value.type "tuple") Option.none (Data.seq #[Value.str (Str.ofString "_law_cell") 656]) #[]) ::
(nat_lit 364, Obj.mk (Value.type "tuple") Option.none (Data.seq #[]) #[]) ::
(nat_lit 366, Obj.mk (Value.type "code") Option.none (Data.fields #[Value.str (Str.ofString "_law_number") 653, Value.str (Str.ofString "_law_number") 654, Value.str (Str.ofString "/claim/cut.py") 655, Value.int 146 0, Value.int 1 0, Value.int 0 0, Value.int 0 0, Value.int 3 0, Value.ref 361, Value.bool Bool.true, Value.int 181 0, Value.ref 362, Value.none, Value.ref 363, Value.ref 364, Value.ref 365, Value.int 657 0, Value.int 146 0, Value.str (Str.ofString "/claim/cut.py") 658]) #[]) ::
(nat_lit 367, Obj.mk (Value.type "function") Option.none (Data.func (FuncData.mk (Str.ofString "_law_number") (Str.ofString "_law_number") (Arguments.mk [] [Arg.mk (Str.ofString "_law_cell") Option.none (Pos.mk 146 16 146 25)] Option.none [] [] Option.none []) (FuncBody.stmts [Stmt.If (Expr.Compare (Expr.BinOp (Expr.Name (Str.ofString "_law_cell") (Pos.mk 147 7 147 16)) Operator.Mod (Expr.Constant (Const.int 4) 0 (Pos.mk 147 19 147 20)) (Pos.mk 147 7 147 20)) [CmpOp.Eq] [Expr.Constant (Const.int 0) 0 (Pos.mk 147 24 147 25)] (Pos.mk 147 7 147 25)) [Stmt.Return (Option.some (Expr.BinOp (Expr.BinOp (Expr.BinOp (Expr.Name (Str.ofString "_law_cell") (Pos.mk 148 15 148 24)) Operator.FloorDiv (Expr.Constant (Const.int 4) 0 (Pos.mk 148 28 148 29)) (Pos.mk 148 15 148 29)) Operator.Mod (Expr.Constant (Const.int 41) 0 (Pos.mk 148 32 148 34)) (Pos.mk 148 15 148 34)) Operator.Mult (Expr.BinOp (Expr.BinOp (Expr.Name (Str.ofString "_law_cell") (Pos.mk 148 38 148 47)) Operator.FloorDiv (Expr.Constant (Const.int 4) 0 (Pos.mk 148 51 148 52)) (Pos.mk 148 38 148 52)) Operator.Mod (Expr.Constant (Const.int 41) 0 (Pos.mk 148 55 148 57)) (Pos.mk 148 38 148 57)) (Pos.mk 148 15 148 58))) (Pos.mk 148 8 148 58)] [] (Pos.mk 147 4 148 58), Stmt.If (Expr.Compare (Expr.BinOp (Expr.Name (Str.ofString "_law_cell") (Pos.mk 149 7 149 16)) Operator.Mod (Expr.Constant (Const.int 4) 0 (Pos.mk 149 19 149 20)) (Pos.mk 149 7 149 20)) [CmpOp.Eq] [Expr.Constant (Const.int 1) 0 (Pos.mk 149 24 149 25)] (Pos.mk 149 7 149 25)) [Stmt.Return (Option.some (Expr.BinOp (Expr.Constant (Const.int 1) 0 (Pos.mk 150 15 150 16)) Operator.Sub (Expr.BinOp (Expr.BinOp (Expr.BinOp (Expr.Name (Str.ofString "_law_cell") (Pos.mk 150 19 150 28)) Operator.FloorDiv (Expr.Constant (Const.int 4) 0 (Pos.mk 150 32 150 33)) (Pos.mk 150 19 150 33)) Operator.Mult (Expr.Constant (Const.int 27182818284590452353602874713526624977572470936999595749669) 0 (Pos.mk 150 36 150 95)) (Pos.mk 150 19 150 95)) Operator.Mod (Expr.BinOp (Expr.BinOp (Expr.Constant (Const.int 10) 0 (Pos.mk 150 99 150 101)) Operator.Pow (Expr.Constant (Const.int 60) 0 (Pos.mk 150 105 150 107)) (Pos.mk 150 99 150 107)) Operator.Add (Expr.Constant (Const.int 2) 0 (Pos.mk 150 110 150 111)) (Pos.mk 150 99 150 111)) (Pos.mk 150 19 150 112)) (Pos.mk 150 15 150 112))) (Pos.mk 150 8 150 112)] [] (Pos.mk 149 4 150 112), Stmt.If (Expr.Compare (Expr.BinOp (Expr.Name (Str.ofString "_law_cell") (Pos.mk 151 7 151 16)) Operator.Mod (Expr.Constant (Const.int 4) 0 (Pos.mk 151 19 151 20)) (Pos.mk 151 7 151 20)) [CmpOp.Eq] [Expr.Constant (Const.int 2) 0 (Pos.mk 151 24 151 25)] (Pos.mk 151 7 151 25)) [Stmt.Return (Option.some (Expr.BinOp (Expr.Constant (Const.int 990) 0 (Pos.mk 152 15 152 18)) Operator.Add (Expr.BinOp (Expr.BinOp (Expr.Name (Str.ofString "_law_cell") (Pos.mk 152 21 152 30)) Operator.FloorDiv (Expr.Constant (Const.int 4) 0 (Pos.mk 152 34 152 35)) (Pos.mk 152 21 152 35)) Operator.Mod (Expr.Constant (Const.int 50) 0 (Pos.mk 152 38 152 40)) (Pos.mk 152 21 152 40)) (Pos.mk 152 15 152 40))) (Pos.mk 152 8 152 40)] [] (Pos.mk 151 4 152 40), Stmt.Return (Option.some (Expr.BinOp (Expr.Constant (Const.int 1001) 0 (Pos.mk 153 11 153 15)) Operator.Add (Expr.BinOp (Expr.BinOp (Expr.BinOp (Expr.Name (Str.ofString "_law_cell") (Pos.mk 153 18 153 27)) Operator.FloorDiv (Expr.Constant (Const.int 4) 0 (Pos.mk 153 31 153 32)) (Pos.mk 153 18 153 32)) Operator.Mult (Expr.Constant (Const.int 27182818284590452353602874713526624977572470936999595749669) 0 (Pos.mk 153 35 153 94)) (Pos.mk 153 18 153 94)) Operator.Mod (Expr.BinOp (Expr.BinOp (Expr.Constant (Const.int 10) 0 (Pos.mk 153 98 153 100)) Operator.Pow (Expr.Constant (Const.int 60) 0 (Pos.mk 153 104 153 106)) (Pos.mk 153 98 153 106)) Operator.Sub (Expr.Constant (Const.int 1000) 0 (Pos.mk 153 109 153 113)) (Pos.mk 153 98 153 113)) (Pos.mk 153 18 153 114)) (Pos.mk 153 11 153 114))) (Pos.mk 153 4 153 114)]) (Scope.mk ScopeKind.function [(Str.ofString "_law_cell", NameKind.local)] Bool.false Bool.false []) 3 [] Value.none Value.none Value.none (Value.str (Str.ofString "law_formcycle_k69_no_chain") 645) Option.none (Value.ref 366) Value.none 0)) #[]) ::
(nat_lit 368, Obj.mk (Value.type "tuple") Option.none (Data.seq #[]) #[]) ::
(nat_lit 370, Obj.mk (Value.type "tuple") Option.none (Data.seq #[Value.str (Str.ofString "_law_number_here") 663, Value.str (Str.ofString "_law_near") 664]) #[]) ::
(nat_lit 371, Obj.mk (Value.type "tuple") Option.none (Data.seq #[]) #[]) ::
(nat_lit 373, Obj.mk (Value.type "code") Option.none (Data.fields #[Value.str (Str.ofString "_law_due") 660, Value.str (Str.ofString "_law_due") 661, Value.str (Str.ofString "/claim/cut.py") 662, Value.int 154 0, Value.int 1 0, Value.int 0 0, Value.int 0 0, Value.int 3 0, Value.ref 368, Value.bool Bool.true, Value.int 181 0, Value.ref 369, Value.none, Value.ref 370, Value.ref 371, Value.ref 372, Value.int 665 0, Value.int 154 0, Value.str (Str.ofString "/claim/cut.py") 666]) #[]) ::
(nat_lit 374, Obj.mk (Value.type "function") Option.none (Data.func (FuncData.mk (Str.ofString "_law_due") (Str.ofString "_law_due") (Arguments.mk [] [Arg.mk (Str.ofString "_law_number_here") Option.none (Pos.mk 154 13 154 29)] Option.none [] [] Option.none []) (FuncBody.stmts [Stmt.If (Expr.Compare (Expr.Name (Str.ofString "_law_number_here") (Pos.mk 155 7 155 23)) [CmpOp.Lt] [Expr.Constant (Const.int 2) 0 (Pos.mk 155 26 155 27)] (Pos.mk 155 7 155 27)) [Stmt.Return (Option.some (Expr.List [Expr.Constant (Const.str (Str.ofString "root")) 0 (Pos.mk 156 16 156 22), Expr.Name (Str.ofString "_law_number_here") (Pos.mk 156 24 156 40)] (Pos.mk 156 15 156 41))) (Pos.mk 156 8 156 41)] [] (Pos.mk 155 4 156 41), Stmt.Assign [Expr.Name (Str.ofString "_law_near") (Pos.mk 157 4 157 13)] (Expr.BinOp (Expr.Constant (Const.int 1) 0 (Pos.mk 157 16 157 17)) Operator.LShift (Expr.BinOp (Expr.BinOp (Expr.Call (Expr.Attribute (Expr.Name (Str.ofString "_law_number_here") (Pos.mk 157 22 157 38)) (Str.ofString "bit_length") (Pos.mk 157 22 157 49)) [] [] (Pos.mk 157 22 157 51)) Operator.Add (Expr.Constant (Const.int 1) 0 (Pos.mk 157 54 157 55)) (Pos.mk 157 22 157 55)) Operator.FloorDiv (Expr.Constant (Const.int 2) 0 (Pos.mk 157 60 157 61)) (Pos.mk 157 21 157 61)) (Pos.mk 157 16 157 61)) (Pos.mk 157 4 157 61), Stmt.While (Expr.Compare (Expr.BinOp (Expr.Name (Str.ofString "_law_near") (Pos.mk 158 10 158 19)) Operator.Mult (Expr.Name (Str.ofString "_law_near") (Pos.mk 158 22 158 31)) (Pos.mk 158 10 158 31)) [CmpOp.Gt] [Expr.Name (Str.ofString "_law_number_here") (Pos.mk 158 34 158 50)] (Pos.mk 158 10 158 50)) [Stmt.Assign [Expr.Name (Str.ofString "_law_near") (Pos.mk 159 8 159 17)] (Expr.BinOp (Expr.BinOp (Expr.Name (Str.ofString "_law_near") (Pos.mk 159 21 159 30)) Operator.Add (Expr.BinOp (Expr.Name (Str.ofString "_law_number_here") (Pos.mk 159 33 159 49)) Operator.FloorDiv (Expr.Name (Str.ofString "_law_near") (Pos.mk 159 53 159 62)) (Pos.mk 159 33 159 62)) (Pos.mk 159 21 159 62)) Operator.FloorDiv (Expr.Constant (Const.int 2) 0 (Pos.mk 159 67 159 68)) (Pos.mk 159 20 159 68)) (Pos.mk 159 8 159 68)] [] (Pos.mk 158 4 159 68), Stmt.If (Expr.Compare (Expr.BinOp (Expr.Name (Str.ofString "_law_near") (Pos.mk 160 7 160 16)) Operator.Mult (Expr.Name (Str.ofString "_law_near") (Pos.mk 160 19 160 28)) (Pos.mk 160 7 160 28)) [CmpOp.Eq] [Expr.Name (Str.ofString "_law_number_here") (Pos.mk 160 32 160 48)] (Pos.mk 160 7 160 48)) [Stmt.Return (Option.some (Expr.List [Expr.Constant (Const.str (Str.ofString "root")) 0 (Pos.mk 161 16 161 22), Expr.Name (Str.ofString "_law_number_here") (Pos.mk 161 24 161 40)] (Pos.mk 161 15 161 41))) (Pos.mk 161 8 161 41)] [] (Pos.mk 160 4 161 41), Stmt.If (Expr.Compare (Expr.Name (Str.ofString "_law_number_here") (Pos.mk 162 7 162 23)) [CmpOp.Gt] [Expr.Constant (Const.int 1000) 0 (Pos.mk 162 26 162 30)] (Pos.mk 162 7 162 30)) [Stmt.Return (Option.some (Expr.List [Expr.Constant (Const.str (Str.ofString "great")) 0 (Pos.mk 163 16 163 23), Expr.Name (Str.ofString "_law_number_here") (Pos.mk 163 25 163 41), Expr.Constant (Const.int 1000) 0 (Pos.mk 163 43 163 47)] (Pos.mk 163 15 163 48))) (Pos.mk 163 8 163 48)] [] (Pos.mk 162 4 163 48), Stmt.Return (Option.some (Expr.List [] (Pos.mk 164 11 164 13))) (Pos.mk 164 4 164 13)]) (Scope.mk ScopeKind.function [(Str.ofString "_law_number_here", NameKind.local), (Str.ofString "_law_near", NameKind.local)] Bool.false Bool.false []) 3 [] Value.none Value.none Value.none (Value.str (Str.ofString "law_formcycle_k69_no_chain") 645) Option.none (Value.ref 373) Value.none 0)) #[]) ::
(nat_lit 375, Obj.mk (Value.type "tuple") Option.none (Data.seq #[]) #[]) ::
(nat_lit 377, Obj.mk (Value.type "tuple") Option.none (Data.seq #[Value.str (Str.ofString "_law_way") 671, Value.str (Str.ofString "_law_number_here") 672, Value.str (Str.ofString "_law_k") 673, Value.str (Str.ofString "_law_caught_here") 674, Value.str (Str.ofString "_law_e") 675]) #[]) ::
(nat_lit 378, Obj.mk (Value.type "tuple") Option.none (Data.seq #[]) #[]) ::
(nat_lit 380, Obj.mk (Value.type "code") Option.none (Data.fields #[Value.str (Str.ofString "_law_caught") 668, Value.str (Str.ofString "_law_caught") 669, Value.str (Str.ofString "/claim/cut.py") 670, Value.int 165 0, Value.int 3 0, Value.int 0 0, Value.int 0 0, Value.int 3 0, Value.ref 375, Value.bool Bool.true, Value.int 181 0, Value.ref 376, Value.none, Value.ref 377, Value.ref 378, Value.ref 379, Value.int 676 0, Value.int 165 0, Value.str (Str.ofString "/claim/cut.py") 677]) #[]) ::
(nat_lit 381, Obj.mk (Value.type "function") Option.none (Data.func (FuncData.mk (Str.ofString "_law_caught") (Str.ofString "_law_caught") (Arguments.mk [] [Arg.mk (Str.ofString "_law_way") Option.none (Pos.mk 165 16 165 24), Arg.mk (Str.ofString "_law_number_here") Option.none (Pos.mk 165 26 165 42), Arg.mk (Str.ofString "_law_k") Option.none (Pos.mk 165 44 165 50)] Option.none [] [] Option.none []) (FuncBody.stmts [Stmt.Assign [Expr.Name (Str.ofString "_law_caught_here") (Pos.mk 166 4 166 20)] (Expr.Constant Const.none 0 (Pos.mk 166 23 166 27)) (Pos.mk 166 4 166 27), Stmt.Try [Stmt.If (Expr.Compare (Expr.Name (Str.ofString "_law_way") (Pos.mk 168 11 168 19)) [CmpOp.Eq] [Expr.Constant (Const.int 0) 0 (Pos.mk 168 23 168 24)] (Pos.mk 168 11 168 24)) [Stmt.Expr (Expr.Call (Expr.Name (Str.ofString "chain") (Pos.mk 169 12 169 17)) [Expr.Name (Str.ofString "_law_number_here") (Pos.mk 169 18 169 34)] [] (Pos.mk 169 12 169 35)) (Pos.mk 169 12 169 35)] [] (Pos.mk 168 8 169 35), Stmt.If (Expr.Compare (Expr.Name (Str.ofString "_law_way") (Pos.mk 170 11 170 19)) [CmpOp.Eq] [Expr.Constant (Const.int 1) 0 (Pos.mk 170 23 170 24)] (Pos.mk 170 11 170 24)) [Stmt.Expr (Expr.Call (Expr.Name (Str.ofString "part") (Pos.mk 171 12 171 16)) [Expr.Name (Str.ofString "_law_number_here") (Pos.mk 171 17 171 33), Expr.Name (Str.ofString "_law_k") (Pos.mk 171 35 171 41)] [] (Pos.mk 171 12 171 42)) (Pos.mk 171 12 171 42)] [] (Pos.mk 170 8 171 42), Stmt.If (Expr.Compare (Expr.Name (Str.ofString "_law_way") (Pos.mk 172 11 172 19)) [CmpOp.Eq] [Expr.Constant (Const.int 2) 0 (Pos.mk 172 23 172 24)] (Pos.mk 172 11 172 24)) [Stmt.Expr (Expr.Call (Expr.Name (Str.ofString "fraction") (Pos.mk 173 12 173 20)) [Expr.Name (Str.ofString "_law_number_here") (Pos.mk 173 21 173 37), Expr.Name (Str.ofString "_law_k") (Pos.mk 173 39 173 45)] [] (Pos.mk 173 12 173 46)) (Pos.mk 173 12 173 46)] [] (Pos.mk 172 8 173 46), Stmt.If (Expr.Compare (Expr.Name (Str.ofString "_law_way") (Pos.mk 174 11 174 19)) [CmpOp.Eq] [Expr.Constant (Const.int 3) 0 (Pos.mk 174 23 174 24)] (Pos.mk 174 11 174 24)) [Stmt.Expr (Expr.Call (Expr.Name (Str.ofString "plus_one") (Pos.mk 175 12 175 20)) [Expr.Name (Str.ofString "_law_number_here") (Pos.mk 175 21 175 37)] [] (Pos.mk 175 12 175 38)) (Pos.mk 175 12 175 38)] [] (Pos.mk 174 8 175 38), Stmt.If (Expr.Compare (Expr.Name (Str.ofString "_law_way") (Pos.mk 176 11 176 19)) [CmpOp.Eq] [Expr.Constant (Const.int 4) 0 (Pos.mk 176 23 176 24)] (Pos.mk 176 11 176 24)) [Stmt.Expr (Expr.Call (Expr.Name (Str.ofString "minus_one") (Pos.mk 177 12 177 21)) [Expr.Name (Str.ofString "_law_number_here") (Pos.mk 177 22 177 38)] [] (Pos.mk 177 12 177 39)) (Pos.mk 177 12 177 39)] [] (Pos.mk 176 8 177 39), Stmt.If (Expr.Compare (Expr.Name (Str.ofString "_law_way") (Pos.mk 178 11 178 19)) [CmpOp.Eq] [Expr.Constant (Const.int 5) 0 (Pos.mk 178 23 178 24)] (Pos.mk 178 11 178 24)) [Stmt.Expr (Expr.Call (Expr.Name (Str.ofString "nearest") (Pos.mk 179 12 179 19)) [Expr.Name (Str.ofString "_law_number_here") (Pos.mk 179 20 179 36), Expr.Constant (Const.int 7) 0 (Pos.mk 179 38 179 39)] [] (Pos.mk 179 12 179 40)) (Pos.mk 179 12 179 40)] [] (Pos.mk 178 8 179 40)] [ExceptHandler.ExceptHandler (Option.some (Expr.Name (Str.ofString "FormError") (Pos.mk 180 11 180 20))) (Option.some (Str.ofString "_law_e")) [Stmt.Assign [Expr.Name (Str.ofString "_law_caught_here") (Pos.mk 181 8 181 24)] (Expr.Name (Str.ofString "_law_e") (Pos.mk 181 27 181 33)) (Pos.mk 181 8 181 33)] (Pos.mk 180 4 181 33)] [] [] (Pos.mk 167 4 181 33), Stmt.Return (Option.some (Expr.Name (Str.ofString "_law_caught_here") (Pos.mk 182 11 182 27))) (Pos.mk 182 4 182 27)]) (Scope.mk ScopeKind.function [(Str.ofString "_law_way", NameKind.local), (Str.ofString "_law_number_here", NameKind.local), (Str.ofString "_law_k", NameKind.local), (Str.ofString "_law_caught_here", NameKind.local), (Str.ofString "_law_e", NameKind.local), (Str.ofString "chain", NameKind.globalImplicit), (Str.ofString "part", NameKind.globalImplicit), (Str.ofString "fraction", NameKind.globalImplicit), (Str.ofString "plus_one", NameKind.globalImplicit), (Str.ofString "minus_one", NameKind.globalImplicit), (Str.ofString "nearest", NameKind.globalImplicit), (Str.ofString "FormError", NameKind.globalImplicit)] Bool.false Bool.false []) 3 [] Value.none Value.none Value.none (Value.str (Str.ofString "law_formcycle_k69_no_chain") 645) Option.none (Value.ref 380) Value.none 0)) #[]) ::
(nat_lit 382, Obj.mk (Value.type "tuple") Option.none (Data.seq #[]) #[]) ::
(nat_lit 384, Obj.mk (Value.type "tuple") Option.none (Data.seq #[Value.str (Str.ofString "_law_e") 682, Value.str (Str.ofString "_law_due_here") 683]) #[]) ::
(nat_lit 385, Obj.mk (Value.type "tuple") Option.none (Data.seq #[]) #[]) ::
(nat_lit 387, Obj.mk (Value.type "code") Option.none (Data.fields #[Value.str (Str.ofString "_law_refused") 679, Value.str (Str.ofString "_law_refused") 680, Value.str (Str.ofString "/claim/cut.py") 681, Value.int 183 0, Value.int 2 0, Value.int 0 0, Value.int 0 0, Value.int 3 0, Value.ref 382, Value.bool Bool.true, Value.int 181 0, Value.ref 383, Value.none, Value.ref 384, Value.ref 385, Value.ref 386, Value.int 684 0, Value.int 183 0, Value.str (Str.ofString "/claim/cut.py") 685]) #[]) ::
(nat_lit 388, Obj.mk (Value.type "function") Option.none (Data.func (FuncData.mk (Str.ofString "_law_refused") (Str.ofString "_law_refused") (Arguments.mk [] [Arg.mk (Str.ofString "_law_e") Option.none (Pos.mk 183 17 183 23), Arg.mk (Str.ofString "_law_due_here") Option.none (Pos.mk 183 25 183 38)] Option.none [] [] Option.none []) (FuncBody.stmts [Stmt.If (Expr.Call (Expr.Name (Str.ofString "isinstance") (Pos.mk 184 7 184 17)) [Expr.Name (Str.ofString "_law_e") (Pos.mk 184 18 184 24), Expr.Tuple [Expr.Name (Str.ofString "Apart") (Pos.mk 184 27 184 32), Expr.Name (Str.ofString "NoAnswer") (Pos.mk 184 34 184 42), Expr.Name (Str.ofString "NoMeasure") (Pos.mk 184 44 184 53), Expr.Name (Str.ofString "NoShape") (Pos.mk 184 55 184 62), Expr.Name (Str.ofString "NoTurn") (Pos.mk 184 64 184 70), Expr.Name (Str.ofString "NotLevel") (Pos.mk 184 72 184 80), Expr.Name (Str.ofString "NotOwn") (Pos.mk 184 82 184 88), Expr.Name (Str.ofString "NotPlain") (Pos.mk 184 90 184 98), Expr.Name (Str.ofString "Nought") (Pos.mk 184 100 184 106)] 0 (Pos.mk 184 26 184 107)] [] (Pos.mk 184 7 184 108)) [Stmt.Return (Option.some (Expr.Constant (Const.bool Bool.false) 0 (Pos.mk 185 15 185 20))) (Pos.mk 185 8 185 20)] [] (Pos.mk 184 4 185 20), Stmt.If (Expr.BoolOp BoolOp.Or [Expr.UnaryOp UnaryOp.Not (Expr.Call (Expr.Name (Str.ofString "isinstance") (Pos.mk 186 11 186 21)) [Expr.Name (Str.ofString "_law_e") (Pos.mk 186 22 186 28), Expr.Name (Str.ofString "ValueError") (Pos.mk 186 30 186 40)] [] (Pos.mk 186 11 186 41)) (Pos.mk 186 7 186 41), Expr.Compare (Expr.Call (Expr.Name (Str.ofString "isinstance") (Pos.mk 186 45 186 55)) [Expr.Name (Str.ofString "_law_e") (Pos.mk 186 56 186 62), Expr.Name (Str.ofString "NoRoot") (Pos.mk 186 64 186 70)] [] (Pos.mk 186 45 186 71)) [CmpOp.Eq] [Expr.Call (Expr.Name (Str.ofString "isinstance") (Pos.mk 186 75 186 85)) [Expr.Name (Str.ofString "_law_e") (Pos.mk 186 86 186 92), Expr.Name (Str.ofString "TooGreat") (Pos.mk 186 94 186 102)] [] (Pos.mk 186 75 186 103)] (Pos.mk 186 45 186 103)] (Pos.mk 186 7 186 103)) [Stmt.Return (Option.some (Expr.Constant (Const.bool Bool.false) 0 (Pos.mk 187 15 187 20))) (Pos.mk 187 8 187 20)] [] (Pos.mk 186 4 187 20), Stmt.If (Expr.Call (Expr.Name (Str.ofString "isinstance") (Pos.mk 188 7 188 17)) [Expr.Name (Str.ofString "_law_e") (Pos.mk 188 18 188 24), Expr.Name (Str.ofString "NoRoot") (Pos.mk 188 26 188 32)] [] (Pos.mk 188 7 188 33)) [Stmt.Return (Option.some (Expr.Compare (Expr.Name (Str.ofString "_law_due_here") (Pos.mk 189 15 189 28)) [CmpOp.Eq] [Expr.List [Expr.Constant (Const.str (Str.ofString "root")) 0 (Pos.mk 189 33 189 39), Expr.Attribute (Expr.Name (Str.ofString "_law_e") (Pos.mk 189 41 189 47)) (Str.ofString "number") (Pos.mk 189 41 189 54)] (Pos.mk 189 32 189 55)] (Pos.mk 189 15 189 55))) (Pos.mk 189 8 189 55)] [] (Pos.mk 188 4 189 55), Stmt.Return (Option.some (Expr.Compare (Expr.Name (Str.ofString "_law_due_here") (Pos.mk 190 11 190 24)) [CmpOp.Eq] [Expr.List [Expr.Constant (Const.str (Str.ofString "great")) 0 (Pos.mk 190 29 190 36), Expr.Attribute (Expr.Name (Str.ofString "_law_e") (Pos.mk 190 38 190 44)) (Str.ofString "number") (Pos.mk 190 38 190 51), Expr.Attribute (Expr.Name (Str.ofString "_law_e") (Pos.mk 190 53 190 59)) (Str.ofString "most") (Pos.mk 190 53 190 64)] (Pos.mk 190 28 190 65)] (Pos.mk 190 11 190 65))) (Pos.mk 190 4 190 65)]) (Scope.mk ScopeKind.function [(Str.ofString "_law_e", NameKind.local), (Str.ofString "_law_due_here", NameKind.local), (Str.ofString "isinstance", NameKind.globalImplicit), (Str.ofString "Apart", NameKind.globalImplicit), (Str.ofString "NoAnswer", NameKind.globalImplicit), (Str.ofString "NoMeasure", NameKind.globalImplicit), (Str.ofString "NoShape", NameKind.globalImplicit), (Str.ofString "NoTurn", NameKind.globalImplicit), (Str.ofString "NotLevel", NameKind.globalImplicit), (Str.ofString "NotOwn", NameKind.globalImplicit), (Str.ofString "NotPlain", NameKind.globalImplicit), (Str.ofString "Nought", NameKind.globalImplicit), (Str.ofString "ValueError", NameKind.globalImplicit), (Str.ofString "NoRoot", NameKind.globalImplicit), (Str.ofString "TooGreat", NameKind.globalImplicit)] Bool.false Bool.false []) 3 [] Value.none Value.none Value.none (Value.str (Str.ofString "law_formcycle_k69_no_chain") 645) Option.none (Value.ref 387) Value.none 0)) #[]) ::
(nat_lit 389, Obj.mk (Value.type "tuple") Option.none (Data.seq #[]) #[]) ::
(nat_lit 391, Obj.mk (Value.type "tuple") Option.none (Data.seq #[Value.str (Str.ofString "_law_number_here") 690, Value.str (Str.ofString "_law_k") 691, Value.str (Str.ofString "_law_start") 692, Value.str (Str.ofString "_law_due_here") 693, Value.str (Str.ofString "_law_way") 694]) #[]) ::
(nat_lit 392, Obj.mk (Value.type "tuple") Option.none (Data.seq #[]) #[]) ::
(nat_lit 394, Obj.mk (Value.type "code") Option.none (Data.fields #[Value.str (Str.ofString "_law_good") 687, Value.str (Str.ofString "_law_good") 688, Value.str (Str.ofString "/claim/cut.py") 689, Value.int 191 0, Value.int 3 0, Value.int 0 0, Value.int 0 0, Value.int 3 0, Value.ref 389, Value.bool Bool.true, Value.int 181 0, Value.ref 390, Value.none, Value.ref 391, Value.ref 392, Value.ref 393, Value.int 695 0, Value.int 191 0, Value.str (Str.ofString "/claim/cut.py") 696]) #[]) ::
(nat_lit 395, Obj.mk (Value.type "function") Option.none (Data.func (FuncData.mk (Str.ofString "_law_good") (Str.ofString "_law_good") (Arguments.mk [] [Arg.mk (Str.ofString "_law_number_here") Option.none (Pos.mk 191 14 191 30), Arg.mk (Str.ofString "_law_k") Option.none (Pos.mk 191 32 191 38), Arg.mk (Str.ofString "_law_start") Option.none (Pos.mk 191 40 191 50)] Option.none [] [] Option.none []) (FuncBody.stmts [Stmt.Assign [Expr.Name (Str.ofString "_law_due_here") (Pos.mk 192 4 192 17)] (Expr.Call (Expr.Name (Str.ofString "_law_due") (Pos.mk 192 20 192 28)) [Expr.Name (Str.ofString "_law_number_here") (Pos.mk 192 29 192 45)] [] (Pos.mk 192 20 192 46)) (Pos.mk 192 4 192 46), Stmt.If (Expr.Compare (Expr.Name (Str.ofString "_law_due_here") (Pos.mk 193 7 193 20)) [CmpOp.Eq] [Expr.List [] (Pos.mk 193 24 193 26)] (Pos.mk 193 7 193 26)) [Stmt.If (Expr.BoolOp BoolOp.Or [Expr.Compare (Expr.Call (Expr.Name (Str.ofString "_law_caught") (Pos.mk 194 11 194 22)) [Expr.Constant (Const.int 2) 0 (Pos.mk 194 23 194 24), Expr.Name (Str.ofString "_law_number_here") (Pos.mk 194 26 194 42), Expr.Constant (Const.int 300) 0 (Pos.mk 194 44 194 47)] [] (Pos.mk 194 11 194 48)) [CmpOp.IsNot] [Expr.Constant Const.none 0 (Pos.mk 194 56 194 60)] (Pos.mk 194 11 194 60), Expr.UnaryOp UnaryOp.Not (Expr.Call (Expr.Name (Str.ofString "_law_refused") (Pos.mk 194 68 194 80)) [Expr.Call (Expr.Name (Str.ofString "_law_caught") (Pos.mk 194 81 194 92)) [Expr.Constant (Const.int 2) 0 (Pos.mk 194 93 194 94), Expr.Name (Str.ofString "_law_number_here") (Pos.mk 194 96 194 112), Expr.Name (Str.ofString "_law_k") (Pos.mk 194 114 194 120)] [] (Pos.mk 194 81 194 121), Expr.List [Expr.Constant (Const.str (Str.ofString "great")) 0 (Pos.mk 194 124 194 131), Expr.Name (Str.ofString "_law_k") (Pos.mk 194 133 194 139), Expr.Constant (Const.int 300) 0 (Pos.mk 194 141 194 144)] (Pos.mk 194 123 194 145)] [] (Pos.mk 194 68 194 146)) (Pos.mk 194 64 194 146)] (Pos.mk 194 11 194 146)) [Stmt.Return (Option.some (Expr.Constant (Const.bool Bool.false) 0 (Pos.mk 195 19 195 24))) (Pos.mk 195 12 195 24)] [] (Pos.mk 194 8 195 24), Stmt.Return (Option.some (Expr.Call (Expr.Name (Str.ofString "_law_wholes") (Pos.mk 196 15 196 26)) [Expr.Call (Expr.Name (Str.ofString "fraction") (Pos.mk 196 27 196 35)) [Expr.Name (Str.ofString "_law_number_here") (Pos.mk 196 36 196 52), Expr.Constant (Const.int 300) 0 (Pos.mk 196 54 196 57)] [] (Pos.mk 196 27 196 58), Expr.Constant (Const.int 2) 0 (Pos.mk 196 60 196 61)] [] (Pos.mk 196 15 196 62))) (Pos.mk 196 8 196 62)] [] (Pos.mk 193 4 196 62), Stmt.For (Expr.Name (Str.ofString "_law_way") (Pos.mk 197 8 197 16)) (Expr.Call (Expr.Name (Str.ofString "range") (Pos.mk 197 20 197 25)) [Expr.Constant (Const.int 6) 0 (Pos.mk 197 26 197 27)] [] (Pos.mk 197 20 197 28)) [Stmt.If (Expr.UnaryOp UnaryOp.Not (Expr.Call (Expr.Name (Str.ofString "_law_refused") (Pos.mk 198 15 198 27)) [Expr.Call (Expr.Name (Str.ofString "_law_caught") (Pos.mk 198 28 198 39)) [Expr.BinOp (Expr.BinOp (Expr.Name (Str.ofString "_law_way") (Pos.mk 198 41 198 49)) Operator.Add (Expr.Name (Str.ofString "_law_start") (Pos.mk 198 52 198 62)) (Pos.mk 198 41 198 62)) Operator.Mod (Expr.Constant (Const.int 6) 0 (Pos.mk 198 66 198 67)) (Pos.mk 198 40 198 67), Expr.Name (Str.ofString "_law_number_here") (Pos.mk 198 69 198 85), Expr.Name (Str.ofString "_law_k") (Pos.mk 198 87 198 93)] [] (Pos.mk 198 28 198 94), Expr.Name (Str.ofString "_law_due_here") (Pos.mk 198 96 198 109)] [] (Pos.mk 198 15 198 110)) (Pos.mk 198 11 198 110)) [Stmt.Return (Option.some (Expr.Constant (Const.bool Bool.false) 0 (Pos.mk 199 19 199 24))) (Pos.mk 199 12 199 24)] [] (Pos.mk 198 8 199 24)] [] (Pos.mk 197 4 199 24), Stmt.Return (Option.some (Expr.Constant (Const.bool Bool.true) 0 (Pos.mk 200 11 200 15))) (Pos.mk 200 4 200 15)]) (Scope.mk ScopeKind.function [(Str.ofString "_law_number_here", NameKind.local), (Str.ofString "_law_k", NameKind.local), (Str.ofString "_law_start", NameKind.local), (Str.ofString "_law_due_here", NameKind.local), (Str.ofString "_law_way", NameKind.local), (Str.ofString "_law_due", NameKind.globalImplicit), (Str.ofString "_law_caught", NameKind.globalImplicit), (Str.ofString "_law_refused", NameKind.globalImplicit), (Str.ofString "_law_wholes", NameKind.globalImplicit), (Str.ofString "fraction", NameKind.globalImplicit), (Str.ofString "range", NameKind.globalImplicit)] Bool.false Bool.false []) 3 [] Value.none Value.none Value.none (Value.str (Str.ofString "law_formcycle_k69_no_chain") 645) Option.none (Value.ref 394) Value.none 0)) #[]) ::
(nat_lit 396, Obj.mk (Value.type "tuple") Option.none (Data.seq #[]) #[]) ::
(nat_lit 398, Obj.mk (Value.type "tuple") Option.none (Data.seq #[Value.str (Str.ofString "_law_script") 701, Value.str (Str.ofString "_law_cell") 702, Value.str (Str.ofString "_law_k") 703]) #[]) ::
(nat_lit 399, Obj.mk (Value.type "tuple") Option.none (Data.seq #[]) #[]) ::
(nat_lit 401, Obj.mk (Value.type "code") Option.none (Data.fields #[Value.str (Str.ofString "law") 698, Value.str (Str.ofString "law") 699, Value.str (Str.ofString "/claim/cut.py") 700, Value.int 201 0, Value.int 1 0, Value.int 0 0, Value.int 0 0, Value.int 3 0, Value.ref 396, Value.bool Bool.true, Value.int 181 0, Value.ref 397, Value.none, Value.ref 398, Value.ref 399, Value.ref 400, Value.int 704 0, Value.int 201 0, Value.str (Str.ofString "/claim/cut.py") 705]) #[]) ::
(nat_lit 402, Obj.mk (Value.type "function") Option.none (Data.func (FuncData.mk (Str.ofString "law") (Str.ofString "law") (Arguments.mk [] [Arg.mk (Str.ofString "_law_script") Option.none (Pos.mk 201 8 201 19)] Option.none [] [] Option.none []) (FuncBody.stmts [Stmt.For (Expr.Name (Str.ofString "_law_cell") (Pos.mk 202 8 202 17)) (Expr.BinOp (Expr.List [Expr.Constant (Const.int 0) 0 (Pos.mk 202 22 202 23)] (Pos.mk 202 21 202 24)) Operator.Add (Expr.Subscript (Expr.Name (Str.ofString "_law_script") (Pos.mk 202 27 202 38)) (Expr.Slice Option.none (Option.some (Expr.Constant (Const.int 63) 0 (Pos.mk 202 40 202 42))) Option.none (Pos.mk 202 39 202 42)) (Pos.mk 202 27 202 43)) (Pos.mk 202 21 202 43)) [Stmt.Assign [Expr.Name (Str.ofString "_law_k") (Pos.mk 203 8 203 14)] (Expr.BinOp (Expr.Constant (Const.int 301) 0 (Pos.mk 203 17 203 20)) Operator.Add (Expr.BinOp (Expr.BinOp (Expr.BinOp (Expr.Name (Str.ofString "_law_cell") (Pos.mk 203 23 203 32)) Operator.FloorDiv (Expr.Constant (Const.int 8) 0 (Pos.mk 203 36 203 37)) (Pos.mk 203 23 203 37)) Operator.Mult (Expr.Constant (Const.int 31415926535897932384626433832795028841971693993751058209749) 0 (Pos.mk 203 40 203 99)) (Pos.mk 203 23 203 99)) Operator.Mod (Expr.BinOp (Expr.BinOp (Expr.Constant (Const.int 10) 0 (Pos.mk 203 103 203 105)) Operator.Pow (Expr.Constant (Const.int 60) 0 (Pos.mk 203 109 203 111)) (Pos.mk 203 103 203 111)) Operator.Sub (Expr.Constant (Const.int 300) 0 (Pos.mk 203 114 203 117)) (Pos.mk 203 103 203 117)) (Pos.mk 203 23 203 118)) (Pos.mk 203 17 203 118)) (Pos.mk 203 8 203 118), Stmt.If (Expr.Compare (Expr.BinOp (Expr.BinOp (Expr.Name (Str.ofString "_law_cell") (Pos.mk 204 11 204 20)) Operator.FloorDiv (Expr.Constant (Const.int 4) 0 (Pos.mk 204 24 204 25)) (Pos.mk 204 11 204 25)) Operator.Mod (Expr.Constant (Const.int 3) 0 (Pos.mk 204 28 204 29)) (Pos.mk 204 11 204 29)) [CmpOp.Eq] [Expr.Constant (Const.int 0) 0 (Pos.mk 204 33 204 34)] (Pos.mk 204 11 204 34)) [Stmt.Assign [Expr.Name (Str.ofString "_law_k") (Pos.mk 205 12 205 18)] (Expr.Constant (Const.int 301) 0 (Pos.mk 205 21 205 24)) (Pos.mk 205 12 205 24)] [] (Pos.mk 204 8 205 24), Stmt.If (Expr.UnaryOp UnaryOp.Not (Expr.Call (Expr.Name (Str.ofString "_law_good") (Pos.mk 206 15 206 24)) [Expr.Call (Expr.Name (Str.ofString "_law_number") (Pos.mk 206 25 206 36)) [Expr.Name (Str.ofString "_law_cell") (Pos.mk 206 37 206 46)] [] (Pos.mk 206 25 206 47), Expr.Name (Str.ofString "_law_k") (Pos.mk 206 49 206 55), Expr.BinOp (Expr.BinOp (Expr.Name (Str.ofString "_law_cell") (Pos.mk 206 57 206 66)) Operator.FloorDiv (Expr.Constant (Const.int 4) 0 (Pos.mk 206 70 206 71)) (Pos.mk 206 57 206 71)) Operator.Mod (Expr.Constant (Const.int 6) 0 (Pos.mk 206 74 206 75)) (Pos.mk 206 57 206 75)] [] (Pos.mk 206 15 206 76)) (Pos.mk 206 11 206 76)) [Stmt.Return (Option.some (Expr.Constant (Const.bool Bool.false) 0 (Pos.mk 207 19 207 24))) (Pos.mk 207 12 207 24)] [] (Pos.mk 206 8 207 24)] [] (Pos.mk 202 4 207 24), Stmt.Return (Option.some (Expr.Constant (Const.bool Bool.true) 0 (Pos.mk 208 11 208 15))) (Pos.mk 208 4 208 15)]) (Scope.mk ScopeKind.function [(Str.ofString "_law_script", NameKind.local), (Str.ofString "_law_cell", NameKind.local), (Str.ofString "_law_k", NameKind.local), (Str.ofString "_law_good", NameKind.globalImplicit), (Str.ofString "_law_number", NameKind.globalImplicit)] Bool.false Bool.false []) 3 [] Value.none Value.none Value.none (Value.str (Str.ofString "law_formcycle_k69_no_chain") 645) Option.none (Value.ref 401) Value.none 0)) #[]) :: []
def tp (i : Nat) : Stmt := PySem.Challenge.pw_formcycle_k69_no_chain.main.body.getD i (.Pass ⟨0, 0, 0, 0⟩)
noncomputable def vw : Program := { PySem.Challenge.pw_formcycle_k69_no_chain with main := { PySem.Challenge.pw_formcycle_k69_no_chain.main with body := [tp 1, tp 2, tp 3, tp 4, tp 5, tp 6, tp 7, tp 8, tp 9, tp 10, tp 11, tp 12, tp 14, tp 15, tp 16, tp 18, tp 19, tp 20, tp 21, tp 22, tp 23, tp 24, tp 25, tp 26, tp 27, tp 28, tp 29, tp 30, tp 31, tp 32, tp 34, tp 35, tp 36, tp 38, tp 39, tp 40, tp 41, tp 42, tp 43, tp 44] } }
def asK : List Nat := [2, 3, 15, 22, 23, 24, 25, 28, 35, 37, 38, 40, 41, 42, 43, 44, 47, 54, 56, 57, 59, 60, 61, 62, 63, 66, 73, 75, 76, 78, 79, 80, 81, 82, 85, 92, 94, 95, 97, 98, 99, 100, 101, 104, 111, 113, 114, 116, 117, 118, 119, 120, 123, 130, 132, 133, 135, 136, 137, 138, 139, 142, 149, 150, 151, 154, 161, 163, 164, 166, 167, 168, 169, 170, 173, 180, 182, 183, 185, 186, 187, 188, 189, 192, 199, 200, 201, 204, 211, 213, 214, 216, 217, 218, 219, 220, 223, 225, 226, 228, 229, 230, 232, 233, 235, 236, 237, 239, 240, 242, 243, 244, 246, 247, 249, 250, 251, 253, 254, 256, 257, 258, 260, 261, 263, 264, 265, 267, 268, 270, 271, 272, 274, 275, 277, 278, 279, 281, 282, 284, 285, 286, 288, 289, 291, 292, 293, 295, 296, 298, 299, 300, 302, 303, 305, 306, 307, 309, 310, 312, 313, 314, 316, 317, 319, 320, 321, 323, 324, 326, 327, 328, 330, 331, 333, 334, 335, 337, 338, 340, 341, 342, 344, 345, 347, 348, 349, 351, 352, 354, 355, 356, 359, 360, 361, 363, 364, 366, 367, 368, 370, 371, 373, 374, 375, 377, 378, 380, 381, 382, 384, 385, 387, 388, 389, 391, 392, 394, 395, 396, 398, 399, 401, 402]
theorem hl : LeftO PySem.Challenge.rw_formcycle_k69_no_chain.row.prog vw [] (fun s => xlAt vw [] s && recOk (RowW.records PySem.Challenge.rw_formcycle_k69_no_chain.row.toRowW) s) (Hook.obs (kHook My.KK My.asK (fun _ => by kernel_rfl))) (Hook.val (kHook My.KK My.asK (fun _ => by kernel_rfl))) 7488 := fun w => ends_of (by kernel_rfl) (by decide) (fun _ => by kernel_rfl) (fun os => by kernel_rfl) (fun os => by kernel_rfl)
end My
namespace L2
open PySem PySem.Spec PyProof.Rows

abbrev Key := Sum Int Str
def keyIs : Key → Value → Bool
  | .inl k, v => Value.isInt k v
  | .inr x, v => Value.isStrOf x v
def keyH (w : World) : Key → Int
  | .inl k => hashInt k
  | .inr x => hashStr w x
theorem keyIs_shape : ∀ {k : Key} {v : Value}, keyIs k v = true → (∃ i t, k = Sum.inl i ∧ v = Value.int i t) ∨ (∃ x t, k = Sum.inr x ∧ v = Value.str x t)
  | .inl i, v, h => by
    obtain ⟨t, e⟩ := Value.isInt_shape (k := i) (v := v) h
    exact .inl ⟨i, t, rfl, e⟩
  | .inr x, v, h => by
    obtain ⟨t, e⟩ := Value.isStrOf_shape (x := x) (v := v) h
    exact .inr ⟨x, t, rfl, e⟩
theorem key_ll (a b : Int) : decide ((Sum.inl a : Key) = Sum.inl b) = (a == b) := by
  by_cases e : a = b
  · subst e; simp
  · have h : ¬ (Sum.inl a : Key) = Sum.inl b := fun q => e (Sum.inl.inj q)
    rw [decide_eq_false h]
    exact (beq_eq_false_iff_ne.mpr e).symm
theorem key_rr (a b : Str) : decide ((Sum.inr a : Key) = Sum.inr b) = decide (a = b) := by
  by_cases e : a = b
  · subst e; simp
  · have h : ¬ (Sum.inr a : Key) = Sum.inr b := fun q => e (Sum.inr.inj q)
    rw [decide_eq_false h, decide_eq_false e]
theorem key_lr (a : Int) (b : Str) : decide ((Sum.inl a : Key) = Sum.inr b) = false := decide_eq_false (fun q => nomatch q)
theorem key_rl (a : Str) (b : Int) : decide ((Sum.inr a : Key) = Sum.inl b) = false := decide_eq_false (fun q => nomatch q)

def mixKind (prog : Program) (w : World) : PySem.KeyKind prog w Key where
  is := keyIs
  hash := keyH w
  inj := fun v a b ha hb => by
    rcases keyIs_shape ha with ⟨i, t, rfl, rfl⟩ | ⟨x, t, rfl, rfl⟩
    · rcases keyIs_shape hb with ⟨j, u, rfl, e⟩ | ⟨y, u, rfl, e⟩
      · injection e with e1 _; rw [e1]
      · exact nomatch e
    · rcases keyIs_shape hb with ⟨j, u, rfl, e⟩ | ⟨y, u, rfl, e⟩
      · exact nomatch e
      · injection e with e1 _; rw [e1]
  byValue := fun k v h => by
    rcases keyIs_shape h with ⟨i, t, rfl, rfl⟩ | ⟨x, t, rfl, rfl⟩ <;> rfl
  pyHash := fun hv h => by
    rcases keyIs_shape hv with ⟨i, t, rfl, rfl⟩ | ⟨x, t, rfl, rfl⟩
    · exact wpAny_pyHash_int h
    · exact wpAny_pyHash_str h
  eqBool := fun hu hv h => by
    rcases keyIs_shape hu with ⟨i, t, rfl, rfl⟩ | ⟨x, t, rfl, rfl⟩
    · rcases keyIs_shape hv with ⟨j, u, rfl, rfl⟩ | ⟨y, u, rfl, rfl⟩
      · rw [key_ll] at h; exact wpAny_eqBool_int h
      · rw [key_lr] at h; exact SeqAt.EqAt.int_str i t y u _ _ _ _ h
    · rcases keyIs_shape hv with ⟨j, u, rfl, rfl⟩ | ⟨y, u, rfl, rfl⟩
      · rw [key_rl] at h; exact SeqAt.EqAt.str_int x t j u _ _ _ _ h
      · rw [key_rr] at h; exact wpAny_eqBool_str h
  «strs» := fun k x t v h => by
    rcases keyIs_shape h with ⟨i, u, rfl, e⟩ | ⟨y, u, rfl, e⟩
    · exact nomatch e
    · injection e with e1 _
      subst e1
      cases v <;> rfl

end L2

namespace L2
open PySem PySem.Spec PyProof.Rows

inductive V where
  | non | bl (b : Bool) | int (i : Int) | str (x : Str) | byt (b : Array UInt8) | flt (b : UInt64) | ref (a : Addr) | ty (n : String)
  deriving DecidableEq

def RelV : V → Value → Prop
  | .non, u => u = Value.none
  | .bl b, u => u = Value.bool b
  | .int i, u => ∃ t, u = Value.int i t
  | .str x, u => ∃ t, u = Value.str x t
  | .byt b, u => ∃ t, u = Value.bytes b t
  | .flt b, u => ∃ t, u = Value.float b t
  | .ref a, u => u = Value.ref a
  | .ty n, u => u = Value.type n

abbrev Vals : List V → List Value → Prop := Paired RelV
theorem Vals.length {xs : List V} {us : List Value} (r : Vals xs us) : xs.length = us.length := Paired.length r
theorem Vals.get : ∀ {xs : List V} {us : List Value} {i : Nat} {x : V}, Vals xs us → xs[i]? = some x → ∃ u, us[i]? = some u ∧ RelV x u
  | _, _, _, _, .nil, e => by simp at e
  | _, _, 0, _, .cons r _, e => by simp at e; subst e; exact ⟨_, rfl, r⟩
  | _, _, i + 1, x, .cons _ t, e => by
    obtain ⟨u, h1, h2⟩ := Vals.get (i := i) (x := x) t (by simpa using e)
    exact ⟨u, by simpa using h1, h2⟩
theorem Vals.set {x : V} {u : Value} (r : RelV x u) : ∀ {xs : List V} {us : List Value} (i : Nat), Vals xs us → Vals (xs.set i x) (us.set i u)
  | _, _, _, .nil => .nil
  | _, _, 0, .cons _ t => .cons r t
  | _, _, i + 1, .cons q t => .cons q (Vals.set r i t)
theorem Vals.append : ∀ {xs ys : List V} {us ws : List Value}, Vals xs us → Vals ys ws → Vals (xs ++ ys) (us ++ ws)
  | _, _, _, _, .nil, s => s
  | _, _, _, _, .cons r t, s => .cons r (Vals.append t s)
theorem Vals.take : ∀ {xs : List V} {us : List Value} (n : Nat), Vals xs us → Vals (xs.take n) (us.take n)
  | _, _, 0, _ => .nil
  | _, _, _ + 1, .nil => .nil
  | _, _, n + 1, .cons r t => .cons r (Vals.take n t)
theorem Vals.drop : ∀ {xs : List V} {us : List Value} (n : Nat), Vals xs us → Vals (xs.drop n) (us.drop n)
  | _, _, 0, r => r
  | _, _, _ + 1, .nil => .nil
  | _, _, n + 1, .cons _ t => Vals.drop n t
def RelO : Option V → Option Value → Prop
  | some v, some u => RelV v u
  | none, none => True
  | _, _ => False
def KV {κ : Type} : List (κ × V) → List (κ × Value) → Prop := Paired fun (p : κ × V) (q : κ × Value) => p.1 = q.1 ∧ RelV p.2 q.2

def kV : Key → V
  | .inl i => .int i
  | .inr x => .str x

inductive HO where
  /-- a list -/
  | lst (xs : List V)
  /-- a tuple (never changes) -/
  | tup (xs : List V)
  /-- a dict whose keys are ints and texts; one whose keys are tuples of ints and texts (the empty one is both) -/
  | dK (kvs : List (Key × V)) | dT (kvs : List (List Key × V))
  /-- a set of ints: its members, its size -/
  | set (S : Int → Bool) (n : Nat)
  /-- an instance of the class at C, its dict at dx, its attributes -/
  | ins (C dx : Addr) (fs : List (Str × V))
  /-- the dict of the instance at x -/
  | own (x : Addr)
  /-- the dict of an exception -/
  | xd (fs : List (Str × V))
  /-- a bound method, f of x -/
  | met (f x : Addr)
  /-- a range object lo, lo + 1, .. below hi -/
  | rng (lo hi : Int)
  /-- a thing that is known to the object (the script; a dict while a loop walks it): read, never written while it is so -/
  | frz (o : Obj) (u : HO)
  /-- a code object's table -/
  | tbl (ps : Array Value)
  /-- any other thing, by what is true of its one object (a def of one's own: SetO a S n := HO.ext fun h => ..) -/
  | ext (φ : Heap → Prop)

abbrev Hp := Addr → Option HO
def upd (H : Hp) (a : Addr) (o : HO) : Hp := fun b => if b = a then some o else H b
theorem upd_same {H : Hp} {a : Addr} {o : HO} : upd H a o a = some o := by unfold upd; rw [if_pos rfl]
theorem upd_ne {H : Hp} {a b : Addr} {o : HO} (h : b ≠ a) : upd H a o b = H b := by unfold upd; rw [if_neg h]
theorem ne_of_none {H : Hp} {a b : Addr} {o : HO} (h : H a = some o) (h' : H b = none) : a ≠ b := by
  intro e; subst e; rw [h] at h'; cases h'

section
variable (P : Program) (w : World)
def ObjOk (H : Hp) (h : Heap) (a : Addr) : HO → Prop
  | .lst xs => xs.length ≤ sizeLine ∧ ∃ (its : List Value) (n : Nat), Vals xs its ∧ h.get? a = some { cls := .type "list", data := .seq its.toArray n }
  | .tup xs => xs.length ≤ sizeLine ∧ ∃ its : List Value, Vals xs its ∧ IsTup h a its.toArray
  | .dK kvs => kvs.length ≤ sizeLine ∧ (a == sysModules) = false ∧ ∃ vs, KV kvs vs ∧ h.DictOf (mixKind P w) a vs
  | .dT kvs => kvs.length ≤ sizeLine ∧ (a == sysModules) = false ∧ ∃ xs : List (List Key × Addr × Value),
      Paired (fun (p : List Key × V) (q : List Key × Addr × Value) => p.1 = q.1 ∧ H q.2.1 = some (.tup (p.1.map kV)) ∧ RelV p.2 q.2.2) kvs xs ∧
      ∃ o es ep, h.get? a = some o ∧ o.ExactDict ∧ o.data = .dict es ep ∧ es.toList = xs.map (entryOfKey (tupleKind (mixKind P w))) ∧ (xs.map (·.1)).Nodup
  | .set S n => h.SetOf (intKind P w) a S n
  | .ins C dx fs => H dx = some (.own a) ∧ fs.length ≤ 1000 ∧ dx ≠ a ∧ h.get? a = some (PySem.W.instObj C dx) ∧
      ∃ mA, h.Ns1 dx mA ∧ (∀ f, RelO (fs.lookup f) (mA f)) ∧ PySem.Within mA (fs.map (·.1))
  | .own _ => ∃ o, h.get? a = some o
  | .xd fs => ∃ mA, h.Ns1 a mA ∧ ∀ f, RelO (fs.lookup f) (mA f)
  | .rng lo hi => ∃ t u v, h.get? a = some { cls := .type "range", data := .fields #[.int lo t, .int hi u, .int 1 v] }
  | .frz o u => h.get? a = some o ∧ ObjOk H h a u
  | .tbl ps => h.get? a = some { cls := .none, data := .fields ps }
  | .met f x => h.get? a = some (PySem.W.methodObj (.ref f) (.ref x))
  | .ext φ => φ h ∧ (∃ o, h.get? a = some o) ∧ ∀ h1 h2 : Heap, φ h1 → (∀ o, h1.get? a = some o → h2.get? a = some o) → φ h2
def HOk (H : Hp) (h : Heap) : Prop := ∀ a o, H a = some o → ObjOk P w H h a o
end

section
variable {P : Program} {w : World} {H H' : Hp} {h h' : Heap} {a : Addr} {o : HO}
theorem ObjOk.lt (x : ObjOk P w H h a o) : a < h.objs.size := by
  cases o with
  | lst xs => obtain ⟨_, _, _, _, e⟩ := x; exact Heap.lt_size e
  | tup xs => obtain ⟨_, _, _, p⟩ := x; exact p.lt
  | dK kvs => obtain ⟨_, _, _, _, o, _, _, e, _⟩ := x; exact Heap.lt_size e
  | dT kvs => obtain ⟨_, _, _, _, o, _, _, e, _⟩ := x; exact Heap.lt_size e
  | set S n => obtain ⟨o, _, _, _, e, _⟩ := x; exact Heap.lt_size e
  | ins C dx fs => obtain ⟨_, _, _, e, _⟩ := x; exact Heap.lt_size e
  | own y => obtain ⟨_, e⟩ := x; exact Heap.lt_size e
  | xd fs => obtain ⟨_, ⟨_, _, _, e, _⟩, _⟩ := x; exact Heap.lt_size e
  | rng lo hi => obtain ⟨_, _, _, e⟩ := x; exact Heap.lt_size e
  | frz ob u => obtain ⟨e, _⟩ := x; exact Heap.lt_size e
  | tbl ps => exact Heap.lt_size (show h.get? a = some _ from x)
  | met f y => exact Heap.lt_size (show h.get? a = some _ from x)
  | ext φ => obtain ⟨_, ⟨_, e⟩, _⟩ := x; exact Heap.lt_size e
theorem Paired.mapP {α β : Type} {F G : α → β → Prop} : ∀ {l₁ : List α} {l₂ : List β}, Paired F l₁ l₂ → (∀ a b, F a b → G a b) → Paired G l₁ l₂
  | _, _, .nil, _ => .nil
  | _, _, .cons r t, f => .cons (f _ _ r) (Paired.mapP t f)
theorem ObjOk.stay (x : ObjOk P w H h a o) (k : ∀ b u, (b = a ∨ H b = some (.own a)) → h.get? b = some u → h'.get? b = some u)
    (ho : ∀ b, H b = some (.own a) → H' b = some (.own a)) (ht : ∀ b xs, H b = some (.tup xs) → H' b = some (.tup xs)) : ObjOk P w H' h' a o := by
  induction o with
  | lst xs => obtain ⟨z, its, n, r, e⟩ := x; exact ⟨z, its, n, r, k _ _ (.inl rfl) e⟩
  | tup xs => obtain ⟨z, its, r, ob, e, c⟩ := x; exact ⟨z, its, r, ob, k _ _ (.inl rfl) e, c⟩
  | dK kvs => obtain ⟨z, y, vs, r, ob, es, ep, e, c⟩ := x; exact ⟨z, y, vs, r, ob, es, ep, k _ _ (.inl rfl) e, c⟩
  | dT kvs =>
    obtain ⟨z, y, xs, r, ob, es, ep, e, c⟩ := x
    exact ⟨z, y, xs, Paired.mapP r fun p q z => ⟨z.1, ht _ _ z.2.1, z.2.2⟩, ob, es, ep, k _ _ (.inl rfl) e, c⟩
  | set S n => obtain ⟨ob, es, ep, t, e, c⟩ := x; exact ⟨ob, es, ep, t, k _ _ (.inl rfl) e, c⟩
  | ins C dx fs =>
    obtain ⟨d, z, ne, e, mA, ⟨od, es, ep, e2, c⟩, r⟩ := x
    exact ⟨ho _ d, z, ne, k _ _ (.inl rfl) e, mA, ⟨od, es, ep, k _ _ (.inr d) e2, c⟩, r⟩
  | own y => obtain ⟨ob, e⟩ := x; exact ⟨ob, k _ _ (.inl rfl) e⟩
  | xd fs => obtain ⟨mA, ⟨od, es, ep, e, c⟩, r⟩ := x; exact ⟨mA, ⟨od, es, ep, k _ _ (.inl rfl) e, c⟩, r⟩
  | rng lo hi => obtain ⟨t, u, v, e⟩ := x; exact ⟨t, u, v, k _ _ (.inl rfl) e⟩
  | frz ob u ih => obtain ⟨e, q⟩ := x; exact ⟨k _ _ (.inl rfl) e, ih q⟩
  | tbl ps =>
    have e : h.get? a = some { cls := .none, data := .fields ps } := x
    show h'.get? a = some { cls := .none, data := .fields ps }
    exact k a _ (.inl rfl) e
  | met f y =>
    have e : h.get? a = some (PySem.W.methodObj (.ref f) (.ref y)) := x
    show h'.get? a = some (PySem.W.methodObj (.ref f) (.ref y))
    exact k a _ (.inl rfl) e
  | ext φ => obtain ⟨p, ⟨o, e⟩, st⟩ := x; exact ⟨st _ _ p fun o q => k _ _ (.inl rfl) q, ⟨o, k _ _ (.inl rfl) e⟩, st⟩
theorem HOk.lt (x : HOk P w H h) (e : H a = some o) : a < h.objs.size := (x a o e).lt
theorem HOk.fresh (x : HOk P w H h) (e : h.objs.size ≤ a) : H a = none := by
  cases q : H a with
  | none => rfl
  | some u => exact absurd (Nat.lt_of_lt_of_le (x.lt q) e) (Nat.lt_irrefl _)
theorem HOk.kept (x : HOk P w H h) (k : ∀ b u, h.get? b = some u → h'.get? b = some u) : HOk P w H h' := fun a o e =>
  (x a o e).stay (fun b u _ q => k b u q) (fun _ q => q) fun _ _ q => q
theorem HOk.laid (x : HOk P w H h) (k : ∀ b u, h.get? b = some u → h'.get? b = some u) (hp : h.objs.size ≤ a) (new : ObjOk P w (upd H a o) h' a o) : HOk P w (upd H a o) h' := fun b u e => by
  have hn := x.fresh hp
  by_cases hb : b = a
  · subst hb; rw [upd_same] at e; cases e; exact new
  · rw [upd_ne hb] at e
    exact (x b u e).stay (fun c v _ q => k c v q) (fun c q => by rw [upd_ne (ne_of_none q hn)]; exact q) fun c xs q => by rw [upd_ne (ne_of_none q hn)]; exact q
end

def Rd (H : Hp) (a : Addr) (u : HO) : Prop := H a = some u ∨ ∃ o, H a = some (.frz o u)
theorem Rd.of {H : Hp} {a : Addr} {u : HO} (h : H a = some u) : Rd H a u := .inl h
theorem Rd.ok {P : Program} {w : World} {H : Hp} {h : Heap} {a : Addr} {u : HO} (r : Rd H a u) (x : HOk P w H h) : ObjOk P w H h a u := by
  rcases r with r | ⟨o, r⟩
  · exact x a u r
  · obtain ⟨_, q⟩ := x a _ r
    exact q
def Mut : Option HO → Prop
  | some (.lst _) => True
  | some (.dK _) => True
  | some (.dT _) => True
  | some (.set _ _) => True
  | some (.ins _ _ _) => True
  | some (.ext _) => True
  | _ => False
section
variable {P : Program} {w : World} {H : Hp} {h h' : Heap} {x e : Addr} {o' : HO}
theorem HOk.write (ok : HOk P w H h) (mu : Mut (H x)) (he : e = x ∨ H e = some (.own x)) (k : ∀ b u, b ≠ e → h.get? b = some u → h'.get? b = some u) (heo : ∃ u, h'.get? e = some u)
    (new : ObjOk P w (upd H x o') h' x o') : HOk P w (upd H x o') h' := fun b u q => by
  have nown : ∀ c y, H c = some (.own y) → c ≠ x := fun c y r z => by subst z; rw [r] at mu; exact mu
  have ntup : ∀ c xs, H c = some (.tup xs) → c ≠ x := fun c xs r z => by subst z; rw [r] at mu; exact mu
  by_cases hb : b = x
  · subst hb; rw [upd_same] at q; cases q; exact new
  · rw [upd_ne hb] at q
    by_cases hbe : b = e
    · have q' : H b = some (.own x) := by
        rcases he with z | z
        · exact absurd (hbe.trans z) hb
        · rw [hbe]; exact z
      rw [q] at q'; cases q'
      obtain ⟨v, hv⟩ := heo
      exact ⟨v, by rw [hbe]; exact hv⟩
    · refine (ok b u q).stay (fun c v hc r => k c v ?_ r) (fun c r => by rw [upd_ne (nown c b r)]; exact r) fun c xs r => by rw [upd_ne (ntup c xs r)]; exact r
      rcases hc with rfl | hc
      · exact hbe
      · rintro rfl
        rcases he with z | z
        · exact nown c b hc z
        · rw [hc] at z; cases z; exact hb rfl
end

structure Un (fs ex : List Addr) (H H' : Hp) (h h' : Heap) : Prop where
  keep : ∀ b o, h.get? b = some o → H b = none → b ∉ fs → b ∉ ex → h'.get? b = some o
  slot : ∀ b o, h.get? b = some o → H b = none → b ∈ fs → b ∉ ex → ∃ sl, h'.get? b = some { o with slots := sl }
  free : ∀ b o, h.get? b = some o → H b = none → b ∉ ex → H' b = none
  there : ∀ b o, h.get? b = some o → b ∉ ex → ∃ o', h'.get? b = some o'
  tups : ∀ b xs, H b = some (.tup xs) → H' b = some (.tup xs)
  frzs : ∀ b o u, H b = some (.frz o u) → H' b = some (.frz o u)
  tbls : ∀ b ps, H b = some (.tbl ps) → ∃ more, H' b = some (.tbl (ps ++ more))
section
variable {fs fs' ex ex' : List Addr} {H H1 H2 : Hp} {h h1 h2 h' : Heap} {a x e : Addr} {o : HO}
theorem Un.any (u : Un fs ex H H1 h h1) {b : Addr} {ob : Obj} (q : h.get? b = some ob) (n : H b = none) (hx : b ∉ ex) : ∃ sl, h1.get? b = some { ob with slots := sl } := by
  by_cases hb : b ∈ fs
  · exact u.slot b ob q n hb hx
  · exact ⟨ob.slots, u.keep b ob q n hb hx⟩
theorem Un.trans (a : Un fs ex H H1 h h1) (b : Un fs ex H1 H2 h1 h2) : Un fs ex H H2 h h2 where
  keep := fun c ob q n hc hx => b.keep c ob (a.keep c ob q n hc hx) (a.free c ob q n hx) hc hx
  slot := fun c ob q n hc hx => by
    obtain ⟨sl, e1⟩ := a.slot c ob q n hc hx
    obtain ⟨sl', e2⟩ := b.slot c _ e1 (a.free c ob q n hx) hc hx
    exact ⟨sl', e2⟩
  free := fun c ob q n hx => by
    obtain ⟨o', e1⟩ := a.there c ob q hx
    exact b.free c o' e1 (a.free c ob q n hx) hx
  there := fun c ob q hx => by
    obtain ⟨o', e1⟩ := a.there c ob q hx
    exact b.there c o' e1 hx
  tups := fun c xs q => b.tups c xs (a.tups c xs q)
  frzs := fun c ob xs q => b.frzs c ob xs (a.frzs c ob xs q)
  tbls := fun c ps q => by
    obtain ⟨m1, e1⟩ := a.tbls c ps q
    obtain ⟨m2, e2⟩ := b.tbls c _ e1
    exact ⟨m1 ++ m2, by rw [e2, Array.append_assoc]⟩
theorem Un.kept (k : ∀ b u, h.get? b = some u → h'.get? b = some u) : Un fs ex H H h h' :=
  ⟨fun b ob q _ _ _ => k b ob q, fun b ob q _ _ _ => ⟨ob.slots, k b ob q⟩, fun _ _ _ n _ => n, fun b ob q _ => ⟨ob, k b ob q⟩, fun _ _ q => q, fun _ _ _ q => q, fun _ ps q => ⟨#[], by rw [q]; simp⟩⟩
theorem Un.refl : Un fs ex H H h h := Un.kept fun _ _ q => q
theorem Un.laid (k : ∀ b u, h.get? b = some u → h'.get? b = some u) (hp : h.objs.size ≤ a) (hn : H a = none) : Un fs ex H (upd H a o) h h' where
  keep := fun b u q _ _ _ => k b u q
  slot := fun b u q _ _ _ => ⟨u.slots, k b u q⟩
  free := fun b u q n _ => by rw [upd_ne (Nat.ne_of_lt (Nat.lt_of_lt_of_le (Heap.lt_size q) hp))]; exact n
  there := fun b u q _ => ⟨u, k b u q⟩
  tups := fun b xs q => by rw [upd_ne (ne_of_none q hn)]; exact q
  frzs := fun b u xs q => by rw [upd_ne (ne_of_none q hn)]; exact q
  tbls := fun b ps q => ⟨#[], by rw [upd_ne (ne_of_none q hn), q]; simp⟩
theorem Un.write (mu : Mut (H x)) (he : e = x ∨ H e = some (.own x)) (k : ∀ b u, b ≠ e → h.get? b = some u → h'.get? b = some u) (heo : ∃ u, h'.get? e = some u) : Un fs ex H (upd H x o) h h' := by
  have hx : ∀ b, H b = none → b ≠ x := fun b n z => by subst z; rw [n] at mu; exact mu
  have hb : ∀ b, H b = none → b ≠ e := fun b n z => by
    subst z
    rcases he with r | r
    · exact hx b n r
    · rw [n] at r; cases r
  have hm : ∀ b u, H b = some u → ¬ Mut (some u) → b ≠ x := fun b u q nm z => by subst z; rw [q] at mu; exact nm mu
  refine ⟨fun b u q n _ _ => k b u (hb b n) q, fun b u q n _ _ => ⟨u.slots, k b u (hb b n) q⟩, fun b u q n _ => by rw [upd_ne (hx b n)]; exact n, fun b u q _ => ?_,
    fun b xs q => by rw [upd_ne (hm b _ q fun z => z)]; exact q, fun b u xs q => by rw [upd_ne (hm b _ q fun z => z)]; exact q, fun b ps q => ⟨#[], by rw [upd_ne (hm b _ q fun z => z), q]; simp⟩⟩
  by_cases hbe : b = e
  · subst hbe; exact heo
  · exact ⟨u, k b u hbe q⟩
theorem Un.mono (u : Un fs ex H H1 h h1) (hs : ∀ b ∈ fs, b ∈ fs') (hx : ∀ b ∈ ex, b ∈ ex') : Un fs' ex' H H1 h h1 :=
  ⟨fun b ob q n hb he => u.keep b ob q n (fun z => hb (hs b z)) fun z => he (hx b z), fun _ _ q n _ he => u.any q n fun z => he (hx _ z), fun b ob q n he => u.free b ob q n fun z => he (hx b z), fun b ob q he => u.there b ob q fun z => he (hx b z), u.tups, u.frzs, u.tbls⟩
end

def trk (h : Heap) (H : Hp) : List Addr := (List.range h.objs.size).filter fun a => (H a).isSome
def hidT (h : Heap) (H : Hp) : Heap := PySem.W.hideAll h (trk h H)
theorem hidT_size (h : Heap) (H : Hp) : (hidT h H).objs.size = h.objs.size := PySem.W.hideAll_size _ _
theorem hidT_get {h : Heap} {H : Hp} {b : Addr} {o : Obj} (e : h.get? b = some o) (n : H b = none) : (hidT h H).get? b = some o :=
  PySem.W.hideAll_get _ e fun hm => by
    have q : (H b).isSome = true := (List.mem_filter.mp hm).2
    rw [n] at q; simp at q
theorem of_hidT {h : Heap} {H : Hp} {b : Addr} {o : Obj} (e : (hidT h H).get? b = some o) : h.get? b = some o ∧ H b = none := by
  have e' : h.get? b = some o := PySem.W.of_hideAll (trk h H) e
  refine ⟨e', ?_⟩
  cases q : H b with
  | none => rfl
  | some x =>
    have hm : b ∈ trk h H := List.mem_filter.mpr ⟨List.mem_range.mpr (Heap.lt_size e'), by simp [q]⟩
    have z : (hidT h H).get? b = none := PySem.W.hideAll_none (trk h H) hm
    rw [z] at e; cases e

def allNews (g h : Heap) (L : Addr) : List (Addr × Obj) := (List.range h.objs.size).filterMap fun a => if a = L ∨ (g.get? a).isSome = true then none else (h.get? a).map fun o => (a, o)
def rest (g h : Heap) (L d : Addr) : List (Addr × Obj) := (allNews g h L).filter fun p => decide (p.1 ≠ d)
end L2

namespace L2
open PySem PySem.Spec PyProof.Rows

structure Mod (K : PySem.W.Frag) (mg : Str → Option Value) (base : Heap) : Prop where
  kin : K.In base
  glob : base.Ns mainGlobals mg
  blt : ∃ mb, base.Ns builtinsNs mb ∧ ∀ x : Str, x ≠ "__name__" → mb x = bootBuiltins x
  nolimit : base.NoLimit

structure Cx where
  prog : Program
  w : World
  K : PySem.W.Frag
  mg : Str → Option Value
  base : Heap
  A : Around
  N : List Str
  s₀ : Shared
  H₀ : Hp
  env : Env
  outer : List Env
  stack : List Env
  ex : List Addr
  fn : Str → Bool
  calm : Bool
  pn : List (Addr × Obj)
  xe : Value → Shared → Prop
def frs (l : List Env) : List Addr := l.filterMap (·.frame)
abbrev Cx.fs (X : Cx) : List Addr := frs X.outer

def Vis (sc : Scope) (x : Str) : Prop := sc.names.lookup x = some .local ∨ sc.names.lookup x = some .cell ∨ sc.names.lookup x = some .free
def Loc (sc : Scope) (x : Str) : Prop := sc.names.lookup x = some .local ∨ sc.names.lookup x = some .cell
def Look (env : Env) (h : Heap) (m : Str → Option Value) (x : Str) (u : Value) : Prop :=
  (env.kindOf x = some .local ∧ m x = some u) ∨ ((env.kindOf x = some .cell ∨ env.kindOf x = some .free) ∧ ∃ c, env.cells.lookup x = some c ∧ h.IsCell c (some u))

structure Cx.Ok (X : Cx) : Prop where
  mod : Mod X.K X.mg X.base
  kind : X.env.scope.kind = .function
  glob : X.env.globals = mainGlobals
  blt : X.env.builtins = builtinsNs
  above : X.s₀.heap.objs.size ≤ X.env.locals
  inj : ∀ x y c, X.env.cells.lookup x = some c → X.env.cells.lookup y = some c → x = y
  has : ∀ x, (X.env.kindOf x = some .cell ∨ X.env.kindOf x = some .free) → ∃ c, X.env.cells.lookup x = some c
  cab : ∀ x c, X.fn x = true → X.env.cells.lookup x = some c → X.s₀.heap.objs.size ≤ c
  hd : X.calm = true → X.A.handled = none
  frames : X.A.frames = some X.stack
  stk : X.stack = X.outer ∨ (X.stack = X.env :: X.outer ∧ X.env.frame = some X.env.locals)
  exf : ∀ b ∈ X.ex, b ≠ X.env.locals ∧ ∀ x c, X.env.cells.lookup x = some c → c ≠ b
  bs : ∀ b o, X.base.get? b = some o → X.s₀.heap.get? b = some o ∧ X.H₀ b = none
  bsz : X.base.objs.size ≤ X.s₀.heap.objs.size
  noex : ∀ b o, X.base.get? b = some o → b ∉ X.ex
  exfs : ∀ b ∈ X.ex, b ∉ X.fs
  funs : X.s₀.heap.FunFrames X.base X.outer
  frf : ∀ b ∈ X.fs, X.H₀ b = none

structure Inv (X : Cx) (pins : List (Addr × Obj)) (σ : List (Option V)) (H : Hp) (s : Shared) : Prop where
  ok : X.Ok
  os : s.os = X.s₀.os
  bare : AllBare s.gens
  base : Un X.fs X.ex X.H₀ H X.s₀.heap s.heap
  loc : ∃ m, s.heap.Ns X.env.locals m ∧ ∀ (i : Nat) (x : Str) (v : V), X.N[i]? = some x → σ[i]? = some (some v) → Vis X.env.scope x → ∃ u, RelV v u ∧ Look X.env s.heap m x u
  cell : ∀ x c, X.env.cells.lookup x = some c → ∃ v, s.heap.IsCell c v
  free : H X.env.locals = none
  freeC : ∀ x c, X.env.cells.lookup x = some c → H c = none
  pin : ∀ p ∈ X.pn ++ pins, s.heap.get? p.1 = some p.2 ∧ H p.1 = none ∧ p.1 ≠ X.env.locals ∧ p.1 ∉ X.fs ∧ ∀ v, p.2.data ≠ .cell v
  hok : HOk X.prog X.w H s.heap
  len : σ.length = X.N.length

section
variable {X : Cx} {pins : List (Addr × Obj)} {σ : List (Option V)} {H H' : Hp} {s : Shared} {h' : Heap}

theorem Cx.Ok.nofr (ok : X.Ok) {b : Addr} {o : Obj} (e : X.base.get? b = some o) : b ∉ X.fs := fun hb => by
  have := (ok.funs.mem hb).1
  rw [e] at this; cases this
theorem Inv.bs (I : Inv X pins σ H s) : ∀ b o, X.base.get? b = some o → s.heap.get? b = some o ∧ H b = none := fun b o e =>
  ⟨I.base.keep b o (I.ok.bs b o e).1 (I.ok.bs b o e).2 (I.ok.nofr e) (I.ok.noex b o e), I.base.free b o (I.ok.bs b o e).1 (I.ok.bs b o e).2 (I.ok.noex b o e)⟩
theorem Inv.bk (I : Inv X pins σ H s) : ∀ b o, X.base.get? b = some o → s.heap.get? b = some o := fun b o e => (I.bs b o e).1
theorem Inv.mod (I : Inv X pins σ H s) : Mod X.K X.mg X.base := I.ok.mod
theorem Inv.kIn (I : Inv X pins σ H s) : X.K.In s.heap := I.ok.mod.kin.keeps I.bk
theorem Inv.nolimit (I : Inv X pins σ H s) : s.heap.NoLimit := I.ok.mod.nolimit.keeps I.bk
theorem Inv.fr (I : Inv X pins σ H s) : ∃ m, Fr X.base X.env.locals s.heap m :=
  let ⟨m, hn, _⟩ := I.loc
  ⟨m, hn, I.bk, Nat.le_trans I.ok.bsz I.ok.above⟩
theorem Inv.lt (I : Inv X pins σ H s) : X.env.locals < s.heap.objs.size := let ⟨_, hn, _⟩ := I.loc; hn.lt
theorem Inv.sz (I : Inv X pins σ H s) : X.s₀.heap.objs.size ≤ s.heap.objs.size := Nat.le_trans I.ok.above (Nat.le_of_lt I.lt)
theorem Inv.nofs (I : Inv X pins σ H s) {a : Addr} (h : s.heap.objs.size ≤ a) : a ∉ X.fs := fun hb => by
  obtain ⟨_, o, ho, _⟩ := I.ok.funs.mem hb
  exact absurd (Nat.lt_of_lt_of_le (Heap.lt_size ho) (Nat.le_trans I.sz h)) (Nat.lt_irrefl _)
theorem Inv.cne (I : Inv X pins σ H s) : ∀ x c, X.env.cells.lookup x = some c → c ≠ X.env.locals := fun x c e z => by
  obtain ⟨v, o, ho, hd⟩ := I.cell x c e
  obtain ⟨m, ⟨o', es, ep, ho', hd', _⟩, _⟩ := I.loc
  rw [z, ho'] at ho; cases ho; rw [hd'] at hd; cases hd
theorem Inv.funs (I : Inv X pins σ H s) : s.heap.FunFrames X.base X.outer := by
  have all : ∀ (l : List Env), (∀ b ∈ frs l, b ∈ X.fs) → X.s₀.heap.FunFrames X.base l → s.heap.FunFrames X.base l := by
    intro l
    induction l with
    | nil => intro _ _; trivial
    | cons env r ih =>
      intro hs hl
      obtain ⟨hk, ⟨L, o, hf, hn, ho, hd⟩, hr⟩ := hl
      have hL : L ∈ X.fs := hs L (by unfold frs; rw [List.filterMap_cons, hf]; exact List.mem_cons_self)
      obtain ⟨sl, e⟩ := I.base.slot L o ho (I.ok.frf L hL) hL fun z => I.ok.exfs L z hL
      exact ⟨hk, ⟨L, _, hf, hn, e, hd⟩, ih (fun b hb => hs b (by unfold frs; rw [List.filterMap_cons, hf]; exact List.mem_cons_of_mem _ hb)) hr⟩
  exact all X.outer (fun _ hb => hb) I.ok.funs

theorem Inv.stack (I : Inv X pins σ H s) : s.heap.FunFrames X.base X.stack := by
  rcases I.ok.stk with e | ⟨e, hf⟩
  · rw [e]; exact I.funs
  · rw [e]
    obtain ⟨m, hn, _⟩ := I.loc
    refine .cons (by rw [I.ok.kind]; decide) hf hn ?_ I.funs
    exact Heap.get?_none_of_le (Nat.le_trans I.ok.bsz I.ok.above)
theorem Inv.stkSub (I : Inv X pins σ H s) : ∀ b ∈ frs X.stack, b ∈ X.env.locals :: X.fs := fun b hb => by
  rcases I.ok.stk with e | ⟨e, hf⟩
  · rw [e] at hb; exact List.mem_cons_of_mem _ hb
  · rw [e] at hb
    unfold frs at hb
    rw [List.filterMap_cons, hf] at hb
    exact hb
theorem Inv.stkFree (I : Inv X pins σ H s) : ∀ b ∈ frs X.stack, H b = none := fun b hb => by
  rcases List.mem_cons.mp (I.stkSub b hb) with e | hb
  · rw [e]; exact I.free
  · obtain ⟨_, o, ho, _⟩ := I.ok.funs.mem hb
    exact I.base.free b o ho (I.ok.frf b hb) fun z => I.ok.exfs b z hb

theorem Inv.step {g' : Array GenState} {t' : Nat} {d' : Drawn} {ch : List Addr} (I : Inv X pins σ H s)
    (hch : ∀ b ∈ ch, (b ∈ X.ex ∨ X.s₀.heap.objs.size ≤ b) ∧ b ≠ X.env.locals ∧ (∀ x c, X.env.cells.lookup x = some c → c ≠ b) ∧ ∀ p ∈ X.pn ++ pins, p.1 ≠ b)
    (keep : ∀ b o, b ≠ X.env.locals → b ∉ X.fs → b ∉ ch → s.heap.get? b = some o → H b = none → h'.get? b = some o)
    (slot : ∀ b o, b ≠ X.env.locals → b ∈ X.fs → b ∉ ch → s.heap.get? b = some o → H b = none → ∃ sl, h'.get? b = some { o with slots := sl }) (free : ∀ b o, b ∉ ch → s.heap.get? b = some o → H b = none → H' b = none)
    (there : ∀ b o, b ∉ ch → s.heap.get? b = some o → ∃ o', h'.get? b = some o')
    (tups : ∀ b xs, H b = some (.tup xs) → H' b = some (.tup xs)) (frzs : ∀ b o u, H b = some (.frz o u) → H' b = some (.frz o u)) (tbls : ∀ b ps, H b = some (.tbl ps) → ∃ more, H' b = some (.tbl (ps ++ more)))
    (ns : ∀ m, s.heap.Ns X.env.locals m → h'.Ns X.env.locals m) (hok : HOk X.prog X.w H' h') (hg : AllBare g') :
    Inv X pins σ H' { s with heap := h', gens := g', drawn := d', toks := t' } := by
  have neL : ∀ b o, X.s₀.heap.get? b = some o → b ≠ X.env.locals := fun b o e => Nat.ne_of_lt (Nat.lt_of_lt_of_le (Heap.lt_size e) I.ok.above)
  have neC : ∀ b o, X.s₀.heap.get? b = some o → b ∉ X.ex → b ∉ ch := fun b o e hx hb => by
    rcases (hch b hb).1 with z | z
    · exact hx z
    · exact absurd (Nat.lt_of_lt_of_le (Heap.lt_size e) z) (Nat.lt_irrefl _)
  have cellK : ∀ x c, X.env.cells.lookup x = some c → ∀ v, s.heap.IsCell c v → h'.IsCell c v := fun x c e v ⟨o, ho, hd⟩ => by
    have nch : c ∉ ch := fun z => (hch c z).2.2.1 x c e rfl
    by_cases hc : c ∈ X.fs
    · obtain ⟨sl, q⟩ := slot c o (I.cne x c e) hc nch ho (I.freeC x c e)
      exact ⟨_, q, hd⟩
    · exact ⟨o, keep c o (I.cne x c e) hc nch ho (I.freeC x c e), hd⟩
  refine ⟨I.ok, I.os, hg, ⟨fun b o e n hb hx => ?_, fun b o e n hb hx => ?_, fun b o e n hx => ?_, fun b o e hx => ?_, fun b xs e => tups b xs (I.base.tups b xs e), fun b o xs e => frzs b o xs (I.base.frzs b o xs e), fun b ps e => ?_⟩, ?_, fun x c e => ?_, ?_, fun x c e => ?_, fun p hp => ?_, hok, I.len⟩
  · exact keep b o (neL b o e) hb (neC b o e hx) (I.base.keep b o e n hb hx) (I.base.free b o e n hx)
  · obtain ⟨sl, e1⟩ := I.base.slot b o e n hb hx
    obtain ⟨sl', e2⟩ := slot b _ (neL b o e) hb (neC b o e hx) e1 (I.base.free b o e n hx)
    exact ⟨sl', e2⟩
  · obtain ⟨o', e1⟩ := I.base.there b o e hx
    exact free b o' (neC b o e hx) e1 (I.base.free b o e n hx)
  · obtain ⟨o', e1⟩ := I.base.there b o e hx
    exact there b o' (neC b o e hx) e1
  · obtain ⟨m1, e1⟩ := I.base.tbls b ps e
    obtain ⟨m2, e2⟩ := tbls b _ e1
    exact ⟨m1 ++ m2, by rw [e2, Array.append_assoc]⟩
  · obtain ⟨m, hn, hl⟩ := I.loc
    refine ⟨m, ns m hn, fun i x v e1 e2 e3 => ?_⟩
    obtain ⟨u, r, l⟩ := hl i x v e1 e2 e3
    refine ⟨u, r, ?_⟩
    rcases l with l | ⟨k, c, e, z⟩
    · exact .inl l
    · exact .inr ⟨k, c, e, cellK x c e _ z⟩
  · obtain ⟨v, z⟩ := I.cell x c e
    exact ⟨v, cellK x c e v z⟩
  · obtain ⟨m, ⟨o, _, _, ho, _⟩, _⟩ := I.loc
    exact free _ o (fun z => (hch _ z).2.1 rfl) ho I.free
  · obtain ⟨v, o, ho, hd⟩ := I.cell x c e
    exact free c o (fun z => (hch c z).2.2.1 x c e rfl) ho (I.freeC x c e)
  · obtain ⟨e, n, ne, nf, d⟩ := I.pin p hp
    have nch : p.1 ∉ ch := fun z => (hch p.1 z).2.2.2 p hp rfl
    exact ⟨keep p.1 p.2 ne nf nch e n, free p.1 p.2 nch e n, ne, nf, d⟩
theorem Inv.un {t' : Nat} (I : Inv X pins σ H s) (u : Un X.fs [] H H' s.heap h') (hok : HOk X.prog X.w H' h') : Inv X pins σ H' { s with heap := h', toks := t' } := by
  obtain ⟨m, ⟨o, es, ep, ho, r⟩, _⟩ := id I.loc
  obtain ⟨sl, hL⟩ := u.any ho I.free (by simp)
  exact I.step (g' := s.gens) (d' := s.drawn) (ch := []) (fun _ z => nomatch z) (fun b o _ hb _ e n => u.keep b o e n hb (by simp)) (fun b o _ hb _ e n => u.slot b o e n hb (by simp)) (fun b o _ e n => u.free b o e n (by simp)) (fun b o _ e => u.there b o e (by simp)) u.tups u.frzs u.tbls (fun m' hm => by
    obtain ⟨o', es', ep', ho', r'⟩ := hm
    rw [ho] at ho'; cases ho'
    exact ⟨_, es', ep', hL, r'⟩) hok I.bare
theorem Inv.call {g' : Array GenState} {t' : Nat} {d' : Drawn} {ch : List Addr} (I : Inv X pins σ H s) (u : Un (frs X.stack) ch H H' s.heap h') (hok : HOk X.prog X.w H' h') (hg : AllBare g')
    (hch : ∀ b ∈ ch, (b ∈ X.ex ∨ X.s₀.heap.objs.size ≤ b) ∧ b ≠ X.env.locals ∧ (∀ x c, X.env.cells.lookup x = some c → c ≠ b) ∧ ∀ p ∈ X.pn ++ pins, p.1 ≠ b) :
    Inv X pins σ H' { s with heap := h', gens := g', drawn := d', toks := t' } := by
  obtain ⟨m, ⟨o, es, ep, ho, r⟩, _⟩ := id I.loc
  obtain ⟨sl, hL⟩ := u.any ho I.free fun z => (hch _ z).2.1 rfl
  exact I.step (ch := ch) hch (fun b o hL hb hc e n => u.keep b o e n (fun z => (List.mem_cons.mp (I.stkSub b z)).elim hL hb) hc) (fun b o _ _ hc e n => u.any e n hc) (fun b o hc e n => u.free b o e n hc) (fun b o hc e => u.there b o e hc) u.tups u.frzs u.tbls (fun m' hm => by
    obtain ⟨o', es', ep', ho', r'⟩ := hm
    rw [ho] at ho'; cases ho'
    exact ⟨_, es', ep', hL, r'⟩) hok hg
theorem Inv.turned {t' : Nat} {it : Addr} (I : Inv X pins σ H s) (k : ∀ b o, b ≠ it → s.heap.get? b = some o → h'.get? b = some o) (hn : H it = none) (hL : it ≠ X.env.locals)
    (h1 : it ∈ X.ex ∨ X.s₀.heap.objs.size ≤ it) (h2 : ∀ x c, X.env.cells.lookup x = some c → c ≠ it) (h3 : ∀ p ∈ X.pn ++ pins, p.1 ≠ it) : Inv X pins σ H { s with heap := h', toks := t' } := by
  have nit : ∀ b u, H b = some u → b ≠ it := fun b u e z => by rw [z, hn] at e; cases e
  refine I.step (g' := s.gens) (d' := s.drawn) (ch := [it]) (fun b hb => ?_) (fun b o _ _ hc e _ => k b o (fun z => hc (by simp [z])) e) (fun b o _ _ hc e _ => ⟨o.slots, k b o (fun z => hc (by simp [z])) e⟩) (fun _ _ _ _ n => n)
    (fun b o hc e => ⟨o, k b o (fun z => hc (by simp [z])) e⟩) (fun _ _ e => e) (fun _ _ _ e => e) (fun b ps e => ⟨#[], by rw [e]; simp⟩) (fun m hm => ?_) (fun b u e => ?_) I.bare
  · have e : b = it := by simpa using hb
    subst e
    exact ⟨h1, hL, h2, h3⟩
  · obtain ⟨o, es, ep, ho, r⟩ := hm
    exact ⟨o, es, ep, k _ o (Ne.symm hL) ho, r⟩
  · refine (I.hok b u e).stay (fun c v hc q => k c v ?_ q) (fun _ q => q) fun _ _ q => q
    rcases hc with z | z
    · rw [z]; exact nit b u e
    · exact nit c _ z
theorem Inv.tok (I : Inv X pins σ H s) (t : Nat) : Inv X pins σ H { s with toks := t } := I.un (h' := s.heap) (t' := t) Un.refl I.hok
theorem Inv.kept {t' : Nat} (I : Inv X pins σ H s) (k : ∀ b u, s.heap.get? b = some u → h'.get? b = some u) : Inv X pins σ H { s with heap := h', toks := t' } := I.un (Un.kept k) (I.hok.kept k)
theorem Inv.laid {a : Addr} {o : HO} {t' : Nat} (I : Inv X pins σ H s) (k : ∀ b u, s.heap.get? b = some u → h'.get? b = some u) (hp : s.heap.objs.size ≤ a) (new : ObjOk X.prog X.w (upd H a o) h' a o) :
    Inv X pins σ (upd H a o) { s with heap := h', toks := t' } := I.un (Un.laid k hp (I.hok.fresh hp)) (I.hok.laid k hp new)
theorem Inv.write {x e : Addr} {o : HO} {t' : Nat} (I : Inv X pins σ H s) (mu : Mut (H x)) (he : e = x ∨ H e = some (.own x)) (k : ∀ b u, b ≠ e → s.heap.get? b = some u → h'.get? b = some u) (heo : ∃ u, h'.get? e = some u)
    (new : ObjOk X.prog X.w (upd H x o) h' x o) : Inv X pins σ (upd H x o) { s with heap := h', toks := t' } := I.un (Un.write mu he k heo) (I.hok.write mu he k heo new)
theorem Inv.pins_of {pins' : List (Addr × Obj)} (I : Inv X pins σ H s) (h : ∀ p ∈ pins', s.heap.get? p.1 = some p.2 ∧ H p.1 = none ∧ p.1 ≠ X.env.locals ∧ p.1 ∉ X.fs ∧ ∀ v, p.2.data ≠ .cell v) : Inv X pins' σ H s :=
  ⟨I.ok, I.os, I.bare, I.base, I.loc, I.cell, I.free, I.freeC, fun p hp => (List.mem_append.mp hp).elim (fun z => I.pin p (List.mem_append_left _ z)) (h p), I.hok, I.len⟩

theorem nodup_ix {N : List Str} (hN : N.Nodup) {i j : Nat} {x : Str} (a : N[i]? = some x) (b : N[j]? = some x) : i = j := by
  obtain ⟨h1, e1⟩ := List.getElem?_eq_some_iff.mp a
  obtain ⟨h2, e2⟩ := List.getElem?_eq_some_iff.mp b
  exact (List.getElem_inj hN).mp (e1.trans e2.symm)

theorem store_ok2 {M : Model} {A : Around} {E : Value → Shared → Prop} {i : Nat} {x : Str} {v : V} {u : Value} {Q : Unit → Shared → Prop} (I : Inv X pins σ H s) (hN : X.N.Nodup) (hi : X.N[i]? = some x) (hx : Loc X.env.scope x) (r : RelV v u)
    (h : ∀ s', Inv X pins (σ.set i (some v)) H s' → (∃ a, Heap.SameBut a s.heap s'.heap ∧ (a = X.env.locals ∨ X.env.cells.lookup x = some a)) → Q () s') (hf : X.fn x = true ∨ X.env.scope.names.lookup x = some .local := by first | exact .inl rfl | exact .inr rfl | assumption) : wpAny M A (storeName X.env x u) Q E s := by
  obtain ⟨m, hn, hl⟩ := id I.loc
  have hcls : (X.env.scope.kind == .class || (X.env.scope.kind == .module && X.env.locals != X.env.globals)) = false := by rw [I.ok.kind]; rfl
  have hiσ : i < σ.length := by rw [I.len]; exact (List.getElem?_eq_some_iff.mp hi).1
  have cne := I.cne
  have tracked : ∀ {a : Addr} {h' : Heap}, (∃ o, s.heap.get? a = some o ∧ H a = none) → Heap.SameBut a s.heap h' → HOk X.prog X.w H h' := fun {a h'} ha hs b ob e => by
    obtain ⟨_, _, hfree⟩ := ha
    refine (I.hok b ob e).stay (fun c w' hc q => (hs.2 c ?_).trans q) (fun _ q => q) fun _ _ q => q
    rintro rfl
    rcases hc with rfl | hc
    · rw [hfree] at e; cases e
    · rw [hfree] at hc; cases hc
  rcases hx with hk | hk
  · refine wpAny_storeName_local hk hn (fun h' hn' hs => ?_) hcls
    obtain ⟨oL, _, _, hoL, _⟩ := id hn
    refine h _ ⟨I.ok, I.os, I.bare, ⟨fun b o e n hb hx => ?_, fun b o e n hb hx => ?_, I.base.free, fun b o e hx => ?_, I.base.tups, I.base.frzs, I.base.tbls⟩, ⟨_, hn', fun j y v' e1 e2 e3 => ?_⟩, fun y c e => ?_, I.free, I.freeC, fun p hp => ?_, tracked ⟨oL, hoL, I.free⟩ hs, by simpa using I.len⟩ ⟨_, hs, .inl rfl⟩
    · exact (hs.2 b (Nat.ne_of_lt (Nat.lt_of_lt_of_le (Heap.lt_size e) I.ok.above))).trans (I.base.keep b o e n hb hx)
    · obtain ⟨sl, e1⟩ := I.base.slot b o e n hb hx
      exact ⟨sl, (hs.2 b (Nat.ne_of_lt (Nat.lt_of_lt_of_le (Heap.lt_size e) I.ok.above))).trans e1⟩
    · obtain ⟨o', e1⟩ := I.base.there b o e hx
      exact ⟨o', (hs.2 b (Nat.ne_of_lt (Nat.lt_of_lt_of_le (Heap.lt_size e) I.ok.above))).trans e1⟩
    · by_cases hj : j = i
      · subst hj
        rw [hi] at e1; cases e1
        rw [List.getElem?_set_self hiσ] at e2
        cases e2
        exact ⟨u, r, .inl ⟨hk, by simp⟩⟩
      · rw [List.getElem?_set_ne (Ne.symm hj)] at e2
        obtain ⟨u', r', q⟩ := hl j y v' e1 e2 e3
        refine ⟨u', r', ?_⟩
        rcases q with ⟨k, e⟩ | ⟨k, c, e, z⟩
        · refine .inl ⟨k, ?_⟩
          have : y ≠ x := fun e => hj (nodup_ix hN e1 (e ▸ hi))
          simp [this, e]
        · exact .inr ⟨k, c, e, z.sameBut hs (cne y c e)⟩
    · obtain ⟨w', z⟩ := I.cell y c e
      exact ⟨w', z.sameBut hs (cne y c e)⟩
    · obtain ⟨e, n, ne, nf, d⟩ := I.pin p hp
      exact ⟨(hs.2 p.1 ne).trans e, n, ne, nf, d⟩
  · have hfn : X.fn x = true := by
      rcases hf with z | z
      · exact z
      · rw [z] at hk; cases hk
    obtain ⟨c, hc⟩ := I.ok.has x (.inl hk)
    obtain ⟨w', z⟩ := I.cell x c hc
    refine wpAny_storeName_cell I.ok.kind hk hc z (fun h' hc' hs => ?_)
    obtain ⟨oc, hoc, hocd⟩ := id z
    refine h { s with heap := h' } ⟨I.ok, I.os, I.bare, ⟨fun b o e n hb hx => ?_, fun b o e n hb hx => ?_, I.base.free, fun b o e hx => ?_, I.base.tups, I.base.frzs, I.base.tbls⟩, ⟨m, hn.sameBut hs (Ne.symm (cne x c hc)), fun j y v' e1 e2 e3 => ?_⟩, fun y c' e => ?_, I.free, I.freeC, fun p hp => ?_, tracked ⟨oc, hoc, I.freeC x c hc⟩ hs, by simpa using I.len⟩ ⟨c, hs, .inr hc⟩
    · exact (hs.2 b (Nat.ne_of_lt (Nat.lt_of_lt_of_le (Heap.lt_size e) (I.ok.cab x c hfn hc)))).trans (I.base.keep b o e n hb hx)
    · obtain ⟨sl, e1⟩ := I.base.slot b o e n hb hx
      exact ⟨sl, (hs.2 b (Nat.ne_of_lt (Nat.lt_of_lt_of_le (Heap.lt_size e) (I.ok.cab x c hfn hc)))).trans e1⟩
    · obtain ⟨o', e1⟩ := I.base.there b o e hx
      exact ⟨o', (hs.2 b (Nat.ne_of_lt (Nat.lt_of_lt_of_le (Heap.lt_size e) (I.ok.cab x c hfn hc)))).trans e1⟩
    · by_cases hj : j = i
      · subst hj
        rw [hi] at e1; cases e1
        rw [List.getElem?_set_self hiσ] at e2
        cases e2
        exact ⟨u, r, .inr ⟨.inl hk, c, hc, hc'⟩⟩
      · rw [List.getElem?_set_ne (Ne.symm hj)] at e2
        obtain ⟨u', r', q⟩ := hl j y v' e1 e2 e3
        refine ⟨u', r', ?_⟩
        rcases q with q | ⟨k, c', e, z'⟩
        · exact .inl q
        · refine .inr ⟨k, c', e, z'.sameBut hs ?_⟩
          rintro rfl
          exact hj (nodup_ix hN e1 (I.ok.inj _ _ _ e hc ▸ hi))
    · by_cases hcc : c' = c
      · subst hcc; exact ⟨_, hc'⟩
      · obtain ⟨w2, z2⟩ := I.cell y c' e
        exact ⟨w2, z2.sameBut hs hcc⟩
    · obtain ⟨e, n, ne, nf, d⟩ := I.pin p hp
      refine ⟨(hs.2 p.1 ?_).trans e, n, ne, nf, d⟩
      intro q
      rw [q, hoc] at e
      have q' : oc = p.2 := Option.some.inj e
      exact d w' (by rw [← q']; exact hocd)
theorem store_ok {M : Model} {A : Around} {E : Value → Shared → Prop} {i : Nat} {x : Str} {v : V} {u : Value} {Q : Unit → Shared → Prop} (I : Inv X pins σ H s) (hN : X.N.Nodup) (hi : X.N[i]? = some x) (hx : Loc X.env.scope x) (r : RelV v u)
    (h : ∀ s', Inv X pins (σ.set i (some v)) H s' → Q () s') (hf : X.fn x = true ∨ X.env.scope.names.lookup x = some .local := by first | exact .inl rfl | exact .inr rfl | assumption) : wpAny M A (storeName X.env x u) Q E s :=
  store_ok2 I hN hi hx r (fun s' I' _ => h s' I') hf
theorem Inv.call' {s' : Shared} {ch : List Addr} (I : Inv X pins σ H s) (ho : s'.os = s.os) (u : Un (frs X.stack) ch H H' s.heap s'.heap) (hok : HOk X.prog X.w H' s'.heap) (hg : AllBare s'.gens)
    (hch : ∀ b ∈ ch, (b ∈ X.ex ∨ X.s₀.heap.objs.size ≤ b) ∧ b ≠ X.env.locals ∧ (∀ x c, X.env.cells.lookup x = some c → c ≠ b) ∧ ∀ p ∈ X.pn ++ pins, p.1 ≠ b) : Inv X pins σ H' s' := by
  obtain ⟨h', g', d', t', o'⟩ := s'
  have e : o' = s.os := ho
  subst e
  exact I.call (g' := g') (t' := t') (d' := d') u hok hg hch
end

abbrev XK := Value → Option Addr → Hp → Prop
abbrev St := List (Option V)
abbrev VK := V → Hp → Prop
abbrev TE := St → Hp → VK → Prop
abbrev TT := St → Hp → (Bool → Hp → Prop) → Prop
abbrev TA := St → Hp → (List V → Hp → Prop) → Prop
structure Ends where
  nx : St → Hp → Prop
  rt : VK
  bk : St → Hp → Prop := fun _ _ => False
  ct : St → Hp → Prop := fun _ _ => False
abbrev TS := Ends → St → Hp → Prop

def EP (X : Cx) (pins : List (Addr × Obj)) (σ : St) (Q : VK) (u : Value) (s' : Shared) : Prop := ∃ v H', Inv X pins σ H' s' ∧ RelV v u ∧ Q v H'
def TP (X : Cx) (pins : List (Addr × Obj)) (σ : St) (Q : Bool → Hp → Prop) (b : Bool) (s' : Shared) : Prop := ∃ H', Inv X pins σ H' s' ∧ Q b H'
def AP (X : Cx) (pins : List (Addr × Obj)) (σ : St) (Q : List V → Hp → Prop) (us : List Value) (s' : Shared) : Prop := ∃ vs H', Inv X pins σ H' s' ∧ Vals vs us ∧ Q vs H'
def SP (X : Cx) (pins : List (Addr × Obj)) (D : Ends) (f : Flow) (s' : Shared) : Prop :=
  match f with
  | .next => ∃ σ' H', Inv X pins σ' H' s' ∧ D.nx σ' H'
  | .brk => ∃ σ' H', Inv X pins σ' H' s' ∧ D.bk σ' H'
  | .cont => ∃ σ' H', Inv X pins σ' H' s' ∧ D.ct σ' H'
  | .ret u => ∃ v σ' H', Inv X pins σ' H' s' ∧ RelV v u ∧ D.rt v H'

def PE (X : Cx) (e : Expr) (t : TE) : Prop :=
  ∀ (pins : List (Addr × Obj)) (s : Shared) (σ : St) (H : Hp) (Q : VK), Inv X pins σ H s → t σ H Q → wpAny (model X.prog X.w) X.A (eval e X.env) (EP X pins σ Q) X.xe s
def PT (X : Cx) (e : Expr) (t : TT) : Prop :=
  ∀ (pins : List (Addr × Obj)) (s : Shared) (σ : St) (H : Hp) (Q : Bool → Hp → Prop), Inv X pins σ H s → t σ H Q → wpAny (model X.prog X.w) X.A (isTrue e X.env (eval e X.env)) (TP X pins σ Q) X.xe s
def PW (X : Cx) (e : Expr) (t : TT) : Prop :=
  ∀ (whole : Sem Value) (pins : List (Addr × Obj)) (s : Shared) (σ : St) (H : Hp) (Q : Bool → Hp → Prop), Inv X pins σ H s → t σ H Q → wpAny (model X.prog X.w) X.A (isTrue e X.env whole) (TP X pins σ Q) X.xe s
theorem PW.pt {X : Cx} {e : Expr} {t : TT} (h : PW X e t) : PT X e t := h _
def PA (X : Cx) (es : List Expr) (t : TA) : Prop :=
  ∀ (pos : Pos) (pins : List (Addr × Obj)) (s : Shared) (σ : St) (H : Hp) (Q : List V → Hp → Prop), Inv X pins σ H s → t σ H Q → wpAny (model X.prog X.w) X.A (spliced (backTo pos (starEach es X.env))) (AP X pins σ Q) X.xe s
def PS (X : Cx) (st : Stmt) (t : TS) : Prop :=
  ∀ (pins : List (Addr × Obj)) (s : Shared) (σ : St) (H : Hp) (D : Ends), Inv X pins σ H s → t D σ H → wpAny (model X.prog X.w) X.A (exec st X.env) (SP X pins D) X.xe s
def PSs (X : Cx) (st : List Stmt) (t : TS) : Prop :=
  ∀ (pins : List (Addr × Obj)) (s : Shared) (σ : St) (H : Hp) (D : Ends), Inv X pins σ H s → t D σ H → wpAny (model X.prog X.w) X.A (execs st X.env) (SP X pins D) X.xe s
theorem thn {α : Type} {t : Sem α} {Q Q' : α → Shared → Prop} {M : Model} {A : Around} {E : Value → Shared → Prop} {s : Shared} (h : wpAny M A t Q E s) (hQ : ∀ a s, Q a s → Q' a s) : wpAny M A t Q' E s := wpAny_mono h hQ fun _ _ x => x
end L2

namespace L2
open PySem PySem.Spec PyProof.Rows
section
variable {X : Cx}

def tVar (i : Nat) : TE := fun σ H Q => ∃ v, σ[i]? = some (some v) ∧ Q v H
def tC (v : V) : TE := fun _ H Q => Q v H
theorem pe_var {i : Nat} {x : Str} {pos : Pos} (hN : X.N[i]? = some x) (hv : Vis X.env.scope x) (hd : (x == ("__debug__" : Str)) = false := by decide) (hcd : (x == ("__classdict__" : Str)) = false := by decide) : PE X (.Name x pos) (tVar i) := by
  intro pins s σ H Q I h
  obtain ⟨v, e, h⟩ := h
  obtain ⟨m, hn, hl⟩ := I.loc
  obtain ⟨u, r, l⟩ := hl i x v hN e hv
  have fin : EP X pins σ Q u s := ⟨v, H, I, r, h⟩
  rcases l with ⟨hk, hm⟩ | ⟨hk, c, hc, hcell⟩
  · exact wpAny_Name (wpAny_loadName_local I.ok.kind hk hn hm fin) hd
  · rcases hk with hk | hk
    · exact wpAny_Name (wpAny_loadName_cell I.ok.kind hk hc hcell fin) hd
    · exact wpAny_Name (wpAny_loadName_free I.ok.kind hk hc hcell fin hcd) hd
theorem pe_int {i j pos} : PE X (.Constant (.int i) j pos) (tC (.int i)) := fun _ _ _ H _ I h => wpAny_Constant_int ⟨.int i, H, I.tok _, ⟨_, rfl⟩, h⟩
theorem pe_bl {b j pos} : PE X (.Constant (.bool b) j pos) (tC (.bl b)) := fun _ _ _ H _ I h => Constant_bool ⟨.bl b, H, I, rfl, h⟩
theorem pe_non {j pos} : PE X (.Constant .none j pos) (tC .non) := fun _ _ _ H _ I h => Constant_none ⟨.non, H, I, rfl, h⟩
theorem pe_str {x j pos} : PE X (.Constant (.str x) j pos) (tC (.str x)) := fun _ _ _ H _ I h => Calls.Constant_str ⟨.str x, H, I.tok _, ⟨_, rfl⟩, h⟩

def Gl (X : Cx) (x : Str) : Prop := X.env.kindOf x = some .globalImplicit
theorem ld_glob {E : Value → Shared → Prop} {pins : List (Addr × Obj)} {s : Shared} {σ : St} {H : Hp} {x : Str} {u : Value} {pos : Pos} {Q : Value → Shared → Prop} (I : Inv X pins σ H s) (hg : Gl X x) (hm : X.mg x = some u) (h : Q u s)
    (hd : (x == ("__debug__" : Str)) = false := by decide) : wpAny (model X.prog X.w) X.A (eval (.Name x pos) X.env) Q E s :=
  Calls.Name_function_global I.ok.kind hg (Calls.loadGlobal_global (by rw [I.ok.glob]; exact I.mod.glob.keeps I.bk) hm h) hd
theorem ld_blt {E : Value → Shared → Prop} {pins : List (Addr × Obj)} {s : Shared} {σ : St} {H : Hp} {x : Str} {u : Value} {pos : Pos} {Q : Value → Shared → Prop} (I : Inv X pins σ H s) (hg : Gl X x) (hm : X.mg x = none) (hv : bootBuiltins x = some u) (h : Q u s)
    (hn : x ≠ "__name__" := by decide) (hd : (x == ("__debug__" : Str)) = false := by decide) : wpAny (model X.prog X.w) X.A (eval (.Name x pos) X.env) Q E s := by
  obtain ⟨mb, h1, h2⟩ := I.mod.blt
  exact Calls.Name_function_global I.ok.kind hg (Calls.loadGlobal_builtin (by rw [I.ok.glob]; exact I.mod.glob.keeps I.bk) hm (by rw [I.ok.blt]; exact h1.keeps I.bk) ((h2 x hn).trans hv) h) hd
theorem pe_glob {x : Str} {v : V} {u : Value} {pos : Pos} (hg : Gl X x) (hm : X.mg x = some u) (r : RelV v u) (hd : (x == ("__debug__" : Str)) = false := by decide) : PE X (.Name x pos) (tC v) :=
  fun _ _ _ H _ I h => ld_glob I hg hm ⟨v, H, I, r, h⟩ hd
theorem pe_bltn {x : Str} {v : V} {u : Value} {pos : Pos} (hg : Gl X x) (hm : X.mg x = none) (hv : bootBuiltins x = some u) (r : RelV v u) (hn : x ≠ "__name__" := by decide) (hd : (x == ("__debug__" : Str)) = false := by decide) : PE X (.Name x pos) (tC v) :=
  fun _ _ _ H _ I h => ld_blt I hg hm hv ⟨v, H, I, r, h⟩ hn hd

variable {a b : Expr} {ta tb : TE} {pos : Pos}
def tB (t : TE) : TT := fun σ H Q => t σ H fun x H1 => ∃ c, x = .bl c ∧ Q c H1
theorem pt_val {e : Expr} {t : TE} (h : PE X e t) (he : ∀ whole, isTrue e X.env whole = (do let v ← whole; standAt e.pos; holding [v] (truthy v)) := by intro _; rfl) : PT X e (tB t) := by
  intro pins s σ H Q I hw
  refine isTrue_plain (thn (h pins s σ H _ I hw) fun v s1 ⟨x, H1, I1, r1, q1⟩ => ?_) (he _)
  obtain ⟨d, rfl, q⟩ := q1
  cases r1
  exact wpAny_truthy_bool ⟨H1, I1, q⟩

variable {tA tB' : TT} {rest : List Expr}
def tAnd (t u : TT) : TT := fun σ H Q => t σ H fun c H1 => if c = true then u σ H1 Q else Q false H1
def tOr (t u : TT) : TT := fun σ H Q => t σ H fun c H1 => if c = true then Q true H1 else u σ H1 Q
def tNot (t : TT) : TT := fun σ H Q => t σ H fun c H1 => Q (!c) H1
theorem pw_and1 (ha : PT X a tA) : PW X (.BoolOp .And [a] pos) tA := by
  intro wh pins s σ H Q I h
  refine isTrue_and (thn (ha pins s σ H Q I h) fun c s1 e => ?_)
  cases c with
  | true => exact isTrue_and_nil e
  | false => exact e
theorem pw_or1 (ha : PT X a tA) : PW X (.BoolOp .Or [a] pos) tA := by
  intro wh pins s σ H Q I h
  refine isTrue_or (thn (ha pins s σ H Q I h) fun c s1 e => ?_)
  cases c with
  | false => exact isTrue_or_nil e
  | true => exact e
theorem pw_and (ha : PT X a tA) (hb : PW X (.BoolOp .And (b :: rest) pos) tB') : PW X (.BoolOp .And (a :: b :: rest) pos) (tAnd tA tB') := by
  intro wh pins s σ H Q I h
  refine isTrue_and (thn (ha pins s σ H _ I h) fun c s1 ⟨H1, I1, q1⟩ => ?_)
  cases c with
  | true => exact hb wh pins s1 σ H1 Q I1 q1
  | false => exact ⟨H1, I1, q1⟩
theorem pw_or (ha : PT X a tA) (hb : PW X (.BoolOp .Or (b :: rest) pos) tB') : PW X (.BoolOp .Or (a :: b :: rest) pos) (tOr tA tB') := by
  intro wh pins s σ H Q I h
  refine isTrue_or (thn (ha pins s σ H _ I h) fun c s1 ⟨H1, I1, q1⟩ => ?_)
  cases c with
  | true => exact ⟨H1, I1, q1⟩
  | false => exact hb wh pins s1 σ H1 Q I1 q1
theorem pt_not (ha : PT X a tA) : PT X (.UnaryOp .Not a pos) (tNot tA) := by
  intro pins s σ H Q I h
  exact isTrue_not (ha pins s σ H (fun c H1 => Q (!c) H1) I h)
end
end L2

namespace L2
open PySem PySem.Spec PyProof.Rows

def SqL (K : PySem.W.Frag) (H : Hp) (a : Addr) (xs : List V) : Prop :=
  Rd H a (.lst xs) ∨
    ∃ (o : Obj) (its : Array Value) (n : Nat), K.lookup a = some o ∧ o.cls = .type "list" ∧ o.dict = none ∧ o.data = .seq its n ∧ its.size ≤ sizeLine ∧ Vals xs its.toList
def SqT (K : PySem.W.Frag) (H : Hp) (a : Addr) (xs : List V) : Prop :=
  Rd H a (.tup xs) ∨
    ∃ (o : Obj) (its : Array Value) (n : Nat), K.lookup a = some o ∧ o.cls = .type "tuple" ∧ o.data = .seq its n ∧ its.size ≤ sizeLine ∧ Vals xs its.toList
def absV : Value → Option V
  | .none => some .non
  | .bool b => some (.bl b)
  | .int i _ => some (.int i)
  | .str x _ => some (.str x)
  | .bytes b _ => some (.byt b)
  | .float b _ => some (.flt b)
  | .ref a => some (.ref a)
  | .type n => some (.ty n)
  | _ => none
theorem RelV.abs {x : V} {u : Value} (r : RelV x u) : absV u = some x := by
  cases x with
  | non => cases r; rfl
  | bl _ => cases r; rfl
  | int _ => obtain ⟨t, rfl⟩ := r; rfl
  | str _ => obtain ⟨t, rfl⟩ := r; rfl
  | byt _ => obtain ⟨t, rfl⟩ := r; rfl
  | flt _ => obtain ⟨t, rfl⟩ := r; rfl
  | ref _ => cases r; rfl
  | ty _ => cases r; rfl
theorem RelV.inj {x y : V} {u : Value} (r : RelV x u) (q : RelV y u) : x = y := Option.some.inj (r.abs.symm.trans q.abs)
theorem Vals.inj : ∀ {xs ys : List V} {us : List Value}, Vals xs us → Vals ys us → xs = ys
  | _, _, _, .nil, .nil => rfl
  | _, _, _, .cons r t, .cons r' t' => by rw [r.inj r', Vals.inj t t']
section
variable {X : Cx} {pins : List (Addr × Obj)} {σ : St} {H : Hp} {s : Shared} {a : Addr} {xs ys : List V}
theorem SqL.of {K : PySem.W.Frag} (h : H a = some (.lst xs)) : SqL K H a xs := .inl (.inl h)
theorem SqT.of {K : PySem.W.Frag} (h : H a = some (.tup xs)) : SqT K H a xs := .inl (.inl h)
theorem Inv.list (I : Inv X pins σ H s) (h : SqL X.K H a xs) : ∃ its : List Value, Vals xs its ∧ PlainL s.heap a its.toArray ∧ xs.length ≤ sizeLine := by
  rcases h with h | ⟨o, its, n, hk, hc, hd, hs, hz, r⟩
  · obtain ⟨z, its, n, r, e⟩ := h.ok I.hok
    exact ⟨its, r, ⟨_, n, e, rfl, rfl, rfl⟩, z⟩
  · refine ⟨its.toList, r, ⟨o, n, I.kIn a o hk, hc, hd, by simpa using hs⟩, ?_⟩
    have e := r.length
    simp only [Array.length_toList] at e
    omega
theorem Inv.tuple (I : Inv X pins σ H s) (h : SqT X.K H a xs) : ∃ its : List Value, Vals xs its ∧ IsTup s.heap a its.toArray ∧ xs.length ≤ sizeLine := by
  rcases h with h | ⟨o, its, n, hk, hc, hs, hz, r⟩
  · obtain ⟨z, its, r, p⟩ := h.ok I.hok
    exact ⟨its, r, p, z⟩
  · refine ⟨its.toList, r, ⟨o, I.kIn a o hk, hc, n, by simpa using hs⟩, ?_⟩
    have e := r.length
    simp only [Array.length_toList] at e
    omega
theorem Inv.list_inj (I : Inv X pins σ H s) (h : SqL X.K H a xs) (h' : SqL X.K H a ys) : xs = ys := by
  obtain ⟨its, r, ⟨o, n, e, _, _, d⟩, _⟩ := I.list h
  obtain ⟨its', r', ⟨o', n', e', _, _, d'⟩, _⟩ := I.list h'
  rw [e] at e'; cases e'
  rw [d] at d'
  injection d' with d1 _
  have : its = its' := by simpa using congrArg Array.toList d1
  subst this
  exact r.inj r'
theorem Inv.tuple_inj (I : Inv X pins σ H s) (h : SqT X.K H a xs) (h' : SqT X.K H a ys) : xs = ys := by
  obtain ⟨its, r, ⟨o, e, _, n, d⟩, _⟩ := I.tuple h
  obtain ⟨its', r', ⟨o', e', _, n', d'⟩, _⟩ := I.tuple h'
  rw [e] at e'; cases e'
  rw [d] at d'
  injection d' with d1 _
  have : its = its' := by simpa using congrArg Array.toList d1
  subst this
  exact r.inj r'
end

abbrev Cx.wish (X : Cx) (E : Value → Shared → Prop) : Cx := { X with xe := E }
abbrev Cx.nox (X : Cx) : Cx := X.wish fun _ _ => False
theorem Cx.Ok.wish {X : Cx} (ok : X.Ok) (E : Value → Shared → Prop) : (X.wish E).Ok :=
  ⟨ok.mod, ok.kind, ok.glob, ok.blt, ok.above, ok.inj, ok.has, ok.cab, ok.hd, ok.frames, ok.stk, ok.exf, ok.bs, ok.bsz, ok.noex, ok.exfs, ok.funs, ok.frf⟩
theorem Cx.Ok.unwish {X : Cx} {E : Value → Shared → Prop} (ok : (X.wish E).Ok) : X.Ok :=
  ⟨ok.mod, ok.kind, ok.glob, ok.blt, ok.above, ok.inj, ok.has, ok.cab, ok.hd, ok.frames, ok.stk, ok.exf, ok.bs, ok.bsz, ok.noex, ok.exfs, ok.funs, ok.frf⟩
section
variable {X : Cx} {pins : List (Addr × Obj)} {σ : St} {H : Hp} {s : Shared} {E : Value → Shared → Prop}
theorem Inv.wish (I : Inv X pins σ H s) (E : Value → Shared → Prop) : Inv (X.wish E) pins σ H s := ⟨I.ok.wish E, I.os, I.bare, I.base, I.loc, I.cell, I.free, I.freeC, I.pin, I.hok, I.len⟩
theorem Inv.unwish (I : Inv (X.wish E) pins σ H s) : Inv X pins σ H s := ⟨I.ok.unwish, I.os, I.bare, I.base, I.loc, I.cell, I.free, I.freeC, I.pin, I.hok, I.len⟩
theorem SP.unwish {D : Ends} {f : Flow} {s' : Shared} (h : SP (X.wish E) pins D f s') : SP X pins D f s' := by
  cases f with
  | next => obtain ⟨σ', H', I, q⟩ := h; exact ⟨σ', H', I.unwish, q⟩
  | brk => obtain ⟨σ', H', I, q⟩ := h; exact ⟨σ', H', I.unwish, q⟩
  | cont => obtain ⟨σ', H', I, q⟩ := h; exact ⟨σ', H', I.unwish, q⟩
  | ret u => obtain ⟨v, σ', H', I, r, q⟩ := h; exact ⟨v, σ', H', I.unwish, r, q⟩
theorem PE.nox {e : Expr} {t : TE} (h : PE X.nox e t) : PE X e t := fun pins s σ H Q I hw =>
  wpAny_mono (h pins s σ H Q (I.wish _) hw) (fun _ _ ⟨v, H', I', r, q⟩ => ⟨v, H', I'.unwish, r, q⟩) fun _ _ z => False.elim z
theorem PT.nox {e : Expr} {t : TT} (h : PT X.nox e t) : PT X e t := fun pins s σ H Q I hw =>
  wpAny_mono (h pins s σ H Q (I.wish _) hw) (fun _ _ ⟨H', I', q⟩ => ⟨H', I'.unwish, q⟩) fun _ _ z => False.elim z
theorem PSs.nox {st : List Stmt} {t : TS} (h : PSs X.nox st t) : PSs X st t := fun pins s σ H D I hw =>
  wpAny_mono (h pins s σ H D (I.wish _) hw) (fun _ _ q => q.unwish) fun _ _ z => False.elim z
end

section
variable {X : Cx} {st : Stmt} {rest : List Stmt} {t u : TS} {e : Expr} {te : TE} {pos : Pos}
def tNext : TS := fun D σ H => D.nx σ H
def tSeq (t u : TS) : TS := fun D σ H => t { D with nx := u D } σ H
theorem pss_nil : PSs X [] tNext := fun _ _ σ H _ I h => wpAny_execs_nil ⟨σ, H, I, h⟩
theorem pss_cons (h1 : PS X st t) (h2 : PSs X rest u) : PSs X (st :: rest) (tSeq t u) := by
  intro pins s σ H D I h
  refine wpAny_execs_cons (thn (h1 pins s σ H { D with nx := u D } I h) fun f s1 q => ?_)
  cases f with
  | next =>
    obtain ⟨σ', H', I', q⟩ := q
    exact h2 pins s1 σ' H' D I' q
  | ret v => exact q
  | brk => exact q
  | cont => exact q
theorem pss_one (h1 : PS X st t) : PSs X [st] t := by
  intro pins s σ H D I h
  refine wpAny_execs_cons (thn (h1 pins s σ H D I h) fun f s1 q => ?_)
  cases f with
  | next => exact wpAny_execs_nil q
  | ret v => exact q
  | brk => exact q
  | cont => exact q
theorem Inv.quiet {pins : List (Addr × Obj)} {σ : St} {H : Hp} {s : Shared} (I : Inv X pins σ H s) : interactive X.env = false := by simp [interactive, I.ok.kind]
def tDrop (te : TE) : TS := fun D σ H => te σ H fun _ H1 => D.nx σ H1
theorem ps_expr (he : PE X e te) (hs : swapsWith e none pos.line X.env = pure false := by rfl) : PS X (.Expr e pos) (tDrop te) := by
  intro pins s σ H D I h
  exact wpAny_Expr_any (thn (he pins s σ H _ I h) fun v s1 ⟨x, H1, I1, r1, q1⟩ => ⟨σ, H1, I1, q1⟩) I.quiet hs
def tRet (te : TE) : TS := fun D σ H => te σ H D.rt
theorem ps_ret (he : PE X e te) : PS X (.Return (some e) pos) (tRet te) := by
  intro pins s σ H D I h
  exact wpAny_Return_some (thn (he pins s σ H _ I h) fun v s1 ⟨x, H1, I1, r1, q1⟩ => ⟨x, σ, H1, I1, r1, q1⟩)
def tIfS (c : TT) (t u : TS) : TS := fun D σ H => c σ H fun b H1 => if b = true then t D σ H1 else u D σ H1
theorem ps_if {c : Expr} {a b : List Stmt} {tc : TT} (hc : PT X c tc) (ha : PSs X a t) (hb : PSs X b u) : PS X (.If c a b pos) (tIfS tc t u) := by
  intro pins s σ H D I h
  refine wpAny_If (thn (hc pins s σ H _ I h) fun d s1 ⟨H1, I1, q1⟩ => ?_)
  cases d with
  | true => exact ha pins s1 σ H1 D I1 q1
  | false => exact hb pins s1 σ H1 D I1 q1
def tNever : TS := fun _ _ _ => False
theorem ps_never : PS X st tNever := fun _ _ _ _ _ _ h => h.elim
end

abbrev TG := V → St → Hp → (St → Hp → Prop) → Prop
abbrev TGs := List V → St → Hp → (St → Hp → Prop) → Prop
def PG (X : Cx) (target : Expr) (t : TG) : Prop :=
  ∀ (pins : List (Addr × Obj)) (s : Shared) (σ : St) (H : Hp) (v : V) (u : Value) (Q : St → Hp → Prop), Inv X pins σ H s → RelV v u → t v σ H Q →
    wpAny (model X.prog X.w) X.A (assign target X.env u) (fun _ s' => ∃ σ' H', Inv X pins σ' H' s' ∧ Q σ' H') X.xe s
def PGs (X : Cx) (ts : List Expr) (t : TGs) : Prop :=
  ∀ (pins : List (Addr × Obj)) (s : Shared) (σ : St) (H : Hp) (vs : List V) (us : List Value) (Q : St → Hp → Prop), Inv X pins σ H s → Vals vs us → t vs σ H Q →
    wpAny (model X.prog X.w) X.A (assignInOrder ((assignEach ts X.env).map (·.2)) us) (fun _ s' => ∃ σ' H', Inv X pins σ' H' s' ∧ Q σ' H') X.xe s
section
variable {X : Cx} {pos : Pos}
def gName (i : Nat) : TG := fun v σ H Q => Q (σ.set i (some v)) H
theorem pg_name {i : Nat} {x : Str} (hN : X.N.Nodup) (hi : X.N[i]? = some x) (hx : Loc X.env.scope x) (hf : X.fn x = true ∨ X.env.scope.names.lookup x = some .local := by first | exact .inl rfl | exact .inr rfl | assumption) : PG X (.Name x pos) (gName i) := by
  intro pins s σ H v u Q I r h
  exact wpAny_assign_Name (store_ok I hN hi hx r (fun s' I' => ⟨_, H, I', h⟩) hf)
def tAsg (te : TE) (g : TG) : TS := fun D σ H => te σ H fun x H1 => g x σ H1 D.nx
theorem ps_set {i : Nat} {x : Str} {e : Expr} {te : TE} {pos' : Pos} (hN : X.N.Nodup) (hi : X.N[i]? = some x) (hx : Loc X.env.scope x) (he : PE X e te) (hs : swapsWith e (some (.Name x pos')) pos.line X.env = pure false := by rfl) (hf : X.fn x = true ∨ X.env.scope.names.lookup x = some .local := by first | exact .inl rfl | exact .inr rfl | assumption) :
    PS X (.Assign [.Name x pos'] e pos) (tAsg te (gName i)) := by
  intro pins s σ H D I h
  refine wpAny_Assign_Name (thn (he pins s σ H _ I h) fun v s1 ⟨y, H1, I1, r1, q1⟩ => ?_) hs
  exact store_ok I1 hN hi hx r1 (fun s2 I2 => ⟨_, H1, I2, q1⟩) hf
end

section
variable {X : Cx} {pos : Pos}
def tWhile (c : TT) (tb : TS) : TS := fun D σ H => ∃ W : Nat → St → Hp → Prop, (∃ m, W m σ H) ∧ ∀ m σ H, W m σ H →
  c σ H fun b H1 => if b = true then ∃ N : St → Hp → Prop, (∀ σ' H', N σ' H' → ∃ m', m' < m ∧ W m' σ' H') ∧ tb { D with nx := N, ct := N, bk := D.nx } σ H1 else D.nx σ H1
theorem ps_while {c : Expr} {body : List Stmt} {tc : TT} {tb : TS} (hp : PassesOwn (model X.prog X.w) X.A X.env X.xe) (hc : PT X c tc) (hb : PSs X body tb) : PS X (.While c body [] pos) (tWhile tc tb) := by
  intro pins s σ H D I h
  obtain ⟨W, ⟨m0, w0⟩, turn⟩ := h
  refine wpAny_While (codeAny_whileLoop (fun n s' => ∃ σ' H', Inv X pins σ' H' s' ∧ W n σ' H') ?_ m0 ⟨σ, H, I, w0⟩)
  rintro n s1 ⟨σ1, H1, I1, w1⟩
  refine wpAny_passesOwn hp (thn (hc pins s1 σ1 H1 _ I1 (turn n σ1 H1 w1)) fun b s2 ⟨H2, I2, q2⟩ => ?_)
  cases b with
  | true =>
    obtain ⟨N, hN, q2⟩ := q2
    rw [if_pos rfl]
    refine wpAny_passesOwn hp (thn (hb pins s2 σ1 H2 _ I2 q2) fun f s3 q3 => ?_)
    cases f with
    | next =>
      obtain ⟨σ3, H3, I3, n3⟩ := q3
      obtain ⟨m', hm, w3⟩ := hN σ3 H3 n3
      exact ⟨m', hm, σ3, H3, I3, w3⟩
    | cont =>
      obtain ⟨σ3, H3, I3, n3⟩ := q3
      obtain ⟨m', hm, w3⟩ := hN σ3 H3 n3
      exact ⟨m', hm, σ3, H3, I3, w3⟩
    | brk => exact q3
    | ret v => exact q3
  | false =>
    rw [if_neg Bool.false_ne_true]
    exact wpAny_execs_nil ⟨σ1, H2, I2, q2⟩
end

structure It where
  go : Nat → Hp → Prop
  yld : Nat → Hp → V → Hp → Prop
  stop : Nat → Hp → Prop
def FpOk (X : Cx) (pins : List (Addr × Obj)) (H : Hp) (b : Addr) : Prop :=
  H b = none ∧ b ≠ X.env.locals ∧ b ∉ X.fs ∧ (b ∈ X.ex ∨ X.s₀.heap.objs.size ≤ b) ∧ (∀ x c, X.env.cells.lookup x = some c → c ≠ b) ∧ ∀ p ∈ X.pn ++ pins, p.1 ≠ b
theorem Inv.fpOk {X : Cx} {pins : List (Addr × Obj)} {σ : St} {H H' : Hp} {s : Shared} {b : Addr} (I : Inv X pins σ H s) (hb : s.heap.objs.size ≤ b) (hn : H' b = none) : FpOk X pins H' b := by
  refine ⟨hn, Nat.ne_of_gt (Nat.lt_of_lt_of_le I.lt hb), I.nofs hb, .inr (Nat.le_trans I.sz hb), fun x c e z => ?_, fun p hp z => ?_⟩
  · obtain ⟨v, q⟩ := I.cell x c e
    exact absurd (Nat.lt_of_lt_of_le q.lt (by rw [z]; exact hb)) (Nat.lt_irrefl _)
  · exact absurd (Nat.lt_of_lt_of_le (Heap.lt_size (I.pin p hp).1) (by rw [z]; exact hb)) (Nat.lt_irrefl _)
structure Turn (P : Program) (w : World) (K : PySem.W.Frag) (tg : Expr) (J : It) (fp : List Addr) (it : Addr) (tn : Nat → Heap → Prop) : Prop where
  mem : it ∈ fp
  obj : ∀ i h, tn i h → ∀ b ∈ fp, ∃ o, h.get? b = some o ∧ ∀ v, o.data ≠ .cell v
  keep : ∀ i h h', tn i h → (∀ b ∈ fp, ∀ o, h.get? b = some o → h'.get? b = some o) → tn i h'
  item : ∀ (X : Cx), X.prog = P → X.w = w → X.K = K → X.calm = true → ∀ (i : Nat) (pins : List (Addr × Obj)) (s : Shared) (σ : St) (H : Hp) (E : Value → Shared → Prop), Inv X pins σ H s → (∀ b ∈ fp, FpOk X pins H b) → tn i s.heap → J.go i H →
    wpAny (model P w) X.A (pyNext (.ref it)) (fun r s1 => ∃ u, r = some u ∧
      wpAny (model P w) X.A (letOwnedTupleGo tg (.ref it) u) (fun _ s2 => ∃ x H', Inv X pins σ H' s2 ∧ RelV x u ∧ J.yld i H x H' ∧ tn (i + 1) s2.heap ∧ ∀ b ∈ fp, H' b = none) E s1) E s
  done : ∀ (X : Cx), X.prog = P → X.w = w → X.K = K → X.calm = true → ∀ (i : Nat) (pins : List (Addr × Obj)) (s : Shared) (σ : St) (H : Hp) (E : Value → Shared → Prop), Inv X pins σ H s → (∀ b ∈ fp, FpOk X pins H b) → tn i s.heap → J.stop i H →
    wpAny (model P w) X.A (pyNext (.ref it)) (fun r s1 => r = none ∧ Inv X pins σ H s1) E s
  self : ∀ (A : Around) (i : Nat) (s : Shared) (Q : Value → Shared → Prop) (E : Value → Shared → Prop), tn i s.heap → Q (.ref it) s → wpAny (model P w) A (pyIter (.ref it)) Q E s
abbrev TI := St → Hp → (It → Hp → Prop) → Prop
def PIE (X : Cx) (pins : List (Addr × Obj)) (σ : St) (tg : Expr) (R : It → Hp → Prop) (itv : Value) (s2 : Shared) : Prop :=
  ∃ (it : Addr) (fp : List Addr) (tn : Nat → Heap → Prop) (J : It) (H' : Hp), itv = .ref it ∧ Inv X pins σ H' s2 ∧ Turn X.prog X.w X.K tg J fp it tn ∧ tn 0 s2.heap ∧ (∀ b ∈ fp, FpOk X pins H' b) ∧ R J H'
def PI (X : Cx) (tg iter : Expr) (wi : TI) : Prop :=
  ∀ (pins : List (Addr × Obj)) (s : Shared) (σ : St) (H : Hp) (R : It → Hp → Prop), Inv X pins σ H s → wi σ H R →
    wpAny (model X.prog X.w) X.A (eval iter X.env) (fun v s1 => wpAny (model X.prog X.w) X.A (pyIter v) (PIE X pins σ tg R) X.xe s1) X.xe s

theorem go_of {M : Model} {A : Around} {E : Value → Shared → Prop} {s : Shared} {tg : Expr} {it : Addr} {u : Value} {o : Obj} {n : String} {vs : Array Value} {Q : Unit → Shared → Prop} (ho : s.heap.get? it = some o) (hc : o.cls = .type n) (hd : o.data = .fields vs)
    (hn : ["enumerate", "zip", "dict_itemiterator", "dict_reverseitemiterator", "odict_iterator", "itertools.zip_longest", "itertools.pairwise"].contains n = false) (hQ : Q () s) : wpAny M A (letOwnedTupleGo tg (.ref it) u) Q E s := by
  unfold letOwnedTupleGo
  cases tg <;> first
    | exact wpAny_pure hQ
    | (cases u <;> first
        | exact wpAny_pure hQ
        | (refine wpAny_bind (wpAny_load ho ?_)
           rw [hc, hd]
           show wpAny M A (if (["enumerate", "zip", "dict_itemiterator", "dict_reverseitemiterator", "odict_iterator", "itertools.zip_longest", "itertools.pairwise"].contains n && vs[0]? == some (rawInt _)) = true then _ else _) Q E s
           rw [if_neg (by intro h; rw [hn, Bool.false_and] at h; cases h)]
           exact wpAny_pure hQ))

def Itl (K : PySem.W.Frag) (a : Addr) : It :=
  ⟨fun i H => ∃ xs x, SqL K H a xs ∧ xs[i]? = some x, fun i H x H' => H' = H ∧ ∀ xs, SqL K H a xs → xs[i]? = some x, fun i H => ∃ xs, SqL K H a xs ∧ xs.length ≤ i⟩
def Itt (K : PySem.W.Frag) (a : Addr) : It :=
  ⟨fun i H => ∃ xs x, SqT K H a xs ∧ xs[i]? = some x, fun i H x H' => H' = H ∧ ∀ xs, SqT K H a xs → xs[i]? = some x, fun i H => ∃ xs, SqT K H a xs ∧ xs.length ≤ i⟩
def Itr (lo : Int) (n : Nat) : It := ⟨fun i _ => i < n, fun i H x H' => H' = H ∧ x = .int (lo + i), fun i _ => n ≤ i⟩
theorem turn_list {P : Program} {w : World} {K : PySem.W.Frag} {tg : Expr} (a it : Addr) : Turn P w K tg (Itl K a) [it] it (fun i h => h.IsListIter it a i) where
  mem := by simp
  obj := fun i h st b hb => by
    have e : b = it := by simpa using hb
    subst e
    obtain ⟨o, e, c, d⟩ := st
    exact ⟨o, e, fun v z => by rw [d] at z; cases z⟩
  keep := fun i h h' st k => st.at fun o e => k it (by simp) o e
  item := by
    intro X hP hw hK hc i pins s σ H E I hf st hg
    subst hP hw hK
    obtain ⟨xs, x, hq, hx⟩ := hg
    obtain ⟨its, rv, p, hz⟩ := I.list hq
    obtain ⟨u, hu, ru⟩ := rv.get hx
    obtain ⟨f0, f1, f2, f3, f4, f5⟩ := hf it (by simp)
    refine wpAny_pyNext_list_item st p.isList (x := u) (by simpa using hu) fun h' st' sb => ?_
    have I1 : Inv X pins σ H { s with heap := h' } := I.turned (t' := s.toks) (fun b o hb e => (sb.2 b hb).trans e) f0 f1 f3 f4 f5
    obtain ⟨o, e, c, d⟩ := id st'
    exact ⟨u, rfl, go_of (s := { s with heap := h' }) e c d (by decide) ⟨x, H, I1, ru, ⟨rfl, fun ys hy => by rw [I.list_inj hy hq]; exact hx⟩, st', fun b hb => (hf b hb).1⟩⟩
  done := by
    intro X hP hw hK hc i pins s σ H E I hf st hg
    subst hP hw hK
    obtain ⟨xs, hq, hx⟩ := hg
    obtain ⟨its, rv, p, hz⟩ := I.list hq
    obtain ⟨f0, f1, f2, f3, f4, f5⟩ := hf it (by simp)
    have hl := rv.length
    exact wpAny_pyNext_list_end (I.ok.hd hc) st p.isList (by simp; omega) fun h' eb => ⟨rfl, I.turned (t' := s.toks) (fun b o hb e => eb b o hb e) f0 f1 f3 f4 f5⟩
  self := fun _ _ _ _ _ st h => wpAny_pyIter_listiter st h
theorem turn_tuple {P : Program} {w : World} {K : PySem.W.Frag} {tg : Expr} (a it : Addr) : Turn P w K tg (Itt K a) [it] it (fun i h => h.IsTupleIter it a i) where
  mem := by simp
  obj := fun i h st b hb => by
    have e : b = it := by simpa using hb
    subst e
    obtain ⟨o, e, c, d⟩ := st
    exact ⟨o, e, fun v z => by rw [d] at z; cases z⟩
  keep := fun i h h' st k => st.at fun o e => k it (by simp) o e
  item := by
    intro X hP hw hK hc i pins s σ H E I hf st hg
    subst hP hw hK
    obtain ⟨xs, x, hq, hx⟩ := hg
    obtain ⟨its, rv, p, hz⟩ := I.tuple hq
    obtain ⟨u, hu, ru⟩ := rv.get hx
    obtain ⟨f0, f1, f2, f3, f4, f5⟩ := hf it (by simp)
    refine wpAny_pyNext_tuple_item st (show s.heap.IsTuple a its.toArray from p) (x := u) (by simpa using hu) fun h' st' sb => ?_
    have I1 : Inv X pins σ H { s with heap := h' } := I.turned (t' := s.toks) (fun b o hb e => (sb.2 b hb).trans e) f0 f1 f3 f4 f5
    obtain ⟨o, e, c, d⟩ := id st'
    exact ⟨u, rfl, go_of (s := { s with heap := h' }) e c d (by decide) ⟨x, H, I1, ru, ⟨rfl, fun ys hy => by rw [I.tuple_inj hy hq]; exact hx⟩, st', fun b hb => (hf b hb).1⟩⟩
  done := by
    intro X hP hw hK hc i pins s σ H E I hf st hg
    subst hP hw hK
    obtain ⟨xs, hq, hx⟩ := hg
    obtain ⟨its, rv, p, hz⟩ := I.tuple hq
    obtain ⟨f0, f1, f2, f3, f4, f5⟩ := hf it (by simp)
    have hl := rv.length
    exact wpAny_pyNext_tuple_end (I.ok.hd hc) st (show s.heap.IsTuple a its.toArray from p) (by simp; omega) fun h' eb => ⟨rfl, I.turned (t' := s.toks) (fun b o hb e => eb b o hb e) f0 f1 f3 f4 f5⟩
  self := fun _ _ _ _ _ st h => wpAny_pyIter_tupleiter st h
theorem turn_range {P : Program} {w : World} {K : PySem.W.Frag} {tg : Expr} (it : Addr) (lo : Int) (n : Nat) : Turn P w K tg (Itr lo n) [it] it (fun i h => IsRangeIter h it (lo + (i : Nat) * 1) ((n : Int) - (i : Nat)) 1) where
  mem := by simp
  obj := fun i h st b hb => by
    have e : b = it := by simpa using hb
    subst e
    exact ⟨_, st, fun v z => by
      have z' : Data.fields _ = Data.cell v := z
      cases z'⟩
  keep := fun i h h' st k => k it (by simp) _ st
  item := by
    intro X hP hw hK hc i pins s σ H E I hf st hg
    subst hP hw hK
    obtain ⟨f0, f1, f2, f3, f4, f5⟩ := hf it (by simp)
    have W := Walks.range (prog := X.prog) (w := X.w) (I.ok.hd hc) it lo 1 n
    refine W.item i s _ _ hg st fun v h' tk hv st' kk => ?_
    obtain ⟨t, rfl⟩ := hv
    have I1 : Inv X pins σ H { s with heap := h', toks := tk } := I.turned (fun b o hb e => kk b o (by simpa using hb) e) f0 f1 f3 f4 f5
    refine ⟨_, rfl, go_of (s := { s with heap := h', toks := tk }) (n := "range_iterator") st' rfl rfl (by decide) ⟨.int (lo + i), H, I1, ⟨t, ?_⟩, ⟨rfl, rfl⟩, st', fun b hb => (hf b hb).1⟩⟩
    rw [Int.mul_one]
  done := by
    intro X hP hw hK hc i pins s σ H E I hf st hg
    subst hP hw hK
    obtain ⟨f0, f1, f2, f3, f4, f5⟩ := hf it (by simp)
    exact wpAny_pyNext_range_end (I.ok.hd hc) st (by have : n ≤ i := hg; omega) fun h' eb => ⟨rfl, I.turned (t' := s.toks) (fun b o hb e => eb b o hb e) f0 f1 f3 f4 f5⟩
  self := fun _ _ _ _ _ st h => wpAny_pyIter_rangeiter st h
end L2

namespace L2
open PySem PySem.Spec PyProof.Rows
section
variable {X : Cx} {tg : Expr}
def iList (K : PySem.W.Frag) (tl : TE) : TI := fun σ H R => tl σ H fun x H1 => ∃ a, x = .ref a ∧ (∃ xs, SqL K H1 a xs) ∧ R (Itl K a) H1
def iTup (K : PySem.W.Frag) (tl : TE) : TI := fun σ H R => tl σ H fun x H1 => ∃ a, x = .ref a ∧ (∃ xs, SqT K H1 a xs) ∧ R (Itt K a) H1
theorem pi_list {l : Expr} {tl : TE} (hl : PE X l tl) : PI X tg l (iList X.K tl) := by
  intro pins s σ H R I h
  refine thn (hl pins s σ H _ I h) fun v s1 ⟨x, H1, I1, r1, q1⟩ => ?_
  obtain ⟨a, e, ⟨xs, hq⟩, q⟩ := q1
  subst e
  cases r1
  obtain ⟨its, rv, p, hz⟩ := I1.list hq
  refine wpAny_pyIter_list p.isList ?_
  refine ⟨s1.heap.objs.size, [s1.heap.objs.size], _, _, H1, rfl, I1.kept (t' := s1.toks) fun b o e => Heap.get?_push_of_some _ e, turn_list a _, ⟨_, Heap.get?_push_size _ rfl, rfl, rfl⟩, fun b hb => ?_, q⟩
  have e : b = s1.heap.objs.size := by simpa using hb
  subst e
  exact I1.fpOk (Nat.le_refl _) (I1.hok.fresh (Nat.le_refl _))
theorem pi_tup {l : Expr} {tl : TE} (hl : PE X l tl) : PI X tg l (iTup X.K tl) := by
  intro pins s σ H R I h
  refine thn (hl pins s σ H _ I h) fun v s1 ⟨x, H1, I1, r1, q1⟩ => ?_
  obtain ⟨a, e, ⟨xs, hq⟩, q⟩ := q1
  subst e
  cases r1
  obtain ⟨its, rv, p, hz⟩ := I1.tuple hq
  refine wpAny_pyIter_tuple (show s1.heap.IsTuple a its.toArray from p) ?_
  refine ⟨s1.heap.objs.size, [s1.heap.objs.size], _, _, H1, rfl, I1.kept (t' := s1.toks) fun b o e => Heap.get?_push_of_some _ e, turn_tuple a _, ⟨_, Heap.get?_push_size _ rfl, rfl, rfl⟩, fun b hb => ?_, q⟩
  have e : b = s1.heap.objs.size := by simpa using hb
  subst e
  exact I1.fpOk (Nat.le_refl _) (I1.hok.fresh (Nat.le_refl _))
theorem range_it {pins : List (Addr × Obj)} {σ : St} {H : Hp} {s : Shared} {R : It → Hp → Prop} {E : Value → Shared → Prop} {lo hi : Int} {t u v : Tok} {tk : Nat} (I : Inv X pins σ H s) (h1 : -(2 ^ 62) ≤ lo) (h2 : lo < 2 ^ 62) (h3 : -(2 ^ 62) ≤ hi) (h4 : hi < 2 ^ 62)
    (q : R (Itr lo (hi - lo).toNat) H) : wpAny (model X.prog X.w) X.A (pyIter (.ref s.heap.objs.size)) (PIE X pins σ tg R) E { s with heap := s.heap.push { cls := .type "range", data := .fields #[.int lo t, .int hi u, .int 1 v] }, toks := tk } := by
  refine wpAny_pyIter_range (IsRange.new ..) (small_one h1 h2 h3 h4) ?_
  have I1 : Inv X pins σ H { s with heap := s.heap.push { cls := .type "range", data := .fields #[.int lo t, .int hi u, .int 1 v] }, toks := tk } := I.kept fun b o e => Heap.get?_push_of_some _ e
  refine ⟨(s.heap.push { cls := .type "range", data := .fields #[.int lo t, .int hi u, .int 1 v] }).objs.size, [(s.heap.push { cls := .type "range", data := .fields #[.int lo t, .int hi u, .int 1 v] }).objs.size], _, _, H, rfl,
    I1.kept (t' := tk) fun b o e => Heap.get?_push_of_some _ e, turn_range _ lo (hi - lo).toNat, ?_, fun b hb => ?_, q⟩
  · have e1 : lo + ((0 : Nat) : Int) * 1 = lo := by simp
    have e2 : (((hi - lo).toNat : Nat) : Int) - ((0 : Nat) : Int) = Builtin.Range.rangeSize lo hi 1 := by rw [rangeSize_one]; split <;> omega
    show IsRangeIter _ _ (lo + ((0 : Nat) : Int) * 1) ((((hi - lo).toNat : Nat) : Int) - ((0 : Nat) : Int)) 1
    rw [e1, e2]
    exact Heap.get?_push_size _ rfl
  · have e : b = (s.heap.push { cls := .type "range", data := .fields #[.int lo t, .int hi u, .int 1 v] }).objs.size := by simpa using hb
    subst e
    exact I1.fpOk (Nat.le_refl _) (I1.hok.fresh (Nat.le_refl _))
def iRng1 (ta : TA) : TI := fun σ H R => ta σ H fun vs H1 => ∃ j : Int, vs = [.int j] ∧ -(2 ^ 62) ≤ j ∧ j < 2 ^ 62 ∧ R (Itr 0 j.toNat) H1
def iRng2 (ta : TA) : TI := fun σ H R => ta σ H fun vs H1 => ∃ i j : Int, vs = [.int i, .int j] ∧ (-(2 ^ 62) ≤ i ∧ i < 2 ^ 62 ∧ -(2 ^ 62) ≤ j ∧ j < 2 ^ 62) ∧ R (Itr i (j - i).toNat) H1
theorem pi_range1 {a : Expr} {ta : TA} {p pos : Pos} (hg : Gl X "range") (hm : X.mg "range" = none) (ha : PA X [a] ta) (hs : starEach [a] X.env = [(false, eval a X.env)] := by rfl) : PI X tg (.Call (.Name "range" p) [a] [] pos) (iRng1 ta) := by
  intro pins s σ H R I h
  refine Call_ (ld_blt I hg hm boot_range (PyProof.Rows.callWith_type1 (thn (ha pos pins s σ H _ I h) fun us s1 ⟨vs, H1, I1, r1, q1⟩ => ?_) hs rfl))
  obtain ⟨j, e, q1, q2, q⟩ := q1
  subst e
  cases r1 with
  | cons r rr =>
    cases rr
    obtain ⟨t, rfl⟩ := r
    exact call_range_1 (range_it I1 (by omega) (by omega) q1 q2 (by simpa using q))
theorem pi_range2 {a b : Expr} {ta : TA} {p pos : Pos} (hg : Gl X "range") (hm : X.mg "range" = none) (ha : PA X [a, b] ta) (hs : starEach [a, b] X.env = [(false, eval a X.env), (false, eval b X.env)] := by rfl) (hs2 : starEach [b] X.env = [(false, eval b X.env)] := by rfl) :
    PI X tg (.Call (.Name "range" p) [a, b] [] pos) (iRng2 ta) := by
  intro pins s σ H R I h
  refine Call_ (ld_blt I hg hm boot_range (PyProof.Rows.callWith_type1 (thn (ha pos pins s σ H _ I h) fun us s1 ⟨vs, H1, I1, r1, q1⟩ => ?_) (by rw [hs, hs2]) (by rw [hs2]; rfl)))
  obtain ⟨i, j, e, ⟨q1, q2, q3, q4⟩, q⟩ := q1
  subst e
  cases r1 with
  | cons r rr =>
    cases rr with
    | cons r' rr =>
      cases rr
      obtain ⟨t, rfl⟩ := r
      obtain ⟨t', rfl⟩ := r'
      exact call_range_2 (range_it I1 q1 q2 q3 q4 q)

def tFor (wi : TI) (g : TG) (tb : TS) : TS := fun D σ H => wi σ H fun J H1 => ∃ W : Nat → Nat → St → Hp → Prop, (∃ m, W 0 m σ H1) ∧ ∀ i m σ H, W i m σ H →
  (J.stop i H ∧ D.nx σ H) ∨ (J.go i H ∧ ∃ N : St → Hp → Prop, (∀ σ' H', N σ' H' → ∃ m', m' < m ∧ W (i + 1) m' σ' H') ∧ ∀ x H', J.yld i H x H' → g x σ H' fun σ2 H2 => tb { D with nx := N, ct := N, bk := D.nx } σ2 H2)
def pinsAt (fp : List Addr) (h : Heap) : List (Addr × Obj) := fp.filterMap fun b => (h.get? b).map fun o => (b, o)
theorem mem_pinsAt {fp : List Addr} {h : Heap} {b : Addr} {o : Obj} (hb : b ∈ fp) (e : h.get? b = some o) : (b, o) ∈ pinsAt fp h := List.mem_filterMap.mpr ⟨b, hb, by rw [e]; rfl⟩
theorem of_pinsAt {fp : List Addr} {h : Heap} {p : Addr × Obj} (hp : p ∈ pinsAt fp h) : p.1 ∈ fp ∧ h.get? p.1 = some p.2 := by
  obtain ⟨b, hb, e⟩ := List.mem_filterMap.mp hp
  cases q : h.get? b with
  | none => rw [q] at e; cases e
  | some o =>
    rw [q] at e
    have e' : (b, o) = p := Option.some.inj e
    subst e'
    exact ⟨hb, q⟩
theorem Inv.pinned {pins : List (Addr × Obj)} {σ : St} {H : Hp} {s : Shared} {fp : List Addr} (I : Inv X pins σ H s) (hf : ∀ b ∈ fp, FpOk X pins H b) (ho : ∀ b ∈ fp, ∃ o, s.heap.get? b = some o ∧ ∀ v, o.data ≠ .cell v) : Inv X (pins ++ pinsAt fp s.heap) σ H s :=
  I.pins_of fun p hp => (List.mem_append.mp hp).elim (fun z => I.pin p (List.mem_append_right _ z)) fun z => by
    obtain ⟨hb, e⟩ := of_pinsAt z
    obtain ⟨f0, f1, f2, _⟩ := hf p.1 hb
    obtain ⟨o, e', d⟩ := ho p.1 hb
    rw [e] at e'; cases e'
    exact ⟨e, f0, f1, f2, d⟩
theorem Inv.unpinned {pins pl : List (Addr × Obj)} {σ : St} {H : Hp} {s : Shared} (I : Inv X (pins ++ pl) σ H s) : Inv X pins σ H s := I.pins_of fun p hp => I.pin p (List.mem_append_right _ (List.mem_append_left _ hp))
theorem ps_for {iter : Expr} {body : List Stmt} {wi : TI} {g : TG} {tb : TS} {pos : Pos} (hp : PassesOwn (model X.prog X.w) X.A X.env X.xe) (hc : X.calm = true) (hi : PI X tg iter wi) (hg : PG X tg g) (hb : PSs X body tb)
    (hs : ∀ x, foldedSetIterable iter X.env x = pure x := by intro _; rfl) : PS X (.For tg iter body [] pos) (tFor wi g tb) := by
  intro pins s σ H D I h
  refine wpAny_For (thn (hi pins s σ H _ I h) fun v s1 h1 => thn h1 fun itv s2 h2 => ?_) hs
  obtain ⟨it, fp, tn, J, H2, e, I2, T, st2, f2, W, ⟨m0, w0⟩, turn⟩ := h2
  subst e
  -- what stays true of the iterator's objects through the loop
  have stat : ∀ {H' : Hp}, (∀ b ∈ fp, H' b = none) → ∀ b ∈ fp, FpOk X pins H' b := fun hn b hb => ⟨hn b hb, (f2 b hb).2⟩
  refine codeAny_forLoop_any (fun n s' => ∃ i σ' H', Inv X pins σ' H' s' ∧ tn i s'.heap ∧ (∀ b ∈ fp, H' b = none) ∧ W i n σ' H') ?_ m0 ⟨0, σ, H2, I2, st2, fun b hb => (f2 b hb).1, w0⟩
  rintro n s3 ⟨i, σ3, H3, I3, st3, fr3, w3⟩
  rcases turn i n σ3 H3 w3 with ⟨stop, qn⟩ | ⟨go, N, hN, step⟩
  · refine wpAny_passesOwn hp (thn (T.done X rfl rfl rfl hc i pins s3 σ3 H3 X.xe I3 (stat fr3) st3 stop) fun r s4 ⟨hr, I4⟩ => ?_)
    subst hr
    exact wpAny_execs_nil ⟨σ3, H3, I4, qn⟩
  · refine wpAny_passesOwn hp (thn (T.item X rfl rfl rfl hc i pins s3 σ3 H3 X.xe I3 (stat fr3) st3 go) fun r s4 ⟨u, hr, h4⟩ => ?_)
    subst hr
    refine wpAny_passesOwn hp (thn h4 fun _ s5 ⟨x, H5, I5, r5, y5, st5, fr5⟩ => ?_)
    have I5' := I5.pinned (stat fr5) (T.obj _ _ st5)
    refine wpAny_passesOwn hp (thn (hg _ s5 σ3 H5 x u _ I5' r5 (step x H5 y5)) fun _ s6 ⟨σ6, H6, I6, q6⟩ => ?_)
    refine wpAny_passesOwn hp (thn (hb _ s6 σ6 H6 _ I6 q6) fun f s7 q7 => ?_)
    have again : ∀ {σ7 : St} {H7 : Hp}, Inv X (pins ++ pinsAt fp s5.heap) σ7 H7 s7 → N σ7 H7 → ∃ m, m < n ∧ ∃ i σ' H', Inv X pins σ' H' s7 ∧ tn i s7.heap ∧ (∀ b ∈ fp, H' b = none) ∧ W i m σ' H' := fun {σ7 H7} I7 n7 => by
      obtain ⟨m', hm, w7⟩ := hN σ7 H7 n7
      refine ⟨m', hm, i + 1, σ7, H7, I7.unpinned, T.keep _ _ _ st5 fun b hb o e => (I7.pin (b, o) (List.mem_append_right _ (List.mem_append_right _ (mem_pinsAt hb e)))).1, fun b hb => ?_, w7⟩
      obtain ⟨o, e, d⟩ := T.obj _ _ st5 b hb
      exact (I7.pin (b, o) (List.mem_append_right _ (List.mem_append_right _ (mem_pinsAt hb e)))).2.1
    cases f with
    | next => obtain ⟨σ7, H7, I7, n7⟩ := q7; exact again I7 n7
    | cont => obtain ⟨σ7, H7, I7, n7⟩ := q7; exact again I7 n7
    | brk => obtain ⟨σ7, H7, I7, q7⟩ := q7; exact ⟨σ7, H7, I7.unpinned, q7⟩
    | ret v => obtain ⟨x7, σ7, H7, I7, r7, q7⟩ := q7; exact ⟨x7, σ7, H7, I7.unpinned, r7, q7⟩
end

end L2

namespace L2
open PySem PySem.Spec PyProof.Rows

abbrev R2 := V → V → Hp → VK → Prop
def OpR (X : Cx) (f : Value → Value → Sem Value) (r : R2) : Prop :=
  ∀ (pins : List (Addr × Obj)) (s : Shared) (σ : St) (H : Hp) (x y : V) (v u : Value) (Q : VK), Inv X pins σ H s → RelV x v → RelV y u → r x y H Q →
    wpAny (model X.prog X.w) X.A (f v u) (EP X pins σ Q) X.xe s
def UnR (X : Cx) (f : Value → Sem Value) (r : V → Hp → VK → Prop) : Prop :=
  ∀ (pins : List (Addr × Obj)) (s : Shared) (σ : St) (H : Hp) (x : V) (v : Value) (Q : VK), Inv X pins σ H s → RelV x v → r x H Q →
    wpAny (model X.prog X.w) X.A (f v) (EP X pins σ Q) X.xe s
def CallR (X : Cx) (f : Value) (r : List V → Hp → VK → Prop) : Prop :=
  ∀ (pins : List (Addr × Obj)) (s : Shared) (σ : St) (H : Hp) (xs : List V) (us : List Value) (Q : VK), Inv X pins σ H s → Vals xs us → r xs H Q →
    wpAny (model X.prog X.w) X.A (call f us) (EP X pins σ Q) X.xe s
def tOp (r : R2) (ta tb : TE) : TE := fun σ H Q => ta σ H fun x H1 => tb σ H1 fun y H2 => r x y H2 Q
def tUn (r : V → Hp → VK → Prop) (ta : TE) : TE := fun σ H Q => ta σ H fun x H1 => r x H1 Q
def rI (C : Int → Int → Prop) (g : Int → Int → V) : R2 := fun x y H Q => ∃ i j, x = .int i ∧ y = .int j ∧ C i j ∧ Q (g i j) H
def rI0 (g : Int → Int → V) : R2 := fun x y H Q => ∃ i j, x = .int i ∧ y = .int j ∧ Q (g i j) H
def rU (g : Int → V) : V → Hp → VK → Prop := fun x H Q => ∃ i, x = .int i ∧ Q (g i) H

section
variable {X : Cx} {a b c : Expr} {ta tb tc : TE} {pos : Pos}

theorem binT (ha : PE X a ta) (hb : PE X b tb) {pins : List (Addr × Obj)} {s : Shared} {σ : St} {H : Hp} {R : V → V → Hp → Prop} (I : Inv X pins σ H s)
    (h : ta σ H fun x H1 => tb σ H1 fun y H2 => R x y H2) {Q : Value → Shared → Prop} {f : Value → Value → Sem Value}
    (hf : ∀ v u s2 x y H2, Inv X pins σ H2 s2 → RelV x v → RelV y u → R x y H2 → wpAny (model X.prog X.w) X.A (f v u) Q X.xe s2) :
    wpAny (model X.prog X.w) X.A (eval a X.env) (fun v s₁ => wpAny (model X.prog X.w) X.A (eval b X.env) (fun u s₂ => wpAny (model X.prog X.w) X.A (f v u) Q X.xe s₂) X.xe s₁) X.xe s := by
  refine thn (ha pins s σ H _ I h) fun v s1 ⟨x, H1, I1, r1, q1⟩ => ?_
  refine thn (hb pins s1 σ H1 _ I1 q1) fun u s2 ⟨y, H2, I2, r2, q2⟩ => ?_
  exact hf v u s2 x y H2 I2 r1 r2 q2

theorem pe_op {op : Operator} {r : R2} (ho : OpR X (binaryOp op) r) (ha : PE X a ta) (hb : PE X b tb) : PE X (.BinOp a op b pos) (tOp r ta tb) := by
  intro pins s σ H Q I h
  exact wpAny_BinOp (binT ha hb I h fun v u s2 x y H2 I2 rx ry q => ho pins s2 σ H2 x y v u Q I2 rx ry q)
theorem pe_un {op : UnaryOp} {r : V → Hp → VK → Prop} (ho : UnR X (unaryOp op) r) (ha : PE X a ta) : PE X (.UnaryOp op a pos) (tUn r ta) := by
  intro pins s σ H Q I h
  exact UnaryOp_ (thn (ha pins s σ H _ I h) fun v s1 ⟨x, H1, I1, r1, q1⟩ => ho pins s1 σ H1 x v Q I1 r1 q1)
theorem opI {f : Value → Value → Sem Value} {C : Int → Int → Prop} {g : Int → Int → Int}
    (rule : ∀ (i j : Int) (t u : Tok) (s : Shared) (Q : Value → Shared → Prop) (E : Value → Shared → Prop), C i j → Q (.int (g i j) s.toks) { s with toks := s.toks + 1 } → wpAny (model X.prog X.w) X.A (f (.int i t) (.int j u)) Q E s) :
    OpR X f (rI C fun i j => .int (g i j)) := by
  intro pins s σ H x y v u Q I rx ry h
  obtain ⟨i, j, rfl, rfl, hc, q⟩ := h
  obtain ⟨t, rfl⟩ := rx
  obtain ⟨t', rfl⟩ := ry
  exact rule i j t t' s _ _ hc ⟨.int (g i j), H, I.tok _, ⟨_, rfl⟩, q⟩
theorem opI0 {f : Value → Value → Sem Value} {g : Int → Int → Int}
    (rule : ∀ (i j : Int) (t u : Tok) (s : Shared) (Q : Value → Shared → Prop) (E : Value → Shared → Prop), Q (.int (g i j) s.toks) { s with toks := s.toks + 1 } → wpAny (model X.prog X.w) X.A (f (.int i t) (.int j u)) Q E s) :
    OpR X f (rI0 fun i j => .int (g i j)) := by
  intro pins s σ H x y v u Q I rx ry h
  obtain ⟨i, j, rfl, rfl, q⟩ := h
  obtain ⟨t, rfl⟩ := rx
  obtain ⟨t', rfl⟩ := ry
  exact rule i j t t' s _ _ ⟨.int (g i j), H, I.tok _, ⟨_, rfl⟩, q⟩
theorem opB0 {f : Value → Value → Sem Value} {g : Int → Int → Bool}
    (rule : ∀ (i j : Int) (t u : Tok) (s : Shared) (Q : Value → Shared → Prop) (E : Value → Shared → Prop), Q (.bool (g i j)) s → wpAny (model X.prog X.w) X.A (f (.int i t) (.int j u)) Q E s) :
    OpR X f (rI0 fun i j => .bl (g i j)) := by
  intro pins s σ H x y v u Q I rx ry h
  obtain ⟨i, j, rfl, rfl, q⟩ := h
  obtain ⟨t, rfl⟩ := rx
  obtain ⟨t', rfl⟩ := ry
  exact rule i j t t' s _ _ ⟨.bl (g i j), H, I, rfl, q⟩

def CPow (i j : Int) : Prop := 0 ≤ j ∧ j ≤ 1000000 ∧ i.natAbs < 2 ^ 64
def CMul (i j : Int) : Prop := (-(2 ^ 64) < i ∧ i < 2 ^ 64) ∨ (-(2 ^ 64) < j ∧ j < 2 ^ 64)
theorem CMul.ok {i j : Int} (h : CMul i j) : IntMulOk i j := by
  rcases h with ⟨h1, h2⟩ | ⟨h1, h2⟩
  · exact .of_left (intBits_le_64 h1 h2)
  · exact .of_right (intBits_le_64 h1 h2)
theorem op_add : OpR X (binaryOp .Add) (rI0 fun i j => .int (i + j)) := opI0 fun _ _ _ _ _ _ _ q => add_int q
theorem op_sub : OpR X (binaryOp .Sub) (rI0 fun i j => .int (i - j)) := opI0 fun _ _ _ _ _ _ _ q => sub_int q
theorem op_modN : OpR X (binaryOp .Mod) (rI (fun _ j => j ≠ 0) fun i j => .int (i.fmod j)) := opI fun _ _ _ _ _ _ _ hc q => mod_int' hc q
theorem op_pow : OpR X (binaryOp .Pow) (rI CPow fun i j => .int (i ^ j.toNat)) := opI fun _ _ _ _ _ _ _ hc q => pow_int_small hc.1 hc.2.1 hc.2.2 q
theorem op_shl : OpR X (binaryOp .LShift) (rI CPow fun i j => .int (i * 2 ^ j.toNat)) := opI fun _ _ _ _ _ _ _ hc q => lshift_int_small hc.1 hc.2.1 hc.2.2 q
theorem unI {f : Value → Sem Value} {g : Int → Int}
    (rule : ∀ (i : Int) (t : Tok) (s : Shared) (Q : Value → Shared → Prop) (E : Value → Shared → Prop), Q (.int (g i) s.toks) { s with toks := s.toks + 1 } → wpAny (model X.prog X.w) X.A (f (.int i t)) Q E s) :
    UnR X f (rU fun i => .int (g i)) := by
  intro pins s σ H x v Q I rx h
  obtain ⟨i, rfl, q⟩ := h
  obtain ⟨t, rfl⟩ := rx
  exact rule i t s _ _ ⟨.int (g i), H, I.tok _, ⟨_, rfl⟩, q⟩
theorem un_neg : UnR X (unaryOp .USub) (rU fun i => .int (-i)) := unI fun _ _ _ _ _ q => neg_int q
end

section
variable {X : Cx} {a b c : Expr} {ta tb tc : TE} {pos : Pos}
theorem fin_bl {pins : List (Addr × Obj)} {σ : St} {H : Hp} {s : Shared} {Q : VK} {k k' : Bool} (I : Inv X pins σ H s) (q : Q (.bl k) H) (e : k = k') : EP X pins σ Q (.bool k') s := by
  subst e
  exact ⟨.bl k, H, I, rfl, q⟩
theorem op_lt : OpR X (compareOp .Lt) (rI0 fun i j => .bl (decide (i < j))) := opB0 fun _ _ _ _ _ _ _ q => lt_int q
theorem op_gt : OpR X (compareOp .Gt) (rI0 fun i j => .bl (decide (j < i))) := opB0 fun _ _ _ _ _ _ _ q => gt_int q
theorem op_notN : OpR X (compareOp .IsNot) (fun x y H Q => y = .non ∧ Q (.bl (!decide (x = .non))) H) := by
  intro pins s σ H x y v u Q I rx ry h
  obtain ⟨rfl, q⟩ := h
  cases ry
  refine isnot_none_gen (fin_bl I q ?_)
  cases x <;> first
    | (cases rx; rfl)
    | (obtain ⟨t, rfl⟩ := rx; rfl)

theorem OpR.or {f : Value → Value → Sem Value} {r r' : R2} (h : OpR X f r) (h' : OpR X f r') : OpR X f (fun x y H Q => r x y H Q ∨ r' x y H Q) := by
  intro pins s σ H x y v u Q I rx ry q
  rcases q with q | q
  · exact h pins s σ H x y v u Q I rx ry q
  · exact h' pins s σ H x y v u Q I rx ry q

theorem nomark (b : Expr) {op : CmpOp} (h : op ≠ .In := by decide) (h2 : op ≠ .NotIn := by decide) : behindInMarks op b = false := by
  have e1 : (op == CmpOp.In) = false := by cases op <;> first | rfl | exact absurd rfl h
  have e2 : (op == CmpOp.NotIn) = false := by cases op <;> first | rfl | exact absurd rfl h2
  cases b <;> simp [behindInMarks, e1, e2]
theorem pe_cmpR {op : CmpOp} {r : R2} (ho : OpR X (compareOp op) r) (ha : PE X a ta) (hb : PE X b tb) (hm : behindInMarks op b = false) : PE X (.Compare a [op] [b] pos) (tOp r ta tb) := by
  intro pins s σ H Q I h
  exact wpAny_Compare1 (binT ha hb I h fun v u s2 x y H2 I2 rx ry q => ho pins s2 σ H2 x y v u Q I2 rx ry q) hm
def tTest (t : TE) : TT := fun σ H Q => t σ H fun x H' => ∃ k, x = .bl k ∧ Q k H'
theorem pt_cmpR {op : CmpOp} {r : R2} (ho : OpR X (compareOp op) r) (ha : PE X a ta) (hb : PE X b tb) (hm : behindInMarks op b = false) : PT X (.Compare a [op] [b] pos) (tTest (tOp r ta tb)) := by
  intro pins s σ H Q I h
  refine wpAny_isTrue_Compare1 (thn (ha pins s σ H _ I h) fun v s1 ⟨x, H1, I1, r1, q1⟩ => thn (hb pins s1 σ H1 _ I1 q1) fun u s2 ⟨y, H2, I2, r2, q2⟩ =>
    thn (ho pins s2 σ H2 x y v u _ I2 r1 r2 q2) fun c s3 ⟨z, H3, I3, r3, k, e, q3⟩ => ?_) hm
  subst e
  cases r3
  exact wpAny_truthy_bool ⟨H3, I3, q3⟩
theorem line63 : (sizeLine : Nat) < 2 ^ 63 := by rw [sizeLine_eq]; decide
theorem vals1 {x : V} {us : List Value} (r : Vals [x] us) : ∃ u, us = [u] ∧ RelV x u := by
  cases r with
  | cons r1 r2 => cases r2; exact ⟨_, rfl, r1⟩
theorem vals2 {x y : V} {us : List Value} (r : Vals [x, y] us) : ∃ u w', us = [u, w'] ∧ RelV x u ∧ RelV y w' := by
  cases r with
  | cons r1 r2 =>
    cases r2 with
    | cons r3 r4 => cases r4; exact ⟨_, _, rfl, r1, r3⟩
end
end L2

namespace L2
open PySem PySem.Spec PyProof.Rows

theorem lookIn_ns {h : Heap} {dx : Addr} {mA : Str → Option Value} (n : h.Ns1 dx mA) : ∃ od, h.get? dx = some od ∧ ∀ name, PySem.W.lookIn name od = some (mA name) := by
  obtain ⟨o, es, ep, ho, hd, hk, _, hm⟩ := n
  refine ⟨o, ho, fun name => ?_⟩
  have e := hm name
  unfold nsFind findBy at e
  rw [← Array.find?_toList] at e
  unfold PySem.W.lookIn
  rw [hd]
  dsimp only
  split
  · rename_i y q
    rw [q] at e
    exact congrArg some e
  · rename_i q
    rw [q] at e
    have a : es.toList.any (·.refKey) = false := by
      rw [List.any_eq_false]
      intro y hy
      obtain ⟨z, t, hkey⟩ := hk y (Array.mem_toList_iff.mp hy)
      simp [DictEntry.refKey, hkey]
    have a' : ¬ es.toList.any (·.refKey) = true := by rw [a]; exact Bool.false_ne_true
    rw [if_neg a']
    exact congrArg some e

section
variable {prog : Program} {w : World} {A : Around} {E : Value → Shared → Prop} {s : Shared} {K : PySem.W.Frag} {x dx C f : Addr} {mA : Str → Option Value} {name : Str} {v : Value}

end

theorem RelO.some_of {v : V} {o : Option Value} (r : RelO (some v) o) : ∃ u, o = some u ∧ RelV v u := by
  cases o with
  | none => exact (show False from r).elim
  | some u => exact ⟨u, rfl, r⟩
theorem handed_of {v : V} {u : Value} (r : RelV v u) : PySem.W.handedIn u = true := by
  cases v with
  | non => cases (show u = Value.none from r); rfl
  | bl b => cases (show u = Value.bool b from r); rfl
  | int i => obtain ⟨t, e⟩ := (show ∃ t, u = Value.int i t from r); cases e; rfl
  | str x => obtain ⟨t, e⟩ := (show ∃ t, u = Value.str x t from r); cases e; rfl
  | byt b => obtain ⟨t, e⟩ := (show ∃ t, u = Value.bytes b t from r); cases e; rfl
  | flt b => obtain ⟨t, e⟩ := (show ∃ t, u = Value.float b t from r); cases e; rfl
  | ref a => cases (show u = Value.ref a from r); rfl
  | ty n => cases (show u = Value.type n from r); rfl

section
variable {P : Program} {w : World} {H H' : Hp} {h h' : Heap} {a C dx : Addr} {fs fs' : List (Str × V)}
end

structure Cls (K : PySem.W.Frag) (C : Addr) : Prop where
  pg : PySem.W.plainGet K C Str.empty = true
  hd : PySem.W.hasDictIn K C = true
  po : PySem.W.plainOver K C = true
  sa : PySem.W.findIn K (.ref C) "__setattr__" = some (some (.builtin "object.__setattr__"))
theorem Cls.get {K : PySem.W.Frag} {C : Addr} (c : Cls K C) (f : Str) : PySem.W.plainGet K C f = true := c.pg
section
variable {X : Cx} {pins : List (Addr × Obj)} {σ : St} {H : Hp} {s : Shared} {a C dx : Addr} {fs : List (Str × V)} {f : Str} {v : V} {A : Around} {E : Value → Shared → Prop}

theorem Inv.made (I : Inv X pins σ H s) : Inv X pins σ (upd (upd H s.heap.objs.size (.own (s.heap.objs.size + 1))) (s.heap.objs.size + 1) (.ins C s.heap.objs.size []))
    { s with heap := (s.heap.push PySem.W.emptyDict).push (PySem.W.instObj C s.heap.objs.size) } := by
  have e1 : (s.heap.push PySem.W.emptyDict).get? s.heap.objs.size = some PySem.W.emptyDict := Heap.get?_push_size s.heap rfl
  have e2 : ((s.heap.push PySem.W.emptyDict).push (PySem.W.instObj C s.heap.objs.size)).get? (s.heap.objs.size + 1) = some (PySem.W.instObj C s.heap.objs.size) := by
    have := Heap.get?_push_size (s.heap.push PySem.W.emptyDict) (o := PySem.W.instObj C s.heap.objs.size) rfl
    rwa [Heap.size_push] at this
  have e3 : (s.heap.push PySem.W.emptyDict).Ns s.heap.objs.size (fun _ => none) := ⟨PySem.W.emptyDict, #[], _, e1, rfl, (fun e he => absurd he (by simp)), fun _ => rfl⟩
  have I1 := I.laid (a := s.heap.objs.size) (o := .own (s.heap.objs.size + 1)) (h' := s.heap.push PySem.W.emptyDict) (t' := s.toks) (fun b u q => Heap.get?_push_of_some _ q) (Nat.le_refl _) ⟨_, e1⟩
  refine I1.laid (a := s.heap.objs.size + 1) (o := .ins C s.heap.objs.size []) (t' := s.toks) (fun b u q => Heap.get?_push_of_some _ q) (Nat.le_of_eq (Heap.size_push _ _)) ?_
  have ne : s.heap.objs.size ≠ s.heap.objs.size + 1 := Nat.ne_of_lt (Nat.lt_succ_self _)
  refine ⟨by rw [upd_ne ne, upd_same], Nat.zero_le _, ne, e2, fun _ => none, (Heap.Ns1.of_empty e3).at fun o q => Heap.get?_push_of_some _ q, fun _ => True.intro, fun y hy => absurd rfl hy⟩

theorem attr_of {prog : Program} {w : World} {env : Env} {e : Expr} {f : Str} {pos : Pos} {s : Shared} {Q : Value → Shared → Prop} (hb : attributeBase e f env (eval e env) = eval e env)
    (h : wpAny (model prog w) A (eval e env) (fun o s₁ => wpAny (model prog w) A (getAttr o f true) Q E s₁) E s) : wpAny (model prog w) A (eval (.Attribute e f pos) env) Q E s :=
  Attribute_any_ h (by rw [arm_eval_Attribute, hb])
end

section
variable {X : Cx} {o e value : Expr} {f : Str} {pos pos' tpos : Pos} {ta tv : TE}
end

section
variable {X : Cx} {pins : List (Addr × Obj)} {σ : St} {H : Hp} {s : Shared} {A : Around} {E : Value → Shared → Prop} {Q : Value → Shared → Prop} {c : Value} {b : Bool}
end
end L2

namespace L2
open PySem PySem.Spec PyProof.Rows

structure Room (k : Nat) (A : Around) : Prop where
  hd : A.handled = none
  dp : A.depth + 3 * k + 5 < recursionLimit
  un : A.units + 16 * k + 200 < cLine
theorem Room.mono {j k : Nat} {A : Around} (r : Room k A) (h : j ≤ k) : Room j A := ⟨r.hd, by have := r.dp; omega, by have := r.un; omega⟩
theorem Room.deeper {k : Nat} {A : Around} (r : Room (k + 1) A) (env : Env) : Room k (A.deeper env) :=
  ⟨r.hd, by have := r.dp; show A.depth + 1 + 3 * k + 5 < _; omega, by have := r.un; show A.units + 3 + 16 * k + 200 < _; omega⟩
theorem Room.in1 {k : Nat} {A : Around} (r : Room (k + 1) A) : Room k A.in1 :=
  ⟨r.hd, by have := r.dp; show A.depth + 3 * k + 5 < _; omega, by have := r.un; show A.units + 1 + 16 * k + 200 < _; omega⟩
theorem make_depth {A : Around} {C : Addr} {us : List Value} {kw : List (Str × Value)} : (A.under (.builtin "type.__call__" ⟨.ref C :: us, kw⟩)).depth = A.depth + 1 := by
  first | rfl | simp [Around.under, Code.weight, Code.isCreation, Code.isGuard, Code.isCaller, Code.frames, Code.isFrame, guardIds]
theorem make_units {A : Around} {C : Addr} {us : List Value} {kw : List (Str × Value)} : (A.under (.builtin "type.__call__" ⟨.ref C :: us, kw⟩)).units = A.units + 1 := by
  first | rfl | simp [Around.under, Code.cUnits, Code.frames, Code.isFrame]
theorem Room.make {k : Nat} {A : Around} (r : Room (k + 1) A) (C : Addr) (us : List Value) (kw : List (Str × Value)) : Room k (A.under (.builtin "type.__call__" ⟨.ref C :: us, kw⟩)) :=
  ⟨r.hd, by have := r.dp; rw [make_depth]; omega, by have := r.un; rw [make_units]; omega⟩
theorem Room.depth {k : Nat} {A : Around} (r : Room k A) : A.depth < recursionLimit := by have := r.dp; omega
theorem Room.units {k : Nat} {A : Around} (r : Room k A) : A.units + 64 < cLine := by have := r.un; omega
def tNil : TA := fun _ H Q => Q [] H
def tCons (ta : TE) (tr : TA) : TA := fun σ H Q => ta σ H fun x H1 => tr σ H1 fun xs H2 => Q (x :: xs) H2
section
variable {X : Cx} {e : Expr} {es : List Expr} {te : TE} {t : TA} {pos : Pos}
theorem pa_nil : PA X [] tNil := fun _ _ _ _ H Q I h => Calls.spliced_nil ⟨[], H, I, .nil, h⟩
theorem pa_cons (ha : PE X e te) (hr : PA X es t) (hs : starEach (e :: es) X.env = (false, eval e X.env) :: starEach es X.env := by rfl) : PA X (e :: es) (tCons te t) := by
  intro pos pins s σ H Q I h
  rw [hs]
  show wpAny _ _ (spliced ((false, eval e X.env) :: backTo pos (starEach es X.env))) _ _ s
  refine Calls.spliced_cons (thn (ha pins s σ H _ I h) fun u s1 ⟨x, H1, I1, r1, q1⟩ => ?_)
  exact thn (hr pos pins s1 σ H1 _ I1 q1) fun us s2 ⟨xs, H2, I2, r2, q2⟩ => ⟨x :: xs, H2, I2, .cons r1 r2, q2⟩

def tTup (t : TA) : TE := fun σ H Q => t σ H fun xs H1 => xs.length ≤ sizeLine ∧ ∀ p, H1 p = none → Q (.ref p) (upd H1 p (.tup xs))
def tLst (t : TA) : TE := fun σ H Q => t σ H fun xs H1 => xs.length ≤ sizeLine ∧ ∀ p, H1 p = none → Q (.ref p) (upd H1 p (.lst xs))
theorem pe_tup {x1} (h : PA X es t) : PE X (.Tuple es x1 pos) (tTup t) := by
  intro pins s σ H Q I hq
  refine wpAny_Tuple_spliced (thn (h pos pins s σ H _ I hq) fun us s1 ⟨xs, H1, I1, r, z, q⟩ => ⟨by rw [← r.length]; exact z, ?_⟩)
  have hf : H1 s1.heap.objs.size = none := I1.hok.fresh (Nat.le_refl _)
  refine ⟨.ref s1.heap.objs.size, upd H1 s1.heap.objs.size (.tup xs), I1.laid (t' := s1.toks) (fun b u e => Heap.get?_push_of_some _ e) (Nat.le_refl _) ?_, rfl, q _ hf⟩
  exact ⟨z, us, r, ⟨_, Heap.get?_push_size _ rfl, rfl, _, rfl⟩⟩
theorem pe_lst (h : PA X es t) : PE X (.List es pos) (tLst t) := by
  intro pins s σ H Q I hq
  refine wpAny_List_spliced (thn (h pos pins s σ H _ I hq) fun us s1 ⟨xs, H1, I1, r, z, q⟩ => ⟨by rw [← r.length]; exact z, ?_⟩)
  have hf : H1 s1.heap.objs.size = none := I1.hok.fresh (Nat.le_refl _)
  refine ⟨.ref s1.heap.objs.size, upd H1 s1.heap.objs.size (.lst xs), I1.laid (t' := s1.toks) (fun b u e => Heap.get?_push_of_some _ e) (Nat.le_refl _) ?_, rfl, q _ hf⟩
  exact ⟨z, us, 0, r, Heap.get?_push_size _ rfl⟩
end

abbrev Sp := List V → Hp → VK → XK → Prop
abbrev CXT := List Env → Hp → Shared → XK → Value → Shared → Prop

structure Env0 (P : Program) (w : World) (K : PySem.W.Frag) (mg : Str → Option Value) (base : Heap) (A : Around) (outer : List Env) (s : Shared) (H : Hp) : Prop where
  frames : A.frames = some outer
  mod : Mod K mg base
  bs : ∀ b o, base.get? b = some o → s.heap.get? b = some o ∧ H b = none
  bsz : base.objs.size ≤ s.heap.objs.size
  funs : s.heap.FunFrames base outer
  frf : ∀ b ∈ frs outer, H b = none
  hok : HOk P w H s.heap
  bare : AllBare s.gens
def CE (outer : List Env) (P : Program) (w : World) (H : Hp) (s : Shared) (Q : VK) (u : Value) (s' : Shared) : Prop :=
  ∃ v H', s'.os = s.os ∧ AllBare s'.gens ∧ Un (frs outer) [] H H' s.heap s'.heap ∧ HOk P w H' s'.heap ∧ RelV v u ∧ Q v H'
def CR (CX : CXT) (outer : List Env) (P : Program) (w : World) (H : Hp) (s : Shared) (Q : VK) (E : XK) (r : Result) (s' : Shared) : Prop :=
  match r with
  | .ok (.ret u) => CE outer P w H s Q u s'
  | .ok _ => False
  | .error e => CX outer H s E e s'
structure FnOk (P : Program) (w : World) (K : PySem.W.Frag) (mg : Str → Option Value) (base : Heap) (CX : CXT) (k : Nat) (f : Addr) (fd : FuncData) (ps : List Str) (sp : Sp) : Prop where
  len : ∀ vs H Q E, sp vs H Q E → vs.length = ps.length
  run : ∀ (A : Around) (outer : List Env) (s : Shared) (H : Hp) (args : Args) (us : List Value) (vs : List V) (Q : VK) (E : XK), Room k A → Env0 P w K mg base A outer s H → BindsTo s fd args (ps.zip us) → Vals vs us → sp vs H Q E →
    codeAny (model P w) A (.call (.ref f) args) (CR CX outer P w H s Q E) s
theorem FnOk.mono {P : Program} {w : World} {K : PySem.W.Frag} {mg : Str → Option Value} {base : Heap} {CX : CXT} {j k : Nat} {f : Addr} {fd : FuncData} {ps : List Str} {sp : Sp} (F : FnOk P w K mg base CX j f fd ps sp) (h : j ≤ k) :
    FnOk P w K mg base CX k f fd ps sp := ⟨F.len, fun A outer s H args us vs Q E hr => F.run A outer s H args us vs Q E (hr.mono h)⟩
theorem FnOk.imp {P : Program} {w : World} {K : PySem.W.Frag} {mg : Str → Option Value} {base : Heap} {CX : CXT} {k : Nat} {f : Addr} {fd : FuncData} {ps : List Str} {sp sp' : Sp} (F : FnOk P w K mg base CX k f fd ps sp)
    (h : ∀ vs H Q E, sp' vs H Q E → sp vs H Q E) : FnOk P w K mg base CX k f fd ps sp' :=
  ⟨fun vs H Q E q => F.len vs H Q E (h _ _ _ _ q), fun A outer s H args us vs Q E hr he hb hv hs => F.run A outer s H args us vs Q E hr he hb hv (h _ _ _ _ hs)⟩

theorem Env0.make {P : Program} {w : World} {K : PySem.W.Frag} {mg : Str → Option Value} {base : Heap} {A : Around} {outer : List Env} {s : Shared} {H : Hp} (e : Env0 P w K mg base A outer s H) (C : Addr) (us : List Value) (kw : List (Str × Value)) :
    Env0 P w K mg base (A.under (.builtin "type.__call__" ⟨.ref C :: us, kw⟩)) outer s H := ⟨by first | exact e.frames | (simpa [Around.under, Code.envs, Code.isFrame, pushEnvs] using e.frames), e.mod, e.bs, e.bsz, e.funs, e.frf, e.hok, e.bare⟩
theorem Env0.in1 {P : Program} {w : World} {K : PySem.W.Frag} {mg : Str → Option Value} {base : Heap} {A : Around} {outer : List Env} {s : Shared} {H : Hp} (e : Env0 P w K mg base A outer s H) :
    Env0 P w K mg base A.in1 outer s H := ⟨e.frames, e.mod, e.bs, e.bsz, e.funs, e.frf, e.hok, e.bare⟩

section
variable {X : Cx} {pins : List (Addr × Obj)} {σ : St} {H : Hp} {s s' : Shared}
theorem Inv.env0 (I : Inv X pins σ H s) : Env0 X.prog X.w X.K X.mg X.base X.A X.stack s H :=
  ⟨I.ok.frames, I.ok.mod, I.bs, Nat.le_trans I.ok.bsz I.sz, I.stack, I.stkFree, I.hok, I.bare⟩
theorem Inv.after {Q : VK} {u : Value} (I : Inv X pins σ H s) (h : CE X.stack X.prog X.w H s Q u s') : EP X pins σ Q u s' := by
  obtain ⟨v, H', os, bare, un, hok, r, q⟩ := h
  obtain ⟨hh, g, d, t, os'⟩ := s'
  obtain rfl : os' = s.os := os
  exact ⟨v, H', I.call (h' := hh) (g' := g) (d' := d) (t' := t) (ch := []) un hok bare (fun b z => absurd z (by simp)), r, q⟩
end

def tCall (sp : Sp) (dvs : List V) (E : XK) (t : TA) : TE := fun σ H Q => t σ H fun vs H1 => sp (vs ++ dvs) H1 Q E
def Binds (K : PySem.W.Frag) (fd : FuncData) (ps : List Str) (ds : List Value) : Prop :=
  ∀ (s : Shared) (us : List Value), K.In s.heap → (us ++ ds).length = ps.length → BindsTo s fd ⟨us, []⟩ (ps.zip (us ++ ds))
theorem Binds.all {K : PySem.W.Frag} {fd : FuncData} {ps : List Str} (h : ∀ us : List Value, us.length = ps.length → bindArgs fd ⟨us, []⟩ = pure (ps.zip us)) : Binds K fd ps [] := fun s us _ hl => by
  rw [List.append_nil] at hl ⊢
  exact .of_eq (h us hl)

def Passes (CX : CXT) (X : Cx) (E : XK) : Prop := ∀ (pins : List (Addr × Obj)) (σ : St) (H : Hp) (s : Shared) (e : Value) (s' : Shared), Inv X pins σ H s → CX X.stack H s E e s' → X.xe e s'

section
variable {X : Cx} {CX : CXT} {k : Nat} {f C : Addr} {fd : FuncData} {ps : List Str} {sp : Sp} {dvs : List V} {ds : List Value} {E : XK} {x m : Str} {p pos apos : Pos} {e o : Expr} {es : List Expr} {ta : TE} {t : TA}

theorem run_fn {pins : List (Addr × Obj)} {σ : St} {H : Hp} {s : Shared} {Q : VK} {us : List Value} {vs : List V} (F : FnOk X.prog X.w X.K X.mg X.base CX k f fd ps sp) (hr : Room k X.A) (hb : Binds X.K fd ps ds) (hd : Vals dvs ds) (hx : Passes CX X E)
    (I : Inv X pins σ H s) (r : Vals vs us) (h : sp (vs ++ dvs) H Q E) : wpAny (model X.prog X.w) X.A (call (.ref f) us) (EP X pins σ Q) X.xe s := by
  have r2 : Vals (vs ++ dvs) (us ++ ds) := r.append hd
  have hl : (us ++ ds).length = ps.length := by rw [← r2.length]; exact F.len _ _ _ _ h
  refine wpAny_call (codeAny_mono (F.run X.A X.stack s H ⟨us, []⟩ (us ++ ds) (vs ++ dvs) Q E hr I.env0 (hb s us I.kIn hl) r2 h) fun r s' hq => ?_)
  cases r with
  | error e => exact hx pins σ H s e s' I hq
  | ok fl =>
    cases fl with
    | ret u => exact I.after hq
    | next => exact False.elim hq
    | brk => exact False.elim hq
    | cont => exact False.elim hq

theorem pe_call (F : FnOk X.prog X.w X.K X.mg X.base CX k f fd ps sp) (hr : Room k X.A) (hg : Gl X x) (hm : X.mg x = some (.ref f)) (hk : PySem.W.keepIn X.K (.ref f) = true) (hb : Binds X.K fd ps ds) (hd : Vals dvs ds) (hx : Passes CX X E)
    (ha : PA X (e :: es) t) (hdb : (x == ("__debug__" : Str)) = false := by decide) (he : starEach (e :: es) X.env = (false, eval e X.env) :: starEach es X.env := by rfl) (hpl : (backTo pos (starEach es X.env)).any (·.1) = false := by rfl) :
    PE X (.Call (.Name x p) (e :: es) [] pos) (tCall sp dvs E t) := by
  intro pins s σ H Q I h
  refine wpAny_Call_Name_kw (ld_glob I hg hm ?_ hdb)
  refine PySem.W.callWith_K (h₀ := X.base) I.ok.mod.kin hk (thn (ha pos pins s σ H _ I h) fun us s1 ⟨vs, H1, I1, r, q⟩ => ⟨I1.kIn, ?_⟩) he hpl
  exact run_fn F hr hb hd hx I1 r q
end

section
variable {X : Cx} {CX : CXT} {k : Nat} {f C : Addr} {fd : FuncData} {ps ks : List Str} {sp : Sp} {E : XK} {x m : Str} {p pos apos kpos : Pos} {e o : Expr} {es : List Expr} {kws : List Keyword} {te ta : TE} {t tk : TA} {nm : Option Str}
variable {g : List Value → List Value → List Value} {gV : List V → List V → List V}
end

structure FnScope (N P : List Str) (sc : Scope) : Prop where
  kind : sc.kind = .function
  co : sc.isCoroutine = false
  gen : sc.isGenerator = false
  nd : N.Nodup
  pre : N.take P.length = P
  par : ∀ x ∈ P, sc.names.lookup x = some .local ∨ sc.names.lookup x = some .cell
  nofree : ∀ y ∈ sc.names, y.2 ≠ .free

theorem bindL_out {kindOf : Str → Option NameKind} {x : Str} : ∀ {binds : List (Str × Value)} {m : Str → Option Value}, (∀ v, (x, v) ∉ binds) → bindL kindOf binds m x = m x
  | [], _, _ => rfl
  | (n, v) :: r, m, h => by
    unfold bindL
    rw [bindL_out fun w hw => h w (List.mem_cons_of_mem _ hw)]
    split
    · have : x ≠ n := by rintro rfl; exact h v List.mem_cons_self
      simp [this]
    · rfl
theorem bindC_out {kindOf : Str → Option NameKind} {x : Str} : ∀ {binds : List (Str × Value)} {m : Str → Option Value}, (∀ v, (x, v) ∉ binds) → bindC kindOf binds m x = m x
  | [], _, _ => rfl
  | (n, v) :: r, m, h => by
    unfold bindC
    rw [bindC_out fun w hw => h w (List.mem_cons_of_mem _ hw)]
    split
    · rfl
    · have : x ≠ n := by rintro rfl; exact h v List.mem_cons_self
      simp [this]
theorem bindL_get {kindOf : Str → Option NameKind} {x : Str} {v : Value} : ∀ {P : List Str} {vs : List Value} {i : Nat} {m : Str → Option Value}, P.Nodup → P[i]? = some x → vs[i]? = some v → kindOf x = some .local →
    bindL kindOf (P.zip vs) m x = some v
  | [], _, _, _, _, h, _, _ => by simp at h
  | _ :: _, [], _, _, _, _, h, _ => by simp at h
  | p :: P, w :: vs, 0, m, nd, h1, h2, hk => by
    simp at h1 h2; subst h1; subst h2
    show bindL kindOf ((p, w) :: P.zip vs) m p = _
    unfold bindL
    rw [bindL_out fun v hv => (List.nodup_cons.mp nd).1 (List.of_mem_zip hv).1, if_pos hk]
    simp
  | p :: P, w :: vs, i + 1, m, nd, h1, h2, hk => by
    show bindL kindOf ((p, w) :: P.zip vs) m x = _
    unfold bindL
    exact bindL_get (i := i) (List.nodup_cons.mp nd).2 (by simpa using h1) (by simpa using h2) hk
theorem bindC_get {kindOf : Str → Option NameKind} {x : Str} {v : Value} : ∀ {P : List Str} {vs : List Value} {i : Nat} {m : Str → Option Value}, P.Nodup → P[i]? = some x → vs[i]? = some v → kindOf x ≠ some .local →
    bindC kindOf (P.zip vs) m x = some v
  | [], _, _, _, _, h, _, _ => by simp at h
  | _ :: _, [], _, _, _, _, h, _ => by simp at h
  | p :: P, w :: vs, 0, m, nd, h1, h2, hk => by
    simp at h1 h2; subst h1; subst h2
    show bindC kindOf ((p, w) :: P.zip vs) m p = _
    unfold bindC
    rw [bindC_out fun v hv => (List.nodup_cons.mp nd).1 (List.of_mem_zip hv).1, if_neg hk]
    simp
  | p :: P, w :: vs, i + 1, m, nd, h1, h2, hk => by
    show bindC kindOf ((p, w) :: P.zip vs) m x = _
    unfold bindC
    exact bindC_get (i := i) (List.nodup_cons.mp nd).2 (by simpa using h1) (by simpa using h2) hk

def start (N : List Str) (vs : List V) : St := vs.map some ++ List.replicate (N.length - vs.length) none

def cxOf (CX : CXT) (P : Program) (w : World) (K : PySem.W.Frag) (mg : Str → Option Value) (base : Heap) (N : List Str) (qual : Str) (scope : Scope) (f : Addr) (cd : Value) (A : Around) (outer : List Env) (s : Shared) (H : Hp) (E : XK) : Cx where
  prog := P
  w := w
  K := K
  mg := mg
  base := base
  A := A.deeper (envOfC qual scope s.heap.objs.size f cd)
  N := N
  s₀ := s
  H₀ := H
  env := envOfC qual scope s.heap.objs.size f cd
  outer := outer
  stack := envOfC qual scope s.heap.objs.size f cd :: outer
  ex := []
  calm := true
  fn := fun _ => true
  pn := []
  xe := fun e s' => wpAny (model P w) (A.deeper (envOfC qual scope s.heap.objs.size f cd)) (leaving (envOfC qual scope s.heap.objs.size f cd) e) (fun _ s'' => CX outer H s E e s'') (fun e' s'' => CX outer H s E e' s'') s'

theorem cell_has {sc : Scope} {n : Nat} {x : Str} (h : sc.names.lookup x = some .cell) : ∃ c, (cellsFrom n sc.names []).lookup x = some c := by
  have q := PySem.W.cellsFrom_some sc.names n [] (.inl h)
  exact Option.isSome_iff_exists.mp q

theorem inv_start {CX : CXT} {P : Program} {w : World} {K : PySem.W.Frag} {mg : Str → Option Value} {base : Heap} {N ps : List Str} {qual : Str} {scope : Scope} {f : Addr} {cd : Value} {A : Around} {outer : List Env} {s s1 : Shared} {H : Hp} {E : XK} {us : List Value} {vs : List V}
    (S : FnScope N ps scope) (hd : A.handled = none) (e0 : Env0 P w K mg base A outer s H) (hl : vs.length = ps.length) (r : Vals vs us)
    (x : InCallC s s.heap.objs.size (bindL (envOfC qual scope s.heap.objs.size f cd).kindOf (ps.zip us) fun _ => none) (cellsFrom (s.heap.objs.size + 1) scope.names []) (bindC (envOfC qual scope s.heap.objs.size f cd).kindOf (ps.zip us) fun _ => none) s1) :
    Inv (cxOf CX P w K mg base N qual scope f cd A outer s H E) [] (start N vs) H s1 := by
  have hpl : ps.length ≤ N.length := by have := congrArg List.length S.pre; rw [List.length_take] at this; omega
  obtain ⟨h1, tk, rfl, hk⟩ := x.done
  have noA : ∀ b : Addr, b ∉ (cxOf CX P w K mg base N qual scope f cd A outer s H E).ex := fun b z => absurd (show b ∈ ([] : List Addr) from z) (by simp)
  refine ⟨⟨e0.mod, S.kind, rfl, rfl, Nat.le_refl _, fun y z c h1 h2 => ?_, fun y hy => ?_, fun y c _ h => ?_, fun _ => hd, Around.frames_deeper e0.frames, .inr ⟨rfl, rfl⟩, fun b z => absurd z (noA b), e0.bs, e0.bsz, fun b _ _ => noA b, fun b z => absurd z (noA b), e0.funs, e0.frf⟩,
    rfl, e0.bare, Un.kept hk, ⟨_, x.toInCall.ns, fun i y v h1 h2 h3 => ?_⟩, fun y c h => ⟨_, x.cell y c h⟩, e0.hok.fresh (Nat.le_refl _), fun y c h => ?_, fun p hp => absurd (show p ∈ ([] : List (Addr × Obj)) from hp) (by simp), e0.hok.kept hk, ?_⟩
  · exact name_of_addr x.apart (PySem.mem_of_lookup h1) (PySem.mem_of_lookup h2)
  · have hy : scope.names.lookup y = some .cell ∨ scope.names.lookup y = some .free := hy
    rcases hy with hy | hy
    · exact cell_has hy
    · exact absurd rfl (S.nofree _ (PySem.mem_of_lookup hy))
  · exact Nat.le_of_lt (x.above y c (PySem.mem_of_lookup h))
  · have hi : i < vs.length := by
      unfold start at h2
      by_cases hi : i < vs.length
      · exact hi
      · rw [List.getElem?_append_right (by simpa using hi)] at h2
        rw [List.getElem?_replicate] at h2
        split at h2 <;> cases h2
    have ha : vs[i]? = some v := by
      unfold start at h2
      rw [List.getElem?_append_left (by simpa using hi), List.getElem?_map] at h2
      cases e : vs[i]? with
      | none => rw [e] at h2; cases h2
      | some a => rw [e] at h2; cases h2; rfl
    obtain ⟨u, hu, rv⟩ := r.get ha
    have hp : ps[i]? = some y := by
      rw [← S.pre, List.getElem?_take_of_lt (by omega)]; exact h1
    have ndP : ps.Nodup := by rw [← S.pre]; exact S.nd.sublist (List.take_sublist _ _)
    refine ⟨u, rv, ?_⟩
    rcases S.par y (List.mem_of_getElem? hp) with k | k
    · exact .inl ⟨k, bindL_get ndP hp hu k⟩
    · obtain ⟨c, e⟩ := cell_has (n := s.heap.objs.size + 1) k
      refine .inr ⟨.inl k, c, e, ?_⟩
      have q := x.cell y c e
      rw [bindC_get ndP hp hu (by show scope.names.lookup y ≠ _; rw [k]; decide)] at q
      exact q
  · exact e0.hok.fresh (Nat.le_of_lt (x.above y c (PySem.mem_of_lookup h)))
  · unfold start
    show _ = N.length
    rw [List.length_append, List.length_map, List.length_replicate]
    omega

theorem fn_of {CX : CXT} {P : Program} {w : World} {K : PySem.W.Frag} {mg : Str → Option Value} {base : Heap} {k : Nat} {f : Addr} {name qual : Str} {params : Arguments} {body : List Stmt} {scope : Scope} {dV kV doc pm cdv ct oc : Value} {an od : Option Addr}
    {osl : Array (Option Value)} {N ps : List Str} {sp : Sp} (lk : K.lookup f = some ⟨oc, od, .func (PySem.W.fnOf name qual params body scope dV kV doc pm an cdv ct), osl⟩) (hcd : PySem.W.codeIn K cdv qual = true) (S : FnScope N ps scope)
    (len : ∀ vs H Q E, sp vs H Q E → vs.length = ps.length)
    (hbody : ∀ (A : Around) (outer : List Env) (s : Shared) (H : Hp) (vs : List V) (Q : VK) (E : XK), Room k (A.deeper (envOfC qual scope s.heap.objs.size f cdv)) → sp vs H Q E →
      ∃ t, PSs (cxOf CX P w K mg base N qual scope f cdv A outer s H E) body t ∧ t { nx := fun _ H' => Q .non H', rt := Q } (start N vs) H) :
    FnOk P w K mg base CX (k + 1) f (PySem.W.fnOf name qual params body scope dV kV doc pm an cdv ct) ps sp := by
  refine ⟨len, fun A outer s H args us vs Q E hr e0 hb r hsp => ?_⟩
  have hl := len _ _ _ _ hsp
  have KX : K.In s.heap := e0.mod.kin.keeps fun b o e => (e0.bs b o e).1
  have lim : s.heap.NoLimit := e0.mod.nolimit.keeps fun b o e => (e0.bs b o e).1
  have hkind : ∀ y ∈ ps.zip us, scope.names.lookup y.1 = some .local ∨ (scope.names.lookup y.1 = some .cell ∧ ((cellsFrom (s.heap.objs.size + 1) scope.names []).lookup y.1).isSome = true) := fun ⟨n, v⟩ hy => by
    rcases S.par n (List.of_mem_zip hy).1 with q | q
    · exact .inl q
    · exact .inr ⟨q, PySem.W.cellsFrom_some _ _ _ (.inl q)⟩
  refine codeAny_call_function hr.depth (KX _ _ lk) rfl S.co S.gen rfl (PySem.W.codeRec_of KX hcd) (hb _ _ _ _ ?_)
  refine wpAny_newFunctionEnv_cells S.kind hkind fun env he s1 x => ?_
  subst he
  refine ⟨lim.keeps x.toInCall.keep, codeAny_func ?_⟩
  obtain ⟨t, ht, hq⟩ := hbody A outer s H vs Q E (hr.deeper _) hsp
  have I : Inv (cxOf CX P w K mg base N qual scope f cdv A outer s H E) [] (start N vs) H s1 := inv_start S hr.hd e0 hl r x
  refine wpAny_mono (ht [] s1 (start N vs) H _ I hq) (fun fl s' hs => ?_) fun e s' hs => hs
  have fin : ∀ {σ' : St} {H' : Hp} {v : V} {u : Value}, Inv (cxOf CX P w K mg base N qual scope f cdv A outer s H E) [] σ' H' s' → RelV v u → Q v H' → CE outer P w H s Q u s' :=
    fun {σ' H' v u} J rv q => ⟨v, H', J.os, J.bare, J.base, J.hok, rv, q⟩
  cases fl with
  | ret u =>
    obtain ⟨v, σ', H', J, rv, q⟩ := hs
    exact fin J rv q
  | next =>
    obtain ⟨σ', H', J, q⟩ := hs
    exact fin (v := V.non) (u := Value.none) J rfl q
  | brk =>
    obtain ⟨_, _, _, q⟩ := hs
    exact False.elim q
  | cont =>
    obtain ⟨_, _, _, q⟩ := hs
    exact False.elim q
end L2

namespace L2
open PySem PySem.Spec PyProof.Rows
section
variable {X : Cx} {x : Str} {p pos : Pos} {e : Expr} {es : List Expr} {t : TA} {id T : String} {r : List V → Hp → VK → Prop}

def tCB (r : List V → Hp → VK → Prop) (t : TA) : TE := fun σ H Q => t σ H fun vs H1 => r vs H1 Q
theorem pe_callB (hc : CallR X (.builtin id) r) (hg : Gl X x) (hm : X.mg x = none) (hv : bootBuiltins x = some (.builtin id)) (ha : PA X (e :: es) t) (hn : x ≠ "__name__" := by decide) (hdb : (x == ("__debug__" : Str)) = false := by decide)
    (he : starEach (e :: es) X.env = (false, eval e X.env) :: starEach es X.env := by rfl) (hpl : (backTo pos (starEach es X.env)).any (·.1) = false := by rfl) : PE X (.Call (.Name x p) (e :: es) [] pos) (tCB r t) := by
  intro pins s σ H Q I h
  refine wpAny_Call_Name_kw (ld_blt I hg hm hv ?_ hn hdb)
  exact PyProof.Rows.callWith_builtin1 (thn (ha pos pins s σ H _ I h) fun us s1 ⟨vs, H1, I1, r1, q1⟩ => hc pins s1 σ H1 vs us Q I1 r1 q1) he hpl
end
end L2

namespace HT
open PySem PyProof.Rows

section
open PySem.SeqAt
open PySem.AutoSeq1 (wpAny_loadPart')
open PySem.MeetsSeq PySem.MeetsSeq2 PySem.MeetsSeq3

end

section
variable {prog : Program} {w : World} {A : Around} {E : Value → Shared → Prop} {s : Shared}

def sIx (n d : Nat) : Option Int → Nat
  | none => d
  | some v => if v < 0 then (v + (n : Int)).toNat else min v.toNat n
end
end HT

namespace L2
open PySem PySem.Spec PyProof.Rows

abbrev TO := St → Hp → (Option Int → Hp → Prop) → Prop
def PO (X : Cx) (e : Option Expr) (t : TO) : Prop :=
  ∀ (pins : List (Addr × Obj)) (s : Shared) (σ : St) (H : Hp) (Q : Option Int → Hp → Prop), Inv X pins σ H s → t σ H Q →
    wpAny (model X.prog X.w) X.A (evalPart e X.env) (fun u s' => ∃ o H', Inv X pins σ H' s' ∧ IsPart u o ∧ Q o H') X.xe s
def tNoPart : TO := fun _ H Q => Q none H
def tPart (t : TE) : TO := fun σ H Q => t σ H fun x H1 => ∃ i, x = .int i ∧ Q (some i) H1

section
variable {X : Cx} {e : Expr} {te : TE} {lo hi : Option Expr} {tl th : TO} {pos p2 : Pos}

theorem po_none : PO X none tNoPart := by
  intro pins s σ H Q I h
  rw [evalPart_none]
  exact wpAny_pure ⟨none, H, I, .none, h⟩
theorem po_some (h : PE X e te) : PO X (some e) (tPart te) := by
  intro pins s σ H Q I hw
  rw [evalPart_some]
  refine thn (h pins s σ H _ I hw) fun u s1 ⟨x, H1, I1, r1, q1⟩ => ?_
  obtain ⟨i, rfl, q⟩ := q1
  obtain ⟨t, rfl⟩ := r1
  exact ⟨some i, H1, I1, .int i t, q⟩

def SlR (X : Cx) (r : V → Option Int → Option Int → Hp → VK → Prop) : Prop :=
  ∀ (pins : List (Addr × Obj)) (s : Shared) (σ : St) (H : Hp) (x : V) (v vl vu : Value) (lo hi : Option Int) (sl : Addr) (Q : VK), Inv X pins σ H s → RelV x v → s.heap.IsSliceOf sl vl vu .none → IsPart vl lo → IsPart vu hi → r x lo hi H Q →
    ∃ T id, typeLookup (.type T) "__getitem__" = pure (some (.builtin id)) ∧ s.TypeIs v T ∧ wpAny (model X.prog X.w) X.A (getItem v (.ref sl)) (EP X pins σ Q) X.xe s
theorem SlR.or {r r' : V → Option Int → Option Int → Hp → VK → Prop} (h : SlR X r) (h' : SlR X r') : SlR X (fun x lo hi H Q => r x lo hi H Q ∨ r' x lo hi H Q) := by
  intro pins s σ H x v vl vu lo hi sl Q I rx hs pl pu q
  rcases q with q | q
  · exact h pins s σ H x v vl vu lo hi sl Q I rx hs pl pu q
  · exact h' pins s σ H x v vl vu lo hi sl Q I rx hs pl pu q
def tSl (r : V → Option Int → Option Int → Hp → VK → Prop) (te : TE) (tl th : TO) : TE := fun σ H Q => te σ H fun x H1 => tl σ H1 fun l H2 => th σ H2 fun u H3 => r x l u H3 Q
theorem pe_slice {r : V → Option Int → Option Int → Hp → VK → Prop} (hr : SlR X r) (he : PE X e te) (hl : PO X lo tl) (hu : PO X hi th) : PE X (.Subscript e (.Slice lo hi none p2) pos) (tSl r te tl th) := by
  intro pins s σ H Q I h
  refine Subscript_ (thn (he pins s σ H _ I h) fun v s1 ⟨x, H1, I1, r1, q1⟩ => ?_)
  refine wpAny_Slice (thn (hl pins s1 σ H1 _ I1 q1) fun vl s2 ⟨l, H2, I2, pl, q2⟩ => thn (hu pins s2 σ H2 _ I2 q2) fun vu s3 ⟨u, H3, I3, pu, q3⟩ => ?_)
  rw [evalPart_none]
  refine wpAny_pure ?_
  have I4 : Inv X pins σ H3 { s3 with heap := s3.heap.push { cls := .type "slice", data := .fields #[vl, vu, .none] } } := I3.kept (t' := s3.toks) fun b ob q => Heap.get?_push_of_some _ q
  obtain ⟨T, id, hT, ht, hg⟩ := hr pins { s3 with heap := s3.heap.push { cls := .type "slice", data := .fields #[vl, vu, .none] } } σ H3 x v vl vu l u s3.heap.objs.size Q I4 r1 (Heap.IsSliceOf.new ..) pl pu q3
  show wpAny (model X.prog X.w) X.A (subscriptTail e (.Slice lo hi none p2) v (.ref s3.heap.objs.size)) (EP X pins σ Q) X.xe { s3 with heap := s3.heap.push { cls := .type "slice", data := .fields #[vl, vu, .none] } }
  exact tail_any (ops := [.ref s3.heap.objs.size, v]) ht hT hg (by with_unfolding_all rfl)

def cutV (xs : List V) (lo hi : Option Int) : List V := (xs.drop (HT.sIx xs.length 0 lo)).take (HT.sIx xs.length xs.length hi - HT.sIx xs.length 0 lo)
theorem cutV_length (xs : List V) (lo hi : Option Int) : (cutV xs lo hi).length ≤ xs.length := by
  unfold cutV
  rw [List.length_take, List.length_drop]
  omega
end
end L2

namespace L2
open PySem PySem.Spec PyProof.Rows

def ixN (n : Nat) (i : Int) : Option Nat := if 0 ≤ i then (if i < n then some i.toNat else none) else if -(n : Int) ≤ i then some (i + n).toNat else none
def atI {α : Type} (xs : List α) (i : Int) : Option α := (ixN xs.length i).bind fun j => xs[j]?
theorem ixN_seq {n : Nat} {i : Int} {j : Nat} (h : ixN n i = some j) : seqIndex? i n = some j ∧ j < n ∧ -(n : Int) ≤ i ∧ i < n := by
  unfold ixN at h
  by_cases h0 : 0 ≤ i
  · rw [if_pos h0] at h
    by_cases h1 : i < n
    · rw [if_pos h1] at h
      have e : i.toNat = j := Option.some.inj h
      exact ⟨by rw [seqIndex_of h0 h1, e], by omega, by omega, h1⟩
    · rw [if_neg h1] at h; cases h
  · rw [if_neg h0] at h
    by_cases h1 : -(n : Int) ≤ i
    · rw [if_pos h1] at h
      have e : (i + n).toNat = j := Option.some.inj h
      exact ⟨by rw [seqIndex_neg (by omega) h1, e], by omega, h1, by omega⟩
    · rw [if_neg h1] at h; cases h
theorem atI_get {α : Type} {xs : List α} {i : Int} {v : α} (h : atI xs i = some v) : ∃ j, seqIndex? i xs.length = some j ∧ xs[j]? = some v ∧ j < xs.length ∧ -(xs.length : Int) ≤ i ∧ i < xs.length := by
  unfold atI at h
  cases e : ixN xs.length i with
  | none => rw [e] at h; cases h
  | some j =>
    rw [e] at h
    obtain ⟨h1, h2, h3, h4⟩ := ixN_seq e
    exact ⟨j, h1, h, h2, h3, h4⟩
theorem atI_nat {α : Type} {xs : List α} {j : Nat} {v : α} (h : xs[j]? = some v) : atI xs (j : Int) = some v := by
  have hj : j < xs.length := (List.getElem?_eq_some_iff.mp h).1
  have e : ixN xs.length (j : Int) = some j := by
    unfold ixN
    rw [if_pos (by omega), if_pos (by omega)]; simp
  unfold atI; rw [e]; exact h
def PlainIx (b : Expr) : Prop := ∀ o i, subscripted b false o i = operate [o, i] (getItem o i)
def IxR (X : Cx) (r : R2) : Prop :=
  ∀ (value slice : Expr) (pins : List (Addr × Obj)) (s : Shared) (σ : St) (H : Hp) (x y : V) (v u : Value) (Q : VK), Inv X pins σ H s → RelV x v → RelV y u → r x y H Q →
    subscripted slice false v u = operate [v, u] (getItem v u) → wpAny (model X.prog X.w) X.A (subscriptTail value slice v u) (EP X pins σ Q) X.xe s
def MtR (X : Cx) (id : String) (r : V → List V → Hp → VK → Prop) : Prop :=
  ∀ (pins : List (Addr × Obj)) (s : Shared) (σ : St) (H : Hp) (x : V) (xs : List V) (v : Value) (us : List Value) (Q : VK), Inv X pins σ H s → RelV x v → Vals xs us → r x xs H Q →
    wpAny (model X.prog X.w) X.A (call (.builtin id) (v :: us)) (EP X pins σ Q) X.xe s
section
variable {X : Cx} {a b : Expr} {ta tb : TE} {pos : Pos}
theorem IxR.or {r r' : R2} (h : IxR X r) (h' : IxR X r') : IxR X (fun x y H Q => r x y H Q ∨ r' x y H Q) := by
  intro value slice pins s σ H x y v u Q I rx ry q hs
  rcases q with q | q
  · exact h value slice pins s σ H x y v u Q I rx ry q hs
  · exact h' value slice pins s σ H x y v u Q I rx ry q hs
theorem MtR.or {id : String} {r r' : V → List V → Hp → VK → Prop} (h : MtR X id r) (h' : MtR X id r') : MtR X id (fun x xs H Q => r x xs H Q ∨ r' x xs H Q) := by
  intro pins s σ H x xs v us Q I rx rs q
  rcases q with q | q
  · exact h pins s σ H x xs v us Q I rx rs q
  · exact h' pins s σ H x xs v us Q I rx rs q
theorem pe_ix {r : R2} (hr : IxR X r) (ha : PE X a ta) (hb : PE X b tb) (hs : PlainIx b) : PE X (.Subscript a b pos) (tOp r ta tb) := by
  intro pins s σ H Q I h
  exact Subscript_ (binT ha hb I h fun v u s2 x y H2 I2 rx ry q => hr a b pins s2 σ H2 x y v u Q I2 rx ry q (hs _ _))

def rIxL (K : PySem.W.Frag) : R2 := fun x y H Q => ∃ p xs i v, x = .ref p ∧ y = .int i ∧ SqL K H p xs ∧ atI xs i = some v ∧ Q v H
def rIxT (K : PySem.W.Frag) : R2 := fun x y H Q => ∃ p xs i v, x = .ref p ∧ y = .int i ∧ SqT K H p xs ∧ atI xs i = some v ∧ Q v H
def rIxS : R2 := fun x y H Q => ∃ z i c, x = .str z ∧ y = .int i ∧ z.length ≤ sizeLine ∧ atI z.cps.toList i = some c ∧ Q (.str ⟨#[c]⟩) H
theorem ix_list : IxR X (rIxL X.K) := by
  intro value slice pins s σ H x y v u Q I rx ry h hs
  obtain ⟨p, xs, i, z, rfl, rfl, hq, he, q⟩ := h
  cases rx
  obtain ⟨t, rfl⟩ := ry
  obtain ⟨its, r, pl, hz⟩ := I.list hq
  obtain ⟨j, h1, h2, h3, h4, h5⟩ := atI_get he
  obtain ⟨w, ew, rw'⟩ := r.get h2
  have hl := r.length
  have hn := line63
  have fin : EP X pins σ Q w s := ⟨z, H, I, rw', q⟩
  by_cases h0 : 0 ≤ i
  · have hj : i.toNat = j := by
      rw [seqIndex_of h0 h5] at h1
      exact Option.some.inj h1
    exact item_listR pl.isList h0 (by omega) (by rw [hj]; simpa using ew) fin hs
  · have hj : (i + (its.toArray.size : Int)).toNat = j := by
      rw [seqIndex_neg (by omega) h4] at h1
      rw [List.size_toArray, ← hl]
      exact Option.some.inj h1
    exact subscriptTail_builtinR (x := w) pl.isList.typeIs slot_list_getitem.lookup
      (wpAny_getItem_list_neg (Q := fun r s' => r = w ∧ EP X pins σ Q r s') pl.isList (by omega) (by rw [List.size_toArray] <;> omega) (by omega) (by rw [hj]; simpa using ew) ⟨rfl, fin⟩) hs
theorem ix_tup : IxR X (rIxT X.K) := by
  intro value slice pins s σ H x y v u Q I rx ry h hs
  obtain ⟨p, xs, i, z, rfl, rfl, hq, he, q⟩ := h
  cases rx
  obtain ⟨t, rfl⟩ := ry
  obtain ⟨its, r, pl, hz⟩ := I.tuple hq
  obtain ⟨j, h1, h2, h3, h4, h5⟩ := atI_get he
  obtain ⟨w, ew, rw'⟩ := r.get h2
  have hl := r.length
  have hn := line63
  have fin : EP X pins σ Q w s := ⟨z, H, I, rw', q⟩
  exact subscriptTail_builtinR (x := w) pl.typeIs slot_tuple_getitem.lookup
    (getItem_tuple (j := j) (Q := fun r s' => r = w ∧ EP X pins σ Q r s') pl (by omega) (by omega) (by rw [List.size_toArray, ← hl]; exact h1) (by simpa using ew) ⟨rfl, fin⟩) hs
theorem ix_str : IxR X rIxS := by
  intro value slice pins s σ H x y v u Q I rx ry h hs
  obtain ⟨z, i, c, rfl, rfl, hz, he, q⟩ := h
  obtain ⟨t, rfl⟩ := rx
  obtain ⟨t', rfl⟩ := ry
  obtain ⟨j, h1, h2, h3, h4, h5⟩ := atI_get he
  have hl : z.cps.toList.length = z.length := by simp [Str.length]
  rw [hl] at h1 h4 h5
  have hn := line63
  exact tail_any (typeIs_str s z t) slot_str_getitem.lookup (getItem_str (c := c) (by
    have e1 : decide (i < -(2 ^ 63 : Int)) = false := decide_eq_false (by omega)
    have e2 : decide (i ≥ 2 ^ 63) = false := decide_eq_false (by omega)
    rw [e1, e2, Bool.or_false]) (by rw [h1]; simpa using h2) ⟨.str ⟨#[c]⟩, H, I.tok _, ⟨_, rfl⟩, q⟩) hs
def rIx (K : PySem.W.Frag) : R2 := fun x y H Q => rIxL K x y H Q ∨ rIxT K x y H Q ∨ rIxS x y H Q
theorem ix_seq : IxR X (rIx X.K) := ix_list.or (ix_tup.or ix_str)

theorem Inv.lst {pins : List (Addr × Obj)} {σ : St} {H : Hp} {s : Shared} {p : Addr} {xs : List V} (I : Inv X pins σ H s) (h : H p = some (.lst xs)) :
    ∃ (its : List Value) (n : Nat), Vals xs its ∧ s.heap.get? p = some { cls := .type "list", data := .seq its.toArray n } ∧ xs.length ≤ sizeLine := by
  obtain ⟨z, its, n, r, e⟩ := I.hok p _ h
  exact ⟨its, n, r, e, z⟩
theorem slice_bounds (lo hi : Option Int) (n : Nat) : (sliceBounds lo hi none n).1 = ((HT.sIx n 0 lo : Nat) : Int) ∧ (sliceBounds lo hi none n).2.1 = ((HT.sIx n n hi : Nat) : Int) ∧ (sliceBounds lo hi none n).2.2 = 1 := by
  refine ⟨?_, ?_, rfl⟩
  · cases lo with
    | none => simp [sliceBounds, HT.sIx]
    | some i =>
      simp only [sliceBounds, HT.sIx, Option.getD_none, show (1 : Int) > 0 by decide, if_true]
      by_cases h : i < 0
      · simp only [h, if_true] <;> omega
      · simp only [h, if_false] <;> omega
  · cases hi with
    | none => simp [sliceBounds, HT.sIx]
    | some i =>
      simp only [sliceBounds, HT.sIx, Option.getD_none, show (1 : Int) > 0 by decide, if_true]
      by_cases h : i < 0
      · simp only [h, if_true] <;> omega
      · simp only [h, if_false] <;> omega
theorem slicePick_cut (its : List Value) (lo hi : Option Int) : slicePick its.toArray lo hi none = ((its.drop (HT.sIx its.length 0 lo)).take (HT.sIx its.length its.length hi - HT.sIx its.length 0 lo)).toArray := by
  obtain ⟨h1, h2, h3⟩ := slice_bounds lo hi its.toArray.size
  unfold slicePick
  rw [h1, h2, h3]
  simp only [sliceRange_one, pick_run, List.size_toArray] <;> rfl
def rSlL (K : PySem.W.Frag) : V → Option Int → Option Int → Hp → VK → Prop := fun x lo hi H Q => ∃ a xs, x = .ref a ∧ SqL K H a xs ∧ ∀ p, H p = none → Q (.ref p) (upd H p (.lst (cutV xs lo hi)))
theorem sl_list : SlR X (rSlL X.K) := by
  intro pins s σ H x v vl vu lo hi sl Q I rx hs pl pu h
  obtain ⟨a, xs, rfl, hx, q⟩ := h
  cases rx
  obtain ⟨its, r, ht, hz⟩ := I.list hx
  have hlen := r.length
  refine ⟨"list", _, slot_list_getitem.lookup, ht.isList.typeIs, ?_⟩
  refine wpAny_getItem_list_slice ht.isList hs pl pu .none (by simp) ?_ (by rw [List.size_toArray] <;> omega)
  rw [slicePick_cut, ← hlen]
  refine ⟨.ref s.heap.objs.size, _, I.laid (t' := s.toks) (o := .lst (cutV xs lo hi)) (fun b ob q => Heap.get?_push_of_some _ q) (Nat.le_refl _) ?_, rfl, q _ (I.hok.fresh (Nat.le_refl _))⟩
  exact ⟨Nat.le_trans (cutV_length xs lo hi) hz, _, 0, (r.drop (HT.sIx xs.length 0 lo)).take (HT.sIx xs.length xs.length hi - HT.sIx xs.length 0 lo), Heap.get?_push_size _ rfl⟩

theorem call_len_seq : CallR X (.builtin "len") (fun xs H Q => ∃ p ys, xs = [.ref p] ∧ (SqL X.K H p ys ∨ SqT X.K H p ys) ∧ Q (.int ys.length) H) := by
  intro pins s σ H xs us Q I r h
  obtain ⟨p, ys, rfl, hq, q⟩ := h
  obtain ⟨u, rfl, rx⟩ := vals1 r
  cases rx
  have hn := line63
  rcases hq with hq | hq
  · obtain ⟨its, r', pl, hz⟩ := I.list hq
    have hlen := r'.length
    exact Calls.call_len_list pl.isList (by simp only [List.size_toArray] <;> omega) ⟨.int ys.length, H, I.tok _, ⟨s.toks + 1, by rw [List.size_toArray, hlen]⟩, q⟩
  · obtain ⟨its, r', pl, hz⟩ := I.tuple hq
    have hlen := r'.length
    exact len_tuple pl (by simp only [List.size_toArray] <;> omega) ⟨.int ys.length, H, I.tok _, ⟨s.toks + 1, by rw [List.size_toArray, hlen]⟩, q⟩
theorem CallR.or {f : Value} {r r' : List V → Hp → VK → Prop} (h : CallR X f r) (h' : CallR X f r') : CallR X f (fun xs H Q => r xs H Q ∨ r' xs H Q) := by
  intro pins s σ H xs us Q I rs q
  rcases q with q | q
  · exact h pins s σ H xs us Q I rs q
  · exact h' pins s σ H xs us Q I rs q
def tyV (K : PySem.W.Frag) (T : String) (x : V) (H : Hp) : Prop := match x with
  | .str _ => T = "str"
  | .int _ => T = "int"
  | .ref p => (T = "list" ∧ ∃ xs, SqL K H p xs) ∨ (T = "tuple" ∧ ∃ o, K.lookup p = some o ∧ o.cls = .type "tuple" ∧ o.dict = none) ∨
      (T = "dict" ∧ ((∃ kvs, H p = some (.dK kvs)) ∨ ∃ kvs, H p = some (.dT kvs))) ∨ (T = "set" ∧ ∃ S n, H p = some (.set S n))
  | _ => False
theorem tyV_is {pins : List (Addr × Obj)} {σ : St} {H : Hp} {s : Shared} {T : String} {x : V} {v : Value} (I : Inv X pins σ H s) (r : RelV x v) (ty : tyV X.K T x H) :
    s.TypeIs v T ∧ ∀ a, v = .ref a → ∃ ob, s.heap.get? a = some ob ∧ ob.dict = none := by
  cases x with
  | str z =>
    obtain ⟨t, rfl⟩ := r
    cases (show T = "str" from ty)
    exact ⟨typeIs_str s z t, fun _ e => nomatch e⟩
  | int i =>
    obtain ⟨t, rfl⟩ := r
    cases (show T = "int" from ty)
    exact ⟨typeIs_int s i t, fun _ e => nomatch e⟩
  | ref p =>
    cases r
    rcases ty with ⟨rfl, xs, hq⟩ | ⟨rfl, o, hk, hc, hd⟩ | ⟨rfl, hk⟩ | ⟨rfl, S, n, hk⟩
    · obtain ⟨its, _, pl, _⟩ := I.list hq
      refine ⟨pl.isList.typeIs, fun a e => ?_⟩
      cases e
      obtain ⟨o, n, e, c, hd, _⟩ := pl
      exact ⟨o, e, hd⟩
    · refine ⟨⟨o, I.kIn p o hk, hc⟩, fun a e => ?_⟩
      cases e
      exact ⟨o, I.kIn _ o hk, hd⟩
    · have z : ∃ o, s.heap.get? p = some o ∧ o.ExactDict := by
        rcases hk with ⟨kvs, hk⟩ | ⟨kvs, hk⟩
        · obtain ⟨_, _, _, _, o, _, _, e, ex, _⟩ := I.hok p _ hk
          exact ⟨o, e, ex⟩
        · obtain ⟨_, _, _, _, o, _, _, e, ex, _⟩ := I.hok p _ hk
          exact ⟨o, e, ex⟩
      obtain ⟨o, e, ex⟩ := z
      refine ⟨⟨o, e, ex.1⟩, fun a e2 => ?_⟩
      cases e2
      exact ⟨o, e, ex.2.1⟩
    · obtain ⟨o, _, _, _, e, ex, _⟩ := I.hok p _ hk
      refine ⟨⟨o, e, ex.1⟩, fun a e2 => ?_⟩
      cases e2
      exact ⟨o, e, ex.2.1⟩
  | _ => exact False.elim ty
def tBM0 (K : PySem.W.Frag) (T : String) (r : V → List V → Hp → VK → Prop) (to : TE) : TE := fun σ H Q => to σ H fun x H1 => tyV K T x H1 ∧ r x [] H1 Q
def tBM (K : PySem.W.Frag) (T : String) (r : V → List V → Hp → VK → Prop) (to : TE) (t : TA) : TE := fun σ H Q => to σ H fun x H1 => tyV K T x H1 ∧ t σ H1 fun xs H2 => r x xs H2 Q
variable {o e : Expr} {es : List Expr} {to : TE} {t : TA} {name : Str} {apos cpos : Pos} {T id : String} {r : V → List V → Hp → VK → Prop}
theorem pe_bm0 (pa : PlainAttrs T) (slot : Slot T name id) (hty : typeOf (.builtin id) = pure (.type "method_descriptor")) (hm : MtR X id r) (ho : PE X o to)
    (hbase : attributeBase o name X.env (eval o X.env) = eval o X.env := by rfl) (hline : (apos.endLine == cpos.line) = true := by rfl) : PE X (.Call (.Attribute o name apos) [] [] cpos) (tBM0 X.K T r to) := by
  intro pins s σ H Q I h
  refine wpAny_Call_method0_late hbase hline (thn (ho pins s σ H _ I h) fun v s1 ⟨x, H1, I1, r1, ty, q1⟩ => ?_)
  obtain ⟨h1, h2⟩ := tyV_is I1 r1 ty
  exact ⟨T, id, pa, slot, hty, h1, h2, Calls.callWith_builtin rfl (PySem.evalArgs_none (hm pins s1 σ H1 x [] v [] Q I1 r1 .nil q1))⟩
theorem pe_bm (pa : PlainAttrs T) (slot : Slot T name id) (hty : typeOf (.builtin id) = pure (.type "method_descriptor")) (hm : MtR X id r) (ho : PE X o to) (ha : PA X (e :: es) t)
    (hbase : attributeBase o name X.env (eval o X.env) = eval o X.env := by rfl)
    (hfew : ((backTo cpos (starEach (e :: es) X.env)).all (fun x => !x.1) && (backToKw cpos (keywordEach [] X.env)).all (fun x => x.1.isSome)
      && decide ((e :: es).length + ([] : List Keyword).length + (if ([] : List Keyword).isEmpty then 0 else 1) < 30)) = true := by rfl)
    (hline : (apos.endLine == cpos.line) = true := by rfl) (hs : starEach (e :: es) X.env = (false, eval e X.env) :: starEach es X.env := by rfl) (hplain : (backTo cpos (starEach es X.env)).any (·.1) = false := by rfl) :
    PE X (.Call (.Attribute o name apos) (e :: es) [] cpos) (tBM X.K T r to t) := by
  intro pins s σ H Q I h
  refine wpAny_Call_method_late hbase hfew hline rfl (thn (ho pins s σ H _ I h) fun v s1 ⟨x, H1, I1, r1, ty, q1⟩ => ?_)
  obtain ⟨h1, h2⟩ := tyV_is I1 r1 ty
  refine ⟨T, id, pa, slot, hty, h1, h2, ?_⟩
  have hA := ha cpos pins s1 σ H1 _ I1 q1
  rw [hs] at hA ⊢
  refine Calls.callWith_builtin (by show (false || (backTo cpos (starEach es X.env)).any (·.1)) = false; rw [hplain] <;> rfl) (Calls.evalArgs_plain ?_)
  exact thn hA fun us s2 ⟨vs, H2, I2, r2, q2⟩ => hm pins s2 σ H2 x vs v us Q I2 r1 r2 q2
/- xs.append(e), list.index on a module's tuple .. are MtR facts of 06m -/
end
end L2

namespace L2
open PySem PySem.Spec PyProof.Rows

def MtM (X : Cx) (id : String) (r : V → List V → Hp → VK → Prop) : Prop :=
  ∀ (pins : List (Addr × Obj)) (s : Shared) (σ : St) (H : Hp) (x : V) (xs : List V) (v : Value) (us : List Value) (Q : VK), Inv X pins σ H s → RelV x v → Vals xs us → r x xs H Q →
    wpAny (model X.prog X.w) X.A (call (.builtin id) (v :: us)) (EP X pins σ Q) X.xe s

theorem Vals.one : ∀ {x : V} {us : List Value}, Vals [x] us → ∃ u, us = [u] ∧ RelV x u
  | _, _, .cons r .nil => ⟨_, rfl, r⟩
theorem Vals.two : ∀ {x y : V} {us : List Value}, Vals [x, y] us → ∃ u v, us = [u, v] ∧ RelV x u ∧ RelV y v
  | _, _, _, .cons r (.cons q .nil) => ⟨_, _, rfl, r, q⟩
theorem Vals.zero : ∀ {us : List Value}, Vals [] us → us = []
  | _, .nil => rfl
section
variable {X : Cx} {pins : List (Addr × Obj)} {σ : St} {H : Hp} {s : Shared} {l b : Addr} {xs ys zs : List V}

theorem Inv.lset {its its' : List Value} {n : Nat} {f : Array Value → Array Value} {t' : Nat} (I : Inv X pins σ H s) (hH : H l = some (.lst xs))
    (e : s.heap.get? l = some { cls := .type "list", data := .seq its.toArray n }) (hf : f its.toArray = its'.toArray) (hv : Vals ys its') (hz : ys.length ≤ sizeLine) :
    Inv X pins σ (upd H l (.lst ys)) { s with heap := s.heap.update l (Obj.mapSeq f), toks := t' } := by
  have q := PySem.IsL.update e f
  rw [hf] at q
  refine I.write (x := l) (e := l) (by rw [hH]; exact trivial) (.inl rfl) (fun b' u hb hu => (Heap.get?_update_other s.heap (Obj.mapSeq f) (Ne.symm hb)).trans hu) ⟨_, q⟩ ?_
  exact ⟨hz, its', _, hv, q⟩
theorem Inv.lnew {its : List Value} {t' : Nat} (I : Inv X pins σ H s) (hv : Vals ys its) (hz : ys.length ≤ sizeLine) :
    Inv X pins σ (upd H s.heap.objs.size (.lst ys)) { s with heap := s.heap.push { cls := .type "list", data := .seq its.toArray }, toks := t' } :=
  I.laid (fun _ _ q => Heap.get?_push_of_some _ q) (Nat.le_refl _) ⟨hz, its, 0, hv, Heap.get?_push_size _ rfl⟩
theorem Inv.fresh (I : Inv X pins σ H s) : H s.heap.objs.size = none := I.hok.fresh (Nat.le_refl _)
theorem Inv.lstM (I : Inv X pins σ H s) (hH : H l = some (.lst xs)) : xs.length ≤ sizeLine ∧ ∃ (its : List Value) (n : Nat), Vals xs its ∧ xs.length = its.length ∧ s.heap.get? l = some { cls := .type "list", data := .seq its.toArray n } := by
  obtain ⟨z, its, n, r, e⟩ := I.hok l _ hH
  exact ⟨z, its, n, r, r.length, e⟩

end

section
variable {X : Cx}

def rAppend : V → List V → Hp → VK → Prop := fun x vs H Q => ∃ l xs y, x = .ref l ∧ vs = [y] ∧ H l = some (.lst xs) ∧ xs.length < sizeLine ∧ Q .non (upd H l (.lst (xs ++ [y])))
theorem mt_append : MtM X "list.append" rAppend := by
  intro pins s σ H x vs v us Q I rx rv h
  obtain ⟨l, xs, y, rfl, rfl, hH, hz, q⟩ := h
  cases rx
  obtain ⟨u, rfl, ru⟩ := rv.one
  obtain ⟨z, its, n, r, hl, e⟩ := I.lstM hH
  refine call_meets F.slot_list_append ⟨_, e, rfl⟩ F.entry_list_append (F.args_list_append_2 _ _) (PySem.list_append l its.toArray n u (by rw [List.size_toArray]; omega)) ⟨e, ?_⟩
  refine ⟨.non, _, I.lset (its' := its ++ [u]) hH e (by simp) (r.append (.cons ru .nil)) ?_, rfl, q⟩
  rw [List.length_append, List.length_singleton]
  omega

def rCat : R2 := fun x y H Q => ∃ l b xs zs, x = .ref l ∧ y = .ref b ∧ H l = some (.lst xs) ∧ H b = some (.lst zs) ∧ xs.length + zs.length ≤ sizeLine ∧ ∀ p, H p = none → Q (.ref p) (upd H p (.lst (xs ++ zs)))
theorem op_cat : OpR X (binaryOp .Add) rCat := by
  intro pins s σ H x y v u Q I rx ry h
  obtain ⟨l, b, xs, zs, rfl, rfl, hH, hB, hz, q⟩ := h
  cases rx
  cases ry
  obtain ⟨z, its, n, r, hl, e⟩ := I.lstM hH
  obtain ⟨z2, its2, n2, r2, hl2, e2⟩ := I.lstM hB
  refine PySem.P.add_list e e2 ?_ (by rw [List.size_toArray, List.size_toArray]; omega)
  have ea : its.toArray ++ its2.toArray = (its ++ its2).toArray := by simp
  rw [ea]
  exact ⟨.ref _, _, I.lnew (t' := s.toks) (r.append r2) (by rw [List.length_append]; omega), rfl, q _ I.fresh⟩
end

section
variable {prog : Program} {w : World} {A : Around} {E : Value → Shared → Prop} {s : Shared}
set_option maxRecDepth 100000 in
end

section
variable {X : Cx}
end
end L2

namespace Att
open PySem PySem.W PySem.Calls PyProof.Rows

theorem ints_of_wellAll {P : Params} {h : Heap} : ∀ (ns : List Int) (vs : List Value), WellAll P h vs (ns.map WData.int) → IntsAre vs ns := by
  intro ns
  induction ns with
  | nil =>
    intro vs w
    rw [List.map_nil] at w
    cases w
    exact .nil
  | cons n ns ih =>
    intro vs w
    rw [List.map_cons] at w
    cases w with
    | cons a b =>
      cases a
      exact .cons _ _ (ih _ b)

theorem script_of {l : OpenLaw} {n : Nat} (hn : l.most = some n) {P : Params} {h : Heap} {args : List WData} {vals : List Value}
    (hpre : l.row.toRowW.claim.pre args = true) (hwl : WellAll P h vals args) :
    ∃ a vs ns, vals = [Value.ref a] ∧ args = [WData.list (ns.map WData.int)] ∧ h.get? a = some { cls := .type "list", data := .seq vs.toArray } ∧ IntsAre vs ns ∧ ns.length ≤ n := by
  have hsh : WShape.hasAll [] args [.list .int] = true := (pre_splitW hpre).1
  have hc : l.pre.holds [] { args := args } = true := (pre_splitW hpre).2
  obtain ⟨d, r, rfl, h1, h2⟩ := hasAllW_cons hsh
  obtain rfl := hasAllW_nil h2
  obtain ⟨xs, rfl, h3⟩ := hasW_list h1
  obtain ⟨ns, rfl⟩ := items_int h3
  have hlen : ns.length ≤ n := by
    unfold OpenLaw.pre at hc
    have h4 : (WTm.not (.lt (.lit (.int (n : Int))) (.len (.arg 0)))).holds [] { args := [.list (ns.map .int)] } = true := by
      have h4 := (holds_andW hc).1
      rw [hn] at h4
      exact h4
    have h5 := condW_of h4 (w_not (w_lt w_lit (w_len_list (w_arg rfl))))
    rw [List.length_map] at h5
    refine Nat.le_of_not_lt fun q => ?_
    have q' : (n : Int) < ((ns.length : Nat) : Int) := by omega
    first
      | (rw [decide_eq_true q'] at h5; exact absurd h5 (by decide))
      | (simp at h5; omega)
  cases hwl with
  | cons w1 w2 =>
    cases w2
    cases w1 with
    | list ho hall => exact ⟨_, _, ns, rfl, rfl, ho, ints_of_wellAll ns _ hall, hlen⟩

theorem post_true (l : OpenLaw) (args : List WData) : l.row.toRowW.claim.post args (.bool true) args = true :=
  postW_of (r := l.row.toRowW) (X := (true == true))
    (show WShape.has [] (.bool true) .bool = true by first | rfl | decide | simp [WShape.has, WShape.arms, WShape.armsAll])
    (show (WTm.eq .res (.lit (.bool true))).value [] { args := args, res := some (.bool true), after := args } = some (.bool (true == true)) from w_eq_bool (w_res rfl) w_lit) rfl

theorem attach_call {l : OpenLaw} {n : Nat} {q : Program} {loose : List Str} {XP : (Str → Option Value) → Heap → Prop} {YP : World → Heap → Prop} {d : DefRec}
    (hn : l.most = some n) (hdf : d.params.defaults = [])
    (call : ∀ (w : World) (s₀ s₁ : Shared) (mg mb : Str → Option Value) (fa : Addr) (o : Obj) (pm cd doc : Value) (a : Addr) (vs : List Value) (ns : List Int),
      Ground q loose [] XP w s₀ mg mb s₁.heap → YP w s₁.heap →
      s₁.heap.get? fa = some o → o.data = .func (docDef d.name d.params d.body d.scope pm cd doc) → s₁.heap.CodeRec cd d.name → mg d.name = some (.ref fa) →
      s₁.heap.get? a = some { cls := .type "list", data := .seq vs.toArray } → IntsAre vs ns → ns.length ≤ n → s₁.gens = #[] →
      codeAny (model l.prog w) callerA (.call (.ref fa) ⟨[.ref a], []⟩) (fun r s' => r = .ok (.ret (.bool true)) ∧ OldK s₁.heap s'.heap ∧ s'.os = s₁.os ∧ AllBare s'.gens) s₁) :
    WalkO q loose XP YP l.row.toRowW d [] (fun f vs => PySem.call f vs) := by
  intro w s₀ s₁ mg mb G Y fa o pm cd doc dV kV ho hd hcd hD hmg hg args vals as hpre hlay hrd hwl hlo
  obtain rfl : dV = .none := Dflts.none hD hdf
  obtain rfl : kV = .none := Dflts.noKw hD
  obtain ⟨a, vs, ns, rfl, rfl, hobj, hints, hlen⟩ := script_of hn hpre hwl
  refine enter_call (codeAny_mono (call w s₀ s₁ mg mb fa o pm cd doc a vs ns G Y ho (fd_plain hd) hcd hmg hobj hints hlen hg) fun r s' hq => ?_)
  obtain ⟨rfl, h2, h3, h4⟩ := hq
  exact ⟨.inl ⟨.bool true, .bool true, [], rfl, fun _ => rfl, .bool true, post_true l _, fun _ => ⟨List.Pairwise.nil, fun _ hm => (nomatch hm)⟩⟩, h2, h3, h4⟩

section
variable {prog : Program} {w : World} {A : Around} {E : Value → Shared → Prop} {s : Shared} {K : Frag}

def ledger (h : Heap) (L d : Addr) : List (Addr × Obj) := (List.range h.objs.size).filterMap fun a => if a = L ∨ a = d then none else (h.get? a).map fun o => (a, o)
end
end Att

namespace L2
open PySem PySem.Spec PyProof.Rows

theorem vals_ints : ∀ {vs : List Value} {ns : List Int}, IntsAre vs ns → Vals (ns.map V.int) vs
  | _, _, .nil => .nil
  | _, _, .cons n t h => .cons ⟨t, rfl⟩ (vals_ints h)

def Only (H : Hp) : Prop := ∀ b, H b = none ∨ ∃ o xs, H b = some (.frz o (.lst xs))

theorem law_call {P : Program} {w : World} {K : PySem.W.Frag} {mg mb : Str → Option Value} {CX : CXT} {k : Nat} {fa a : Addr} {fd : FuncData} {x : Str} {sp : Sp} {s₁ : Shared} {vs : List Value} {ns : List Int}
    (KX : K.In s₁.heap) (hns : s₁.heap.Ns mainGlobals mg) (hb : s₁.heap.Ns builtinsNs mb) (hbb : ∀ x : Str, x ≠ "__name__" → mb x = bootBuiltins x) (hlim : s₁.heap.NoLimit) (hg : s₁.gens = #[])
    (ha : s₁.heap.get? a = some { cls := .type "list", data := .seq vs.toArray }) (hi : IntsAre vs ns) (hl : ns.length ≤ sizeLine) (hr : Room k callerA)
    (F : ∀ base : Heap, K.In base → base.Ns mainGlobals mg → FnOk P w K mg base CX k fa fd [x] sp) (hbind : ∀ (s : Shared) (u : Value), BindsTo s fd ⟨[u], []⟩ [(x, u)])
    (hsp : ∀ H : Hp, Only H → SqL K H a (ns.map V.int) → sp [.ref a] H (fun v _ => v = .bl true) fun _ _ _ => False)
    (hCX : ∀ H e s', CX [] H s₁ (fun _ _ _ => False) e s' → False) :
    codeAny (model P w) callerA (.call (.ref fa) ⟨[.ref a], []⟩) (fun r s' => r = .ok (.ret (.bool true)) ∧ OldK s₁.heap s'.heap ∧ s'.os = s₁.os ∧ AllBare s'.gens) s₁ := by
  have rv := vals_ints hi
  have lenV := hi.length
  -- from an abstract heap in which nothing but the script may be tracked
  have core : ∀ H : Hp, Only H → SqL K H a (ns.map V.int) → HOk P w H s₁.heap → (∀ b, H b ≠ none → b = a) → (H a ≠ none → K.lookup a = none) →
      codeAny (model P w) callerA (.call (.ref fa) ⟨[.ref a], []⟩) (fun r s' => r = .ok (.ret (.bool true)) ∧ OldK s₁.heap s'.heap ∧ s'.os = s₁.os ∧ AllBare s'.gens) s₁ := by
    intro H hO hS hok hA hK
    have base_of : ∀ {b : Addr} {o : Obj}, s₁.heap.get? b = some o → H b = none → (hidT s₁.heap H).get? b = some o := fun e n => hidT_get e n
    have noA : ∀ {b : Addr} {o : Obj} {es : Array DictEntry} {ep : Nat}, s₁.heap.get? b = some o → o.data = .dict es ep → H b = none := fun {b o es ep} e d => by
      cases q : H b with
      | none => rfl
      | some u =>
        have e' : b = a := hA b (by rw [q]; simp)
        subst e'
        rw [ha] at e; cases e
        have d' : Data.seq vs.toArray _ = Data.dict es ep := d
        cases d'
    have nsK : ∀ {b : Addr} {m : Str → Option Value}, s₁.heap.Ns b m → (hidT s₁.heap H).Ns b m := fun {b m} ⟨o, es, ep, e, d, r⟩ => ⟨o, es, ep, base_of e (noA e d), d, r⟩
    have hKb : K.In (hidT s₁.heap H) := fun b o e => base_of (KX b o e) (by
      cases q : H b with
      | none => rfl
      | some u =>
        have e' : b = a := hA b (by rw [q]; simp)
        subst e'
        rw [hK (by rw [q]; simp)] at e; cases e)
    have hM : Mod K mg (hidT s₁.heap H) := ⟨hKb, nsK hns, ⟨mb, nsK hb, hbb⟩, let ⟨mc, h1, h2⟩ := hlim; ⟨mc, nsK h1, h2⟩⟩
    have e0 : Env0 P w K mg (hidT s₁.heap H) callerA [] s₁ H := ⟨rfl, hM, fun b o e => of_hidT e, Nat.le_of_eq (hidT_size _ _), trivial, fun b hb => absurd (show b ∈ ([] : List Addr) from hb) (by simp), hok, .of_eq hg⟩
    refine codeAny_mono ((F _ hKb (nsK hns)).run callerA [] s₁ H ⟨[.ref a], []⟩ [.ref a] [.ref a] _ _ hr e0 (hbind s₁ (.ref a)) (.cons rfl .nil) (hsp H hO hS)) fun r s' h => ?_
    cases r with
    | error e => exact (hCX H e s' h).elim
    | ok fl =>
      cases fl with
      | next => exact False.elim h
      | brk => exact False.elim h
      | cont => exact False.elim h
      | ret u =>
        obtain ⟨v, H', os, bare, un, hok', r', q⟩ := h
        have q' : v = .bl true := q
        subst q'
        obtain rfl : u = Value.bool true := r'
        refine ⟨rfl, OldK.of_keep fun b o e => ?_, os, bare⟩
        cases q : H b with
        | none => exact un.keep b o e q (by intro z; exact absurd (show b ∈ ([] : List Addr) from z) (by simp)) (by simp)
        | some u =>
          rcases hO b with z | ⟨ob, xs, z⟩
          · rw [q] at z; cases z
          · have z2 := un.frzs b ob _ z
            obtain ⟨e1, _⟩ := hok b _ z
            obtain ⟨e2, _⟩ := hok' b _ z2
            rw [e] at e1; cases e1
            exact e2
  cases hk : K.lookup a with
  | some o =>
    -- the script is one of the module's own objects
    have e := KX a o hk
    rw [ha] at e
    cases e
    refine core (fun _ => none) (fun _ => .inl rfl) (.inr ⟨_, vs.toArray, _, hk, rfl, rfl, rfl, by rw [List.size_toArray, lenV]; exact hl, by simpa using rv⟩) (fun b u z => by have z' : (none : Option HO) = some u := z; cases z') (fun b z => absurd rfl z) fun z => absurd rfl z
  | none =>
    refine core (fun b => if b = a then some (.frz { cls := .type "list", data := .seq vs.toArray } (.lst (ns.map V.int))) else none) (fun b => ?_) (.inl (.inr ⟨{ cls := .type "list", data := .seq vs.toArray }, if_pos rfl⟩)) (fun b u z => ?_) (fun b z => ?_) fun _ => hk
    · by_cases hb : b = a
      · exact .inr ⟨_, _, if_pos hb⟩
      · exact .inl (if_neg hb)
    · by_cases hb : b = a
      · have z' := (if_pos hb).symm.trans z
        cases z'
        subst hb
        exact ⟨ha, by rw [List.length_map]; exact hl, vs, _, rv, ha⟩
      · have z' := (if_neg hb).symm.trans z
        cases z'
    · by_cases hb : b = a
      · exact hb
      · exact absurd (if_neg hb) z
end L2

namespace L2
open PySem PySem.Spec PyProof.Rows

abbrev KOf {K : PySem.W.Frag} {h : Heap} (_ : K.In h) : PySem.W.Frag := K

theorem walk_of {l : PySem.W.OpenLaw} {n k : Nat} {q : Program} {loose : List Str} {XP : (Str → Option Value) → Heap → Prop} {YP : World → Heap → Prop} {d : DefRec} {K : Params → PySem.W.Frag} {CX : World → CXT} {sp : World → Sp} {x : Str}
    (hn : l.most = some n) (hn2 : n ≤ sizeLine) (hdf : d.params.defaults = []) (hr : Room k callerA)
    (hY : ∀ (w : World) (h : Heap), YP w h → (K w.params).In h)
    (F : ∀ (w : World) (mg : Str → Option Value) (fa : Addr) (h : Heap), (K w.params).In h → h.Ns mainGlobals mg → mg d.name = some (.ref fa) →
      ∃ fd : FuncData, (∀ (s : Shared) (u : Value), BindsTo s fd ⟨[u], []⟩ [(x, u)]) ∧
        ∀ base : Heap, (K w.params).In base → base.Ns mainGlobals mg → FnOk l.prog w (K w.params) mg base (CX w) k fa fd [x] (sp w))
    (hsp : ∀ (w : World) (H : Hp) (a : Addr) (ns : List Int), ns.length ≤ n → Only H → SqL (K w.params) H a (ns.map V.int) → sp w [.ref a] H (fun v _ => v = .bl true) fun _ _ _ => False)
    (hCX : ∀ (w : World) (H : Hp) (s : Shared) (e : Value) (s' : Shared), CX w [] H s (fun _ _ _ => False) e s' → False) :
    PySem.W.WalkO q loose XP YP l.row.toRowW d [] (fun f vs => PySem.call f vs) := by
  refine Att.attach_call hn hdf fun w s₀ s₁ mg mb fa o pm cd doc a vs ns G Y ho hd hcd hmg hobj hints hlen hg => ?_
  have KX := hY w _ Y
  obtain ⟨fd, hb, hF⟩ := F w mg fa _ KX G.T.g hmg
  exact law_call KX G.T.g G.T.b G.T.builtins G.T.nolimit hg hobj hints (Nat.le_trans hlen hn2) hr hF hb (fun H hO hS => hsp w H a ns hlen hO hS) fun H e s' => hCX w H s₁ e s'
end L2

/- THE LAST THEOREM (shape; LID, My.* are yours):
   My.Adr: a structure of the addresses that your layer names (classes, functions); My.Txt K t: a structure (Prop) of the equations over K;
   My.txt_mk : {K} {implicit addresses ..} (e1 : nsIn K mainGlobals "law" = some (some (.ref f))) (e2 : K.lookup f = some ⟨oc, od, .func (fnOf "law" "law" params body scope dV kV doc pm an cdv ct), sl⟩) (e3 : codeIn K cdv "law" = true) .. : ∃ t, My.Txt K t

set_option maxRecDepth 100000 in
set_option maxHeartbeats 0 in
theorem PySem.Challenge.cw_LID_holds : PySem.Challenge.rw_LID.Holds := by
  w_on; o_law; k_head; (case hw => w_witness2)
  k_fill
  refine L2.walk_of (l := PySem.Challenge.rw_LID) (n := 63) (k := 40) (x := "script") (CX := fun w => ..) (sp := fun _ => My.sp_law) rfl (by decide) rfl ⟨rfl, by decide, by decide⟩ (fun w h Y => PySem.W.kIn_of Y) ?F ?S ?C
  case F =>
    intro w mg fa h KX G hmg
    have T : ∃ t, My.Txt (L2.KOf KX) t := by
      dsimp only [L2.KOf]                          -- K must stand as «<heap const> w.params» for k_is
      refine' My.txt_mk ?e1 ?e2 ?e3 ..
      (case e1 => PySem.W.k_is)                    -- in the order: a name -> its address -> its object -> its parts
      (case e2 => PySem.W.k_is)
      ..
    obtain ⟨t, T⟩ := T
    have e0 := hmg.symm.trans (PySem.W.mg_of KX G T.law)
    cases e0                                       -- fa is the law's own address
    exact ⟨_, fun s u => .of_eq rfl, fun base kb nb => My.law_fn T kb nb⟩     -- if «.of_eq rfl» comes too early: refine' ⟨_, ?b, fun base kb nb => My.law_fn T kb nb⟩; exact fun s u => .of_eq rfl
  case S => exact fun w H a ns hl hO hS => ..
  case C => exact ..
(the tactic k_is has no namespace: write k_is) -/

namespace L2
open PySem PySem.Spec PyProof.Rows

def inClass (s : Stmt) (j : Nat) : Stmt := match s with
  | .ClassDef _ _ _ body _ _ _ _ _ _ _ => body.getD j (.Pass ⟨0, 0, 0, 0⟩)
  | _ => .Pass ⟨0, 0, 0, 0⟩
def defArgs (s : Stmt) : Arguments := match s with
  | .FunctionDef _ a _ _ _ _ _ _ _ _ => a
  | _ => { posonlyargs := [], args := [], vararg := none, kwonlyargs := [], kw_defaults := [], kwarg := none, defaults := [] }
def defBody (s : Stmt) : List Stmt := match s with
  | .FunctionDef _ _ b _ _ _ _ _ _ _ => b
  | _ => []
def defScope (s : Stmt) : Scope := match s with
  | .FunctionDef _ _ _ _ _ _ sc _ _ _ => sc
  | _ => { kind := .function, names := [], isGenerator := false, isCoroutine := false }

abbrev CX0 : CXT := fun _ _ _ _ _ _ => False
abbrev E0 : XK := fun _ _ _ => False
theorem pass0 {X : Cx} : Passes CX0 X E0 := fun _ _ _ _ _ _ _ h => h.elim

structure Fun (K : PySem.W.Frag) (x qual : Str) (st : Stmt) (f : Addr) (fd : FuncData) : Prop where
  ex : ∃ (oc : Value) (od : Option Addr) (kV doc pm : Value) (an : Option Addr) (cdv ct : Value) (osl : Array (Option Value)),
    fd = PySem.W.fnOf x qual (defArgs st) (defBody st) (defScope st) .none kV doc pm an cdv ct ∧ K.lookup f = some ⟨oc, od, .func fd, osl⟩ ∧ PySem.W.codeIn K cdv qual = true
  kp : PySem.W.keepIn K (.ref f) = true
section
variable {P : Program} {w : World} {K : PySem.W.Frag} {mg : Str → Option Value} {base : Heap}
theorem Fun.ok {x qual : Str} {st : Stmt} {f : Addr} {fd : FuncData} {N ps : List Str} {k : Nat} {sp : Sp} (F : Fun K x qual st f fd) (S : FnScope N ps (defScope st)) (len : ∀ vs H Q E, sp vs H Q E → vs.length = ps.length)
    (hbody : ∀ (cdv : Value) (A : Around) (outer : List Env) (s : Shared) (H : Hp) (vs : List V) (Q : VK) (E : XK), Room k (A.deeper (envOfC qual (defScope st) s.heap.objs.size f cdv)) → sp vs H Q E →
      ∃ t, PSs (cxOf CX0 P w K mg base N qual (defScope st) f cdv A outer s H E).nox (defBody st) t ∧ t { nx := fun _ H' => Q .non H', rt := Q } (start N vs) H) : FnOk P w K mg base CX0 (k + 1) f fd ps sp := by
  obtain ⟨oc, od, kV, doc, pm, an, cdv, ct, osl, rfl, lk, hcd⟩ := F.ex
  refine fn_of lk hcd S len fun A outer s H vs Q E hr hsp => ?_
  obtain ⟨t, h, q⟩ := hbody cdv A outer s H vs Q E hr hsp
  exact ⟨t, h.nox, q⟩
theorem Fun.binds {x qual : Str} {st : Stmt} {f : Addr} {fd : FuncData} {ps : List Str} (F : Fun K x qual st f fd)
    (h : ∀ (kV doc pm : Value) (an : Option Addr) (cdv ct : Value) (us : List Value), us.length = ps.length → bindArgs (PySem.W.fnOf x qual (defArgs st) (defBody st) (defScope st) .none kV doc pm an cdv ct) ⟨us, []⟩ = pure (ps.zip us)) : Binds K fd ps [] := by
  obtain ⟨oc, od, kV, doc, pm, an, cdv, ct, osl, rfl, lk, hcd⟩ := F.ex
  exact .all (h kV doc pm an cdv ct)
theorem fun_mk {x qual : Str} {st : Stmt} {f : Addr} {oc : Value} {od an : Option Addr} {osl : Array (Option Value)} {kV doc pm cdv ct : Value} (l : K.lookup f = some ⟨oc, od, .func (PySem.W.fnOf x qual (defArgs st) (defBody st) (defScope st) .none kV doc pm an cdv ct), osl⟩)
    (c : PySem.W.codeIn K cdv qual = true) (k : PySem.W.keepIn K (.ref f) = true) : Fun K x qual st f (PySem.W.fnOf x qual (defArgs st) (defBody st) (defScope st) .none kV doc pm an cdv ct) := ⟨⟨oc, od, kV, doc, pm, an, cdv, ct, osl, rfl, l, c⟩, k⟩
end
theorem small1000 {n : Nat} (h : n ≤ 1000) : n < sizeLine := Nat.lt_of_le_of_lt h (by decide)

section
variable {X : Cx}
theorem pv (i : Nat) {x : Str} {pos : Pos} (hN : X.N[i]? = some x := by rfl) (hv : Vis X.env.scope x := by first | exact Or.inl rfl | exact Or.inr (Or.inl rfl) | exact Or.inr (Or.inr rfl)) (hd : (x == ("__debug__" : Str)) = false := by decide)
    (hcd : (x == ("__classdict__" : Str)) = false := by decide) : PE X (.Name x pos) (tVar i) := pe_var hN hv hd hcd
end

theorem ite2 {c A B : Prop} [Decidable c] (h1 : c → A) (h2 : ¬ c → B) : if c then A else B := by
  by_cases h : c
  · rw [if_pos h]
    exact h1 h
  · rw [if_neg h]
    exact h2 h
def Same (H H' : Hp) : Prop := ∀ b o, H b = some o → H' b = some o
theorem Same.refl (H : Hp) : Same H H := fun _ _ h => h
theorem Same.trans {H H1 H2 : Hp} (a : Same H H1) (b : Same H1 H2) : Same H H2 := fun c o h => b c o (a c o h)
theorem Same.free {H H' : Hp} (e : Same H H') {l : Addr} (h : H' l = Option.none) : H l = Option.none := by
  cases q : H l with
  | none => rfl
  | some o =>
    rw [e l o q] at h
    cases h
theorem Same.seq {K : PySem.W.Frag} {H H' : Hp} {a : Addr} {xs : List V} (e : Same H H') (h : SqL K H a xs) : SqL K H' a xs := by
  rcases h with (h | ⟨o, h⟩) | h
  · exact .inl (.inl (e _ _ h))
  · exact .inl (.inr ⟨o, e _ _ h⟩)
  · exact .inr h

end L2

namespace L2
open PySem PySem.Spec PyProof.Rows

def tbO (T : Addr) (h : Heap) : Prop := ∃ o ts, h.get? T = some o ∧ o.data = .fields ts ∧ ts[3]? = some .none
def exO (a C dx : Addr) (h : Heap) : Prop := ∃ o vs, h.get? a = some o ∧ o.cls = .ref C ∧ o.dict = some dx ∧ o.data = .fields vs ∧ dx ≠ a
theorem tbO_stay {T : Addr} (h1 h2 : Heap) (x : tbO T h1) (k : ∀ o, h1.get? T = some o → h2.get? T = some o) : tbO T h2 :=
  let ⟨o, ts, e, r⟩ := x; ⟨o, ts, k o e, r⟩
theorem exO_stay {a C dx : Addr} (h1 h2 : Heap) (x : exO a C dx h1) (k : ∀ o, h1.get? a = some o → h2.get? a = some o) : exO a C dx h2 :=
  let ⟨o, vs, e, r⟩ := x; ⟨o, vs, k o e, r⟩
def Flight (h : Heap) (H : Hp) (a : Addr) : Prop := ∃ o vs, h.get? a = some o ∧ o.data = .fields vs ∧ (vs[1]? = some .none ∨ ∃ T, vs[1]? = some (.ref T) ∧ T ≠ a ∧ H T = some (.ext (tbO T)))

section
variable {M : Model} {A : Around} {E : Value → Shared → Prop} {s : Shared} {base : Heap} {env : Env} {outer : List Env} {L e : Addr}

structure Flown (fs : List Addr) (e : Addr) (old : Option Addr) (oe : Obj) (h h' : Heap) : Prop where
  keep : ∀ b o, b ∉ fs → b ≠ e → old ≠ some b → h.get? b = some o → h'.get? b = some o
  slot : ∀ b o, b ≠ e → old ≠ some b → h.get? b = some o → ∃ sl, h'.get? b = some { o with slots := sl }
  exc : ∃ vs T, h'.get? e = some { oe with data := .fields vs } ∧ vs[1]? = some (.ref T) ∧ T ≠ e ∧ h.objs.size ≤ T ∧ tbO T h'
  old : ∀ b, old = some b → tbO b h'

theorem fly_new {oe : Obj} {vs : Array Value} {head : Value} {hadNext : Bool} {Q : Unit → Shared → Prop} (fr : A.frames = some (env :: outer)) (ff : s.heap.FunFrames base (env :: outer)) (ef : env.frame = some L)
    (oe_at : s.heap.get? e = some oe) (od : oe.data = .fields vs) (z : 1 < vs.size)
    (q : ∀ h', Flown (frs (env :: outer)) e none oe s.heap h' → Q () { s with heap := h' }) :
    wpAny M A (frameOf env >>= fun a => entryPlaceOf L hadNext >>= fun pl => EntryCells.newEntry head a .none (rawInt L) .none pl >>= fun b => setField (.ref e) 1 b)
      (fun _ s' => wpAny M A (setFlight (.ref e) none) Q E s') E s := by
  have ne : e ∉ frs (env :: outer) := fun hm => by
    obtain ⟨_, o, ho, hnf⟩ := ff.mem hm
    rw [oe_at] at ho; cases ho; exact hnf vs od
  refine wpAny_bind (wpAny_frameOf_fun fr ff ef fun h₁ sl₁ => wpAny_bind (wpAny_entryPlaceOf fun pl hpl => ?_))
  unfold EntryCells.newEntry newFields
  refine wpAny_bind (wpAny_newObj_type ?_ (hpl.sizeOk5 _ _ _ _ _))
  generalize hob : ({ cls := .type "traceback", dict := none, data := .fields ([head, .ref L, .none, rawInt L, .none] ++ (if pl.isEmpty then List.replicate 6 Value.none else pl)).toArray } : Obj) = ob
  have obd : ∃ ts : Array Value, ob.data = .fields ts ∧ 3 < ts.size := ⟨_, by rw [← hob], by simp only [List.size_toArray, List.length_append, List.length_cons, List.length_nil]; omega⟩
  obtain ⟨ts, obd, tz⟩ := obd
  have e₁ : h₁.get? e = some oe := (sl₁.2.1 e ne).trans oe_at
  have e₂ : (h₁.push ob).get? e = some oe := Heap.get?_push_of_some ob e₁
  refine wpAny_setField e₂ od z ?_
  have Te : h₁.objs.size ≠ e := Nat.ne_of_gt (Heap.lt_size e₁)
  have d₃ := Obj.data_mapFields od (·.setIfInBounds 1 (Value.ref h₁.objs.size))
  have e₃ := Heap.get?_update_self (Obj.mapFields (·.setIfInBounds 1 (Value.ref h₁.objs.size))) e₂ (Obj.isFreed_of_fields d₃)
  have t₂ : (h₁.push ob).get? h₁.objs.size = some ob := Heap.get?_push_size h₁ (Obj.isFreed_of_fields obd)
  have t₃ := (Heap.get?_update_other (h₁.push ob) (Obj.mapFields (·.setIfInBounds 1 (Value.ref h₁.objs.size))) (Ne.symm Te)).trans t₂
  unfold setFlight
  refine wpAny_bind (wpAny_field e₃ d₃ (x := .ref h₁.objs.size) (by simp [z]) ?_)
  rw [if_pos (by simp)]
  refine wpAny_setField t₃ obd tz (q _ ?_)
  have kk : ∀ b o, b ≠ e → h₁.get? b = some o → (((h₁.push ob).update e (Obj.mapFields (·.setIfInBounds 1 (Value.ref h₁.objs.size)))).update h₁.objs.size (Obj.mapFields (·.setIfInBounds 3 ((none : Option Addr).elim Value.none fun f => rawInt f)))).get? b = some o := by
    intro b o nb hb
    rw [Heap.get?_update_other _ _ (Nat.ne_of_gt (Heap.lt_size hb)), Heap.get?_update_other _ _ (Ne.symm nb)]
    exact Heap.get?_push_of_some ob hb
  refine ⟨fun b o nf nb _ hb => kk b o nb ((sl₁.2.1 b nf).trans hb), fun b o nb _ hb => ?_, ⟨vs.setIfInBounds 1 (Value.ref h₁.objs.size), h₁.objs.size, ?_, by simp [z], Te, by rw [sl₁.1]; exact Nat.le_refl _, ?_⟩, fun b z => by cases z⟩
  · obtain ⟨sl, hs⟩ := sl₁.2.2 b o hb
    exact ⟨sl, kk b _ nb hs⟩
  · rw [Heap.get?_update_other _ _ Te, e₃]
    obtain ⟨c, d, dt, sl⟩ := oe
    cases od
    rfl
  · exact ⟨_, _, Heap.get?_update_self _ t₃ (Obj.isFreed_of_fields (Obj.data_mapFields obd _)), Obj.data_mapFields obd _, by simp [tz]⟩

theorem fly {oe : Obj} {vs : Array Value} {old : Option Addr} {Q : Unit → Shared → Prop} (fr : A.frames = some (env :: outer)) (ff : s.heap.FunFrames base (env :: outer)) (ef : env.frame = some L)
    (oe_at : s.heap.get? e = some oe) (od : oe.data = .fields vs) (ht : vs[1]? = some (old.elim .none .ref)) (ho : ∀ T, old = some T → T ≠ e ∧ tbO T s.heap)
    (q : ∀ h', Flown (frs (env :: outer)) e old oe s.heap h' → Q () { s with heap := h' }) :
    wpAny M A (noteFrame (.ref e) env) (fun _ s' => wpAny M A (setFlight (.ref e) none) Q E s') E s := by
  have z : 1 < vs.size := (Array.getElem?_eq_some_iff.mp ht).1
  unfold noteFrame
  simp only [ef]
  refine wpAny_bind (wpAny_field oe_at od ht ?_)
  cases old with
  | none =>
    rw [if_neg (by simp)]
    exact fly_new fr ff ef oe_at od z q
  | some T =>
    obtain ⟨Te, oT, ts, hT, dT, h3⟩ := ho T rfl
    rw [if_pos (by simp)]
    refine wpAny_bind (wpAny_field hT dT h3 ?_)
    rw [if_neg (by simp [rawInt])]
    have tz : 3 < ts.size := (Array.getElem?_eq_some_iff.mp h3).1
    refine wpAny_bind (wpAny_setField hT dT tz ?_)
    have oth : ∀ b, b ≠ T → (s.heap.update T (Obj.mapFields (·.setIfInBounds 3 Value.none))).get? b = s.heap.get? b := fun b hb => Heap.get?_update_other _ _ (Ne.symm hb)
    have dT' := Obj.data_mapFields dT (·.setIfInBounds 3 Value.none)
    have hT' := Heap.get?_update_self (Obj.mapFields (·.setIfInBounds 3 Value.none)) hT (Obj.isFreed_of_fields dT')
    have nT : T ∉ frs (env :: outer) := fun hm => by
      obtain ⟨_, o, ho, hnf⟩ := ff.mem hm
      rw [hT] at ho; cases ho; exact hnf ts dT
    refine fly_new (s := { s with heap := s.heap.update T (Obj.mapFields (·.setIfInBounds 3 Value.none)) }) fr (ff.of_keeps fun b o hb hnf => ⟨o, (oth b fun w => by subst w; rw [hT] at hb; cases hb; exact hnf ts dT).trans hb, rfl⟩) ef ((oth e (Ne.symm Te)).trans oe_at) od z fun h' F => q h' ?_
    obtain ⟨vs', T', x1, x2, x3, x4, x5⟩ := F.exc
    refine ⟨fun b o nf nb no hb => F.keep b o nf nb (by simp) ((oth b fun w => no (by rw [w])).trans hb), fun b o nb no hb => F.slot b o nb (by simp) ((oth b fun w => no (by rw [w])).trans hb), ⟨vs', T', x1, x2, x3, ?_, x5⟩, fun b w => ?_⟩
    · simpa [Heap.size_update] using x4
    · cases w
      exact ⟨_, _, F.keep T _ nT Te (by simp) hT', dT', by simp [tz]⟩
end

section
variable {P : Program} {w : World} {H : Hp} {h h' : Heap} {fs : List Addr} {e : Addr} {oe : Obj} {vs : Array Value} {old : Option Addr} {φ : Heap → Prop}
theorem Flown.held (F : Flown fs e old oe h h') (oe_at : h.get? e = some oe) (hok : HOk P w H h) (ff : ∀ b ∈ fs, H b = none) (He : H e = some (.ext φ)) (hφ : ∀ h1 h2 : Heap, (∀ o vs, h1.get? e = some o → h2.get? e = some { o with data := .fields vs } → φ h1 → φ h2))
    (ho : ∀ T, old = some T → H T = some (.ext (tbO T))) :
    ∃ H', Same H H' ∧ Un fs [] H H' h h' ∧ HOk P w H' h' ∧ Flight h' H' e := by
  obtain ⟨vs', T, x1, x2, x3, x4, x5⟩ := F.exc
  have nT : H T = none := hok.fresh x4
  have eT : ∀ b, old = some b → b ≠ T := fun b w z => by
    have := ho b w
    rw [z, nT] at this; cases this
  have hs : Same H (upd H T (.ext (tbO T))) := fun b o q => by rw [upd_ne (ne_of_none q nT)]; exact q
  have tr : ∀ b o, H b = none → h.get? b = some o → b ≠ e ∧ old ≠ some b := fun b o n q => ⟨fun z => (by rw [z, He] at n; cases n), fun z => (by rw [ho b z] at n; cases n)⟩
  refine ⟨upd H T (.ext (tbO T)), hs, ⟨fun b o q n nf _ => F.keep b o nf (tr b o n q).1 (tr b o n q).2 q, fun b o q n _ _ => F.slot b o (tr b o n q).1 (tr b o n q).2 q, fun b o q n _ => ?_, fun b o q _ => ?_, fun b xs q => hs b _ q, fun b o u q => hs b _ q, fun b ps q => ⟨#[], by rw [hs b _ q]; simp⟩⟩, fun b u q => ?_, ⟨_, vs', x1, rfl, .inr ⟨T, x2, x3, upd_same⟩⟩⟩
  · rw [upd_ne]
    · exact n
    · intro z; rw [z, Heap.get?_none_of_le x4] at q; cases q
  · by_cases z : b = e
    · exact ⟨_, by rw [z]; exact x1⟩
    · by_cases z' : old = some b
      · obtain ⟨o', _, k, _⟩ := F.old b z'; exact ⟨o', k⟩
      · obtain ⟨sl, k⟩ := F.slot b o z z' q; exact ⟨_, k⟩
  · by_cases z : b = T
    · subst z
      rw [upd_same] at q; cases q
      exact ⟨x5, let ⟨o, _, k, _⟩ := x5; ⟨o, k⟩, tbO_stay⟩
    · rw [upd_ne z] at q
      by_cases z1 : b = e
      · subst z1
        rw [He] at q; cases q
        obtain ⟨p1, _, p3⟩ := hok b _ He
        exact ⟨hφ h h' oe vs' oe_at x1 p1, ⟨_, x1⟩, p3⟩
      · by_cases z2 : old = some b
        · rw [ho b z2] at q; cases q
          have k := F.old b z2
          exact ⟨k, let ⟨o, _, k, _⟩ := k; ⟨o, k⟩, tbO_stay⟩
        · refine (hok b u q).stay (fun c v hc r => ?_) (fun c r => hs c _ r) fun c xs r => hs c _ r
          have nf : c ∉ fs := fun m => by
            have := ff c m
            rcases hc with rfl | hc
            · rw [q] at this; cases this
            · rw [hc] at this; cases this
          refine F.keep c v nf ?_ ?_ r
          · rintro rfl
            rcases hc with rfl | hc
            · exact z1 rfl
            · rw [He] at hc; cases hc
          · intro m
            rcases hc with rfl | hc
            · exact z2 m
            · rw [ho c m] at hc; cases hc
end
theorem exO_fields {a C dx : Addr} (h1 h2 : Heap) (o : Obj) (vs : Array Value) (e1 : h1.get? a = some o) (e2 : h2.get? a = some { o with data := .fields vs }) (x : exO a C dx h1) : exO a C dx h2 := by
  obtain ⟨o', vs', q, r1, r2, r3, r4⟩ := x
  rw [e1] at q; cases q
  exact ⟨_, vs, e2, r1, r2, rfl, r4⟩
end L2

namespace L2
open PySem PySem.Spec PyProof.Rows

def Exc (H : Hp) (a : Addr) : Prop := ∃ C dx, H a = some (.ext (exO a C dx))
theorem Exc.same {H H' : Hp} {a : Addr} (x : Exc H a) (s : Same H H') : Exc H' a := let ⟨C, dx, e⟩ := x; ⟨C, dx, s _ _ e⟩

def CXe (P : Program) (w : World) : CXT := fun outer H s E e s' =>
  ∃ a H', e = .ref a ∧ s'.os = s.os ∧ AllBare s'.gens ∧ Un (frs outer) [] H H' s.heap s'.heap ∧ HOk P w H' s'.heap ∧ Flight s'.heap H' a ∧ Exc H' a ∧ E (.ref a) none H'
def Wish (X : Cx) (σ : St) (a : Addr) (H : Hp) : Prop := ∀ (pins : List (Addr × Obj)) (s : Shared), Inv X pins σ H s → Flight s.heap H a → Exc H a → X.xe (.ref a) s

section
variable {X : Cx} {pins : List (Addr × Obj)} {σ : St} {H : Hp} {s : Shared} {a : Addr} {E : Value → Shared → Prop} {Q : Unit → Shared → Prop}
theorem flies (I : Inv X pins σ H s) (hst : X.stack = X.env :: X.outer) (hfr : X.env.frame = some X.env.locals) (fl : Flight s.heap H a) (ex : Exc H a)
    (q : ∀ H' h', Same H H' → Un (frs X.stack) [] H H' s.heap h' → HOk X.prog X.w H' h' → Flight h' H' a → Q () { s with heap := h' }) :
    wpAny (model X.prog X.w) X.A (noteFrame (.ref a) X.env) (fun _ s' => wpAny (model X.prog X.w) X.A (setFlight (.ref a) none) Q E s') E s := by
  obtain ⟨o, vs, e1, e2, e3⟩ := fl
  obtain ⟨C, dx, He⟩ := ex
  have ff := I.stack
  have fr := I.ok.frames
  rw [hst] at ff fr
  have key : ∀ old : Option Addr, vs[1]? = some (old.elim .none .ref) → (∀ T, old = some T → T ≠ a ∧ H T = some (.ext (tbO T))) →
      wpAny (model X.prog X.w) X.A (noteFrame (.ref a) X.env) (fun _ s' => wpAny (model X.prog X.w) X.A (setFlight (.ref a) none) Q E s') E s := by
    intro old h1 h2
    refine fly fr ff hfr e1 e2 h1 (fun T z => ⟨(h2 T z).1, (I.hok T _ (h2 T z).2).1⟩) fun h' F => ?_
    obtain ⟨H', y1, y2, y3, y4⟩ := F.held e1 I.hok (fun b hb => I.stkFree b (by rw [hst]; exact hb)) He (fun h1 h2 o vs x1 x2 x3 => exO_fields h1 h2 o vs x1 x2 x3) fun T z => (h2 T z).2
    exact q H' h' y1 (by rw [hst]; exact y2) y3 y4
  rcases e3 with e3 | ⟨T, e3, e4, e5⟩
  · exact key none e3 fun _ z => by cases z
  · exact key (some T) e3 fun _ z => by cases z; exact ⟨e4, e5⟩
theorem lands (I : Inv X pins σ H s) (hst : X.stack = X.env :: X.outer) (hfr : X.env.frame = some X.env.locals) (fl : Flight s.heap H a) (ex : Exc H a)
    (q : ∀ H' s', Same H H' → Inv X pins σ H' s' → Flight s'.heap H' a → Q () s') :
    wpAny (model X.prog X.w) X.A (noteFrame (.ref a) X.env) (fun _ s' => wpAny (model X.prog X.w) X.A (setFlight (.ref a) none) Q E s') E s :=
  flies I hst hfr fl ex fun H' h' y1 y2 y3 y4 => q H' _ y1 (I.call (t' := s.toks) (g' := s.gens) (d' := s.drawn) (ch := []) y2 y3 I.bare fun b z => absurd z (by simp)) y4
theorem leaves (I : Inv X pins σ H s) (hst : X.stack = X.env :: X.outer) (hfr : X.env.frame = some X.env.locals) (hx : X.ex = []) (fl : Flight s.heap H a) (ex : Exc H a)
    (q : ∀ H' s', s'.os = X.s₀.os → AllBare s'.gens → Same H H' → Un (frs X.outer) [] X.H₀ H' X.s₀.heap s'.heap → HOk X.prog X.w H' s'.heap → Flight s'.heap H' a → Exc H' a → Q () s') :
    wpAny (model X.prog X.w) X.A (leaving X.env (.ref a)) Q E s := by
  refine wpAny_bind (flies I hst hfr fl ex fun H' h' y1 y2 y3 y4 => q H' _ I.os I.bare y1 ?_ y3 y4 (ex.same y1))
  have b := I.base
  rw [hx] at b
  have nl : ∀ c o, X.s₀.heap.get? c = some o → c ≠ X.env.locals := fun c o e => Nat.ne_of_lt (Nat.lt_of_lt_of_le (Heap.lt_size e) I.ok.above)
  have nf : ∀ c o, X.s₀.heap.get? c = some o → c ∉ frs X.outer → c ∉ frs X.stack := fun c o e n m => (List.mem_cons.mp (I.stkSub c m)).elim (nl c o e) n
  refine ⟨fun c o e n m _ => y2.keep c o (b.keep c o e n m (by simp)) (b.free c o e n (by simp)) (nf c o e m) (by simp), fun c o e n m _ => ?_, fun c o e n _ => ?_, fun c o e _ => ?_, fun c xs e => y2.tups c xs (b.tups c xs e), fun c o u e => y2.frzs c o u (b.frzs c o u e), fun c ps e => ?_⟩
  · obtain ⟨sl, e1⟩ := b.slot c o e n m (by simp)
    obtain ⟨sl', e2⟩ := y2.any e1 (b.free c o e n (by simp)) (by simp)
    exact ⟨sl', e2⟩
  · obtain ⟨o', e1⟩ := b.there c o e (by simp)
    exact y2.free c o' e1 (b.free c o e n (by simp)) (by simp)
  · obtain ⟨o', e1⟩ := b.there c o e (by simp)
    exact y2.there c o' e1 (by simp)
  · obtain ⟨m1, e1⟩ := b.tbls c ps e
    obtain ⟨m2, e2⟩ := y2.tbls c _ e1
    exact ⟨m1 ++ m2, by rw [e2, Array.append_assoc]⟩
end

theorem wish_of {P : Program} {w : World} {K : PySem.W.Frag} {mg : Str → Option Value} {base : Heap} {N : List Str} {qual : Str} {scope : Scope} {f : Addr} {cd : Value} {A : Around} {outer : List Env} {s : Shared} {H₀ : Hp} {E : XK} {σ : St} {a : Addr} {H : Hp}
    (h : ∀ H', Same H H' → E (.ref a) none H') : Wish (cxOf (CXe P w) P w K mg base N qual scope f cd A outer s H₀ E) σ a H := fun pins s1 I fl ex =>
  leaves I rfl rfl rfl fl ex fun H' s' y1 y2 y3 y4 y5 y6 y7 => ⟨a, H', rfl, y1, y2, y4, y5, y6, y7, h H' y3⟩

section
variable {X : Cx} {k : Nat} {f : Addr} {fd : FuncData} {ps : List Str} {sp : Sp} {x : Str} {p pos : Pos} {e : Expr} {es : List Expr} {t : TA}
def tCallX (X : Cx) (sp : Sp) (t : TA) : TE := fun σ H Q => t σ H fun vs H1 => sp vs H1 Q fun v _ H' => ∃ a, v = .ref a ∧ Wish X σ a H'
theorem run_fnX {pins : List (Addr × Obj)} {σ : St} {H : Hp} {s : Shared} {Q : VK} {us : List Value} {vs : List V} (F : FnOk X.prog X.w X.K X.mg X.base (CXe X.prog X.w) k f fd ps sp) (hr : Room k X.A) (hb : Binds X.K fd ps [])
    (I : Inv X pins σ H s) (r : Vals vs us) (h : sp vs H Q fun v _ H' => ∃ a, v = .ref a ∧ Wish X σ a H') : wpAny (model X.prog X.w) X.A (call (.ref f) us) (EP X pins σ Q) X.xe s := by
  have hl : us.length = ps.length := by rw [← r.length]; exact F.len _ _ _ _ h
  have hb' := hb s us I.kIn (by rw [List.append_nil]; exact hl)
  rw [List.append_nil] at hb'
  refine wpAny_call (codeAny_mono (F.run X.A X.stack s H ⟨us, []⟩ us vs Q _ hr I.env0 hb' r h) fun r s' hq => ?_)
  cases r with
  | error e =>
    obtain ⟨a, H', rfl, y1, y2, y3, y4, y5, y6, a', y7, y8⟩ := hq
    cases y7
    exact y8 pins s' (I.call' (ch := []) y1 y3 y4 y2 fun b z => absurd z (by simp)) y5 y6
  | ok fl =>
    cases fl with
    | ret u => exact I.after hq
    | next => exact False.elim hq
    | brk => exact False.elim hq
    | cont => exact False.elim hq
theorem pe_callX (F : FnOk X.prog X.w X.K X.mg X.base (CXe X.prog X.w) k f fd ps sp) (hr : Room k X.A) (hg : Gl X x) (hm : X.mg x = some (.ref f)) (hk : PySem.W.keepIn X.K (.ref f) = true) (hb : Binds X.K fd ps [])
    (ha : PA X (e :: es) t) (hdb : (x == ("__debug__" : Str)) = false := by decide) (he : starEach (e :: es) X.env = (false, eval e X.env) :: starEach es X.env := by rfl) (hpl : (backTo pos (starEach es X.env)).any (·.1) = false := by rfl) :
    PE X (.Call (.Name x p) (e :: es) [] pos) (tCallX X sp t) := by
  intro pins s σ H Q I h
  refine wpAny_Call_Name_kw (ld_glob I hg hm ?_ hdb)
  refine PySem.W.callWith_K (h₀ := X.base) I.ok.mod.kin hk (thn (ha pos pins s σ H _ I h) fun us s1 ⟨vs, H1, I1, r, q⟩ => ⟨I1.kIn, run_fnX F hr hb I1 r q⟩) he hpl
theorem FnOk.calm {P : Program} {w : World} {K : PySem.W.Frag} {mg : Str → Option Value} {base : Heap} {k : Nat} {f : Addr} {fd : FuncData} {ps : List Str} {sp sp' : Sp} (F : FnOk P w K mg base (CXe P w) k f fd ps sp)
    (h : ∀ vs H Q E, sp' vs H Q E → sp vs H Q E0) : FnOk P w K mg base CX0 k f fd ps sp' :=
  ⟨fun vs H Q E q => F.len vs H Q E0 (h _ _ _ _ q), fun A outer s H args us vs Q E hr he hb hv hs => codeAny_mono (F.run A outer s H args us vs Q E0 hr he hb hv (h _ _ _ _ hs)) fun r s' hq => by
    cases r with
    | error e => obtain ⟨_, _, _, _, _, _, _, _, _, z⟩ := hq; exact z.elim
    | ok fl => cases fl <;> exact hq⟩
end
end L2

namespace L2
open PySem PySem.Spec PyProof.Rows

abbrev bmV : List Value := [.type "ValueError", .type "Exception", .type "BaseException", .type "object"]
def strK (es : Array DictEntry) : Bool := es.toList.all fun e => match e.key with | .str _ _ => true | _ => false
theorem strK_of {es : Array DictEntry} (h : strK es = true) : StrKeys es := fun e he => by
  have := List.all_eq_true.mp h e (Array.mem_toList_iff.mpr he)
  split at this
  · rename_i n t q; exact ⟨n, t, q⟩
  · cases this
structure XC (K : PySem.W.Frag) (C F : Addr) : Prop where
  obj : ∃ nm q N bs sn sub ab col dd k0 k1 k2 k3 k5, K.lookup C = some (excClassObj nm q C N bs (.ref F :: bmV) true sn sub ab col dd k0 k1 k2 k3 k5 "ValueError.__new__")
  tail : ∃ c0 dd cd sl oc od es ep sl', K.lookup F = some ⟨c0, dd, .cls cd, sl⟩ ∧ K.lookup cd.ns = some ⟨oc, od, .dict es ep, sl'⟩ ∧ strK es = true ∧ nsFind es "__init__" = none
  sa : PySem.W.findIn K (.ref C) "__setattr__" = some (some (.builtin "object.__setattr__"))
  ga : PySem.W.findIn K (.ref C) "__getattribute__" = some (some (.builtin "BaseException.__getattribute__"))
  gh : PySem.W.findIn K (.ref C) "__getattr__" = some none
  cl : PySem.W.findIn K (.ref C) "__class__" = some (some (.builtin "object.__class__"))
  gg : PySem.W.specialIn K (.builtin "object.__class__") "__get__" = some (some (.builtin "getset_descriptor.__get__"))
  gt : PySem.W.takesIn K (.builtin "object.__class__") = some true
theorem XC.own {K : PySem.W.Frag} {C F : Addr} {h : Heap} (c : XC K C F) (X : K.In h) : OwnTail h bmV (.ref F :: bmV) := by
  obtain ⟨c0, dd, cd, sl, oc, od, es, ep, sl', h1, h2, h3, h4⟩ := c.tail
  exact .own (X _ _ h1) ⟨_, es, ep, X _ _ h2, rfl, strK_of h3, fun _ => rfl⟩ h4 .base

def excAt (C t : Addr) : Obj := { cls := .ref C, data := .fields #[.ref t, .none, .none, .none, .bool false, .none] }
def tupOf (vs : List Value) : Obj := { cls := .type "tuple", data := .seq vs.toArray }
def withExc (h : Heap) (C : Addr) (vs : List Value) : Heap := (h.push (tupOf vs)).push (excAt C h.objs.size)
theorem withExc_keep {h : Heap} {C : Addr} {vs : List Value} {b : Addr} {o : Obj} (e : h.get? b = some o) : (withExc h C vs).get? b = some o := Heap.get?_push_of_some _ (Heap.get?_push_of_some _ e)
theorem withExc_at {h : Heap} {C : Addr} {vs : List Value} : (withExc h C vs).get? (h.objs.size + 1) = some (excAt C h.objs.size) := by
  unfold withExc
  have e : h.objs.size + 1 = (h.push (tupOf vs)).objs.size := (Heap.size_push _ _).symm
  rw [e]; exact Heap.get?_push_size _ rfl

section
variable {prog : Program} {w : World} {A : Around} {E : Value → Shared → Prop} {s : Shared} {K : PySem.W.Frag} {C U fI : Addr} {rest : List Value}
theorem make_exc1 {Q : Fin → Shared → Prop} (X : K.In s.heap) (c : XC K C U) (hi : PySem.W.findIn K (.ref C) "__init__" = some (some (.ref fI))) (hf : PySem.W.typeIn K (.ref fI) = some (.type "function")) (hz : rest.length ≤ sizeLine)
    (hq : wpAny (model prog w) A (call (.ref fI) (.ref (s.heap.objs.size + 1) :: rest)) (fun r s' => r = .none ∧ Q (.done (.ret (.ref (s.heap.objs.size + 1)))) s') E { s with heap := withExc s.heap C rest }) :
    wpAny (model prog w) A (Builtin.«type.__call__» ⟨.ref C :: rest, []⟩) Q E s := by
  obtain ⟨nm, q, N, bs, sn, sub, ab, col, dd, k0, k1, k2, k3, k5, lk⟩ := c.obj
  obtain ⟨h, g, d, t, os⟩ := s
  have oC : h.get? C = some _ := X _ _ lk
  have T := c.own X
  have FB := F.excBase_ValueError
  repeat (first | with_reducible refine wpAny_loadPart_at oC ?_ | with_reducible refine wpAny_madeBy_exc oC ?_ | wp_step)
  refine codeAny_call_builtin_code (Code.quiet_builtin _ FB.quiet) (wpAny_check_new_subT FB T oC (codeAny_exc_new_subT FB T oC ?_ hz))
  show wpAny (model prog w) A _ Q E { heap := withExc h C rest, gens := g, drawn := d, toks := t, os := os }
  have X1 : K.In (withExc h C rest) := X.keeps fun _ _ => withExc_keep
  have oC1 : (withExc h C rest).get? C = some _ := X1 _ _ lk
  have oe : (withExc h C rest).get? (h.objs.size + 1) = some { cls := .ref C, data := .fields #[.ref h.objs.size, .none, .none, .none, .bool false, .none] } := withExc_at
  have cC : (Value.ref C :: (.ref U :: bmV)).contains (.ref C) = true := by simp
  unfold isInstance
  repeat (first | with_reducible refine wpAny_loadPart_at oe ?_ | (with_reducible refine wpAny_isSubtype_exc oC1 ?_; rw [cC]) | wp_step)
  show wpAny _ _ (typeLookup (.ref C) _) _ _ _
  refine (PySem.W.looks_findIn X1 hi) _ _ _ _ (fun _ _ e => e) ?_
  refine wpAny_holding (wpAny_bind ((PySem.W.bind_fn X1 (.ref (h.objs.size + 1)) hf) _ _ _ _ (fun _ _ e => e) ?_))
  refine wpAny_bind (wpAny_mono hq (fun r s' hr => ?_) fun _ _ x => x)
  obtain ⟨rfl, hQ⟩ := hr
  wp_walk
  exact hQ
theorem make_exc {Q : Value → Shared → Prop} (X : K.In s.heap) (c : XC K C U) (hi : PySem.W.findIn K (.ref C) "__init__" = some (some (.ref fI))) (hf : PySem.W.typeIn K (.ref fI) = some (.type "function")) (hz : rest.length ≤ sizeLine)
    (hq : wpAny (model prog w) (A.under (.builtin "type.__call__" ⟨.ref C :: rest, []⟩)) (call (.ref fI) (.ref (s.heap.objs.size + 1) :: rest)) (fun r s' => r = .none ∧ Q (.ref (s.heap.objs.size + 1)) s') E { s with heap := withExc s.heap C rest }) :
    wpAny (model prog w) A (call (.ref C) rest) Q E s := by
  obtain ⟨nm, q, N, bs, sn, sub, ab, col, dd, k0, k1, k2, k3, k5, lk⟩ := id c.obj
  obtain ⟨h, g, d, t, os⟩ := s
  have oC : h.get? C = some _ := X _ _ lk
  have u1 := tc_lookup
  have u2 := tc_bind (.ref C)
  have u3 : (⟨h, g, d, t, os⟩ : Shared).TypeIs (.ref C) "type" := ⟨_, oC, rfl⟩
  refine wpAny_call (codeAny_of_tree ?_)
  show wpAny _ _ (callAny (.ref C) _) _ _ _
  repeat (any_goals (first | assumption | with_reducible refine wpAny_loadPart_at oC ?_ | wp_step))
  exact ⟨rfl, codeAny_call_builtin_at (Code.quiet_builtin _ (by decide +kernel)) entry_typeCall (wpAny_check_type_call_sub oC (make_exc1 X c hi hf hz hq))⟩

theorem raise_exc {env : Env} {x : Sem Value} {Q : Flow → Shared → Prop} (c : XC K C U) (hh : A.handled = none)
    (h : wpAny (model prog w) A x (fun v s₁ => K.In s₁.heap ∧ ∃ e od vs sl, v = .ref e ∧ s₁.heap.get? e = some ⟨.ref C, od, .fields vs, sl⟩ ∧ vs[1]? = some .none ∧ E (.ref e) s₁) E s) :
    wpAny (model prog w) A (raiseStmt env (some x) none) Q E s := by
  obtain ⟨nm, q, N, bs, sn, sub, ab, col, dd, k0, k1, k2, k3, k5, lk⟩ := c.obj
  have cB : (Value.ref C :: (.ref U :: bmV)).contains (.type "BaseException") = true := by simp
  unfold raiseStmt
  refine wpAny_bind (wpAny_mono h (fun v s₁ h₁ => ?_) fun _ _ x => x)
  obtain ⟨X, e, od, vs, sl, rfl, he, h1, hE⟩ := h₁
  obtain ⟨hp, g, d, tk, os⟩ := s₁
  have oC : hp.get? C = some _ := X _ _ lk
  repeat (first | with_reducible refine wpAny_loadPart_at he ?_ | with_reducible refine wpAny_field he rfl h1 ?_ | with_reducible refine wpAny_loadPart_at oC ?_ | (with_reducible refine wpAny_isSubtype_exc oC ?_; rw [cB]) | wp_step)
  exact wpAny_raiseNew_none hh hE
end
end L2

namespace L2
open PySem PySem.Spec PyProof.Rows PySem.W PySem.Builtin PySem.Builtin.ObjectAttr

section
variable {prog : Program} {w : World} {A : Around} {E : Value → Shared → Prop} {s : Shared} {K : PySem.W.Frag} {C U x : Addr} {name : Str} {v : Value}
theorem XC.cls (c : XC K C U) : ∃ cd, clsIn K C = some cd ∧ cd.mro = .ref C :: .ref U :: bmV ∧ cd.hasDict = true := by
  obtain ⟨nm, q, N, bs, sn, sub, ab, col, dd, k0, k1, k2, k3, k5, lk⟩ := c.obj
  exact ⟨_, by unfold clsIn; rw [lk], rfl, rfl⟩
theorem XC.sub (c : XC K C U) (b : Value) : mroIn K C b = some ((Value.ref C :: .ref U :: bmV).contains b) := by
  obtain ⟨cd, h1, h2, _⟩ := c.cls
  unfold mroIn
  rw [h1, Option.bind_some, h2]
  rfl
theorem xstore {R : Result → Shared → Prop} {od : Option Obj} {ox : Obj} {tk : Tok} (X : K.In s.heap) (c : XC K C U) (I : InstAt s.heap x ox C od) (ht : takerIn K C name = some none)
    (h : ∀ b, wpAny (model prog w) A.in1 (storeInOwnDict (.ref x) (.ref C) (.str name tk) name v b)
      (fun fin s' => match fin with | .done f => R (.ok f) s' | .again c' => c'.quiet = true ∧ codeAny (model prog w) A c' R s') (fun e s' => R (.error e) s') s) :
    codeAny (model prog w) A (.call (.builtin "object.__setattr__") ⟨[.ref x, .str name tk, v], []⟩) R s := by
  have SF := PySem.F.store_object
  have SV := PySem.F.store_ValueError
  obtain ⟨cd, hc, hm, _⟩ := c.cls
  have sub : Looks (model prog w) s.heap (isInstance (.ref x) (.type "object")) true := I.type.andThen (looks_mroIn X (by rw [c.sub]; simp))
  refine codeAny_call_builtin SF.slot.plain SF.entry (@check_slot (model prog w) _ _ s "object.__setattr__" "object" "__setattr__" (.ref x) [.str name tk, v] [] _ SF.kind SF.split sub (SF.args (.ref x) (.str name tk) v) ?_)
  obtain ⟨attr, ha, hr⟩ := Option.bind_eq_some_iff.mp ht
  have mr : Looks (model prog w) s.heap (mroOf (.ref C)) cd.mro := (looks_clsIn X hc).andThen .now
  have tk3 : Looks (model prog w) s.heap (storeTaker? attr) none := by
    cases attr with
    | none => exact .now
    | some a =>
      obtain ⟨b, hb, hn⟩ := Option.map_eq_some_iff.mp hr
      refine (looks_takesIn X hb).andThen ?_
      cases b with
      | true => cases hn
      | false => exact .now
  rw [osa_eq, refuse_eq]
  refine wpAny_bind (wpAny_bind (I.type.here (wpAny_bind (mr.here ?_))))
  rw [hm, refuseLoop_ref, refuseLoop_ref, SV.passes]
  exact wpAny_pure (wpAny_bind (I.type.here (wpAny_bind ((looks_findIn X ha).here (wpAny_bind (tk3.here (h _)))))))

theorem xset0 {Q : Unit → Shared → Prop} {vs : Array Value} {sl : Array (Option Value)} (X : K.In s.heap) (c : XC K C U) (ht : takerIn K C name = some none) (hx : s.heap.get? x = some ⟨.ref C, none, .fields vs, sl⟩)
    (h : ∀ h' tk', h'.get? x = some ⟨.ref C, some s.heap.objs.size, .fields vs, sl⟩ → h'.Ns1 s.heap.objs.size (fun y => if y = name then some v else none) → (∀ b o, b ≠ x → s.heap.get? b = some o → h'.get? b = some o) → Q () { s with heap := h', toks := tk' }) :
    wpAny (model prog w) A (setAttr (.ref x) name v) Q E s := by
  have I : InstAt s.heap x ⟨.ref C, none, .fields vs, sl⟩ C none := ⟨hx, rfl, rfl, trivial⟩
  refine set_plain X I c.sa (xstore (s := { s with toks := s.toks + 1 }) X c I ht fun b => ?_)
  obtain ⟨cd, hc, hm, hd⟩ := c.cls
  refine wpAny_bind (wpAny_pure (wpAny_bind ?_))
  show wpAny _ _ (instanceDict x true) _ _ _
  unfold instanceDict
  refine wpAny_bind (wpAny_loadPart hx ?_)
  dsimp only
  refine wpAny_bind ((looks_clsIn X hc).here (s := { s with toks := s.toks + 1 }) ?_)
  rw [hd]
  obtain ⟨hp, g, d, t, os⟩ := s
  have x1 : (hp.push { cls := .type "dict", data := .dict #[] }).get? x = some ⟨.ref C, none, .fields vs, sl⟩ := Heap.get?_push_of_some _ hx
  have nx : x ≠ hp.objs.size := Nat.ne_of_lt (Heap.lt_size hx)
  refine wpAny_bind (wpAny_alloc' (wpAny_bind (wpAny_update' x1 ?_)))
  refine wpAny_pure ?_
  have x2 := Heap.get?_update_self (fun o : Obj => { cls := o.cls, dict := some hp.objs.size, data := o.data, slots := o.slots }) x1 rfl
  have gd : ((hp.push { cls := .type "dict", data := .dict #[] }).update x fun o => { cls := o.cls, dict := some hp.objs.size, data := o.data, slots := o.slots }).get? hp.objs.size = some { cls := .type "dict", data := .dict #[] } :=
    (Heap.get?_update_ne _ _ _ _ nx.symm).trans (Heap.get?_push_at rfl rfl)
  have nd : ((hp.push { cls := .type "dict", data := .dict #[] }).update x fun o => { cls := o.cls, dict := some hp.objs.size, data := o.data, slots := o.slots }).Ns hp.objs.size (fun _ => none) :=
    ⟨_, #[], _, gd, rfl, fun e he => absurd he (by simp), fun _ => rfl⟩
  show wpAny _ _ (storeInDict hp.objs.size (.str name _) name v) _ _ _
  unfold storeInDict newKeyGuard
  refine wpAny_bind (wpAny_pure (wpAny_bind (wpAny_nsSet1 (Heap.Ns1.of_empty nd) fun h' hn' hs => ?_)))
  obtain ⟨oD, esD, epD, hoD, hdD, hcD⟩ := hn'.count (Within.cons name v Within.nil)
  refine wpAny_bind (wpAny_lookBehind hoD (by rw [hdD]; exact pastItsLine_dict (Nat.le_trans hcD (by rw [List.length_cons, List.length_nil, sizeLine_eq]; omega))) ?_)
  refine wpAny_pure (h h' _ ((hs.2 x nx).trans x2) hn' fun b o nb hb => ?_)
  exact (hs.2 b (Nat.ne_of_lt (Heap.lt_size hb))).trans ((Heap.get?_update_ne _ _ _ _ nb).trans (Heap.get?_push_of_some _ hb))
end
end L2

namespace L2
open PySem PySem.Spec PyProof.Rows PySem.W PySem.Builtin PySem.Builtin.ObjectAttr

section
variable {prog : Program} {w : World} {A : Around} {E : Value → Shared → Prop} {s : Shared} {K : PySem.W.Frag} {C U x : Addr} {name : Str} {v : Value} {ox : Obj} {od : Option Obj}
theorem xget_by {tk : Tok} {fill expr : Bool} {Q : Value → Shared → Prop} (X : K.In s.heap) (c : XC K C U) (I : InstAt s.heap x ox C od) (hv : handedIn v = true)
    (h : wpAny (model prog w) A.in1 (Builtin.«object.__getattribute__» ⟨[.ref x, .str name tk], []⟩) (fun fin s' => fin = .done (.ret v) ∧ Q v s') (fun _ _ => False) s) :
    wpAny (model prog w) A (getAttrBy (.ref x) (.str name tk) fill expr) Q E s := by
  have FX := PySem.F.excAttr_ValueError
  have e0 : (expr && onTheHeap (Value.builtin "BaseException.__getattribute__")) = false := by cases expr <;> rfl
  have e2 : (Value.builtin "BaseException.__getattribute__" == Value.builtin "object.__getattribute__") = false := by decide +kernel
  have L0 := I.type (M := model prog w)
  have L1 := looks_findIn (M := model prog w) X c.ga
  have L2 := looks_findIn (M := model prog w) X c.gh
  have sub : Looks (model prog w) s.heap (isInstance (.ref x) (.type "BaseException")) true := I.type.andThen (looks_mroIn X (by rw [c.sub]; simp))
  unfold getAttrBy
  refine wpAny_holding (wpAny_bind (L0.here (wpAny_bind (L1.here ?_))))
  dsimp only
  rw [show (onTheHeap (Value.ref C) && Value.builtin "BaseException.__getattribute__" == Value.builtin "object.__getattribute__") = false by rw [e2]; rfl]
  unfold getAttrByItsOwn hookBefore
  refine wpAny_bind (L2.here (wpAny_bind (wpAny_attempt ?_)))
  unfold callGetattribute
  rw [e0]
  refine wpAny_holding ?_
  unfold boundAndCalled
  rw [show (if false = true then runValue (.builtin "lifetime.attribute" ⟨[.ref x, .str name tk, .builtin "BaseException.__getattribute__"], []⟩) else (do let (g, first) ← bindSpecial (.builtin "BaseException.__getattribute__") (.ref x); call g (first ++ [.str name tk]))) = (do let (g, first) ← bindSpecial (.builtin "BaseException.__getattribute__") (.ref x); call g (first ++ [.str name tk])) from rfl, FX.ga.bind]
  refine wpAny_bind (wpAny_pure (wpAny_call (codeAny_call_builtin FX.ga.plain F.entry_bexc_ga (check_slot (i := "BaseException.__getattribute__") (owner := "BaseException") (n := "__getattribute__") (by decide +kernel) (by decide +kernel) sub (F.args_bexc_ga _ _) (wpAny_mono h (fun fin s' hq => ?_) fun _ _ z => z.elim)))))
  obtain ⟨rfl, q⟩ := hq
  show wpAny _ _ (handedOut v) _ _ _
  rw [handedOut_of hv]
  exact wpAny_pure q
theorem xget {expr : Bool} {Q : Value → Shared → Prop} (X : K.In s.heap) (c : XC K C U) (I : InstAt s.heap x ox C od) (hf : findObj K C od name = some (.value v)) (hv : handedIn v = true) (h : Q v { s with toks := s.toks + 1 }) :
    wpAny (model prog w) A (getAttr (.ref x) name expr) Q E s := by
  unfold getAttr
  refine wpAny_bind (wpAny_mkText (xget_by (s := { s with toks := s.toks + 1 }) X c I hv ?_))
  refine wpAny_bind (wpAny_pure (wpAny_bind (wpAny_pure (wpAny_bind (I.type.here (s := { s with toks := s.toks + 1 }) (wpAny_bind ((looks_find X I hf).here (s := { s with toks := s.toks + 1 }) ?_)))))))
  exact wpAny_pure ⟨rfl, h⟩
theorem xclass {o' : Obj} {Q : Option Value → Shared → Prop} (X : K.In s.heap) (c : XC K C U) (I : InstAt s.heap x ox C (some o')) (h : Q (some (.ref C)) { s with toks := s.toks + 1 }) :
    wpAny (model prog w) A (getAttr? (.ref x) "__class__") Q E s := by
  obtain ⟨cd, hc, _, _⟩ := c.cls
  have hf : findObj K C (some o') "__class__" = some (.bind (.builtin "getset_descriptor.__get__") (.builtin "object.__class__")) := findObj_data (by rw [hc]; rfl) c.cl c.gg c.gt
  unfold getAttr? getAttrBy?
  refine wpAny_bind (wpAny_mkText (wpAny_bind (wpAny_attempt (xget_by (v := .ref C) (s := { s with toks := s.toks + 1 }) X c I rfl ?_))))
  refine wpAny_bind (wpAny_pure (wpAny_bind (wpAny_pure (wpAny_bind (I.type.here (s := { s with toks := s.toks + 1 }) (wpAny_bind ((looks_find X I hf).here (s := { s with toks := s.toks + 1 }) ?_)))))))
  show wpAny _ _ (holding [.builtin "object.__class__"] (call (.builtin "getset_descriptor.__get__") [.builtin "object.__class__", .ref x, .ref C]) >>= ret) _ _ _
  exact wpAny_bind (wpAny_holding (wpAny_call (class_get (s := { s with toks := s.toks + 1 }) X I (by rw [c.sub]; simp) (wpAny_pure ⟨rfl, wpAny_pure h⟩))))
theorem xkit (c : XC K C U) : KitX K (.ref x) (.ref C) (fun h => ∃ ox o', InstAt h x ox C (some o')) where
  ty := fun _ _ _ ⟨_, _, I⟩ => I.type
  it := fun _ _ X _ => by
    obtain ⟨nm, q, N, bs, sn, sub, ab, col, dd, k0, k1, k2, k3, k5, lk⟩ := c.obj
    intro A' Q' E' s' k q
    unfold isType loadHead
    exact wpAny_bind (wpAny_loadPart (k _ _ (X _ _ lk)) (wpAny_pure q))
  ne := fun h tp dd its n sl X htp => by
    obtain ⟨nm, q, N, bs, sn, sub, ab, col, dd, k0, k1, k2, k3, k5, lk⟩ := c.obj
    refine Bool.eq_false_iff.mpr fun q => ?_
    have e : C = tp := Value.ref.inj (beq_iff_eq.mp q)
    subst e
    have z := congrArg Obj.cls (Option.some.inj ((X _ _ lk).symm.trans htp))
    exact absurd (Value.type.inj z) (by decide)
  ca := fun X ⟨_, _, I⟩ k => xclass X c I k
end
end L2

namespace L2
open PySem PySem.Spec PyProof.Rows PySem.SeqAt

inductive Dt where
  | non | bl (b : Bool) | int (i : Int) | str (x : Str) | tup (ds : List Dt) | lst (ds : List Dt) | fn (a : Addr)
  /-- an exception: its class's name, its fields -/
  | exc (c : Str) (ns : List Str) (ds : List Dt)
  /-- an instance: its class's name, its fields -/
  | obj (c : Str) (ns : List Str) (ds : List Dt)

def LsD (K : PySem.W.Frag) (H : Hp) (a : Addr) (xs : List V) : Prop := H a = some (.lst xs) ∨ (SqL K H a xs ∧ ∀ x ∈ xs, ∃ i : Int, x = .int i)
theorem LsD.sq {K : PySem.W.Frag} {H : Hp} {a : Addr} {xs : List V} (h : LsD K H a xs) : SqL K H a xs := by
  rcases h with h | ⟨h, _⟩
  · exact SqL.of h
  · exact h
theorem LsD.mono {K : PySem.W.Frag} {H H' : Hp} {a : Addr} {xs : List V} (s : Same H H') (h : LsD K H a xs) : LsD K H' a xs := by
  rcases h with h | ⟨h, q⟩
  · exact .inl (s _ _ h)
  · exact .inr ⟨s.seq h, q⟩
mutual
def Rp (K : PySem.W.Frag) (H : Hp) : Dt → V → Prop
  | .non, v => v = .non
  | .bl b, v => v = .bl b
  | .int i, v => v = .int i
  | .str x, v => v = .str x
  | .fn a, v => v = .ref a
  | .exc c ns ds, v => ∃ a C U dx vs, v = .ref a ∧ PySem.W.nsIn K mainGlobals c = some (some (.ref C)) ∧ XC K C U ∧ H a = some (.ext (exO a C dx)) ∧ H dx = some (.xd (ns.zip vs)) ∧ ns.length = ds.length ∧ RpL K H ds vs
  | .obj c ns ds, v => ∃ a C dx vs, v = .ref a ∧ PySem.W.nsIn K mainGlobals c = some (some (.ref C)) ∧ Cls K C ∧ H a = some (.ins C dx (ns.zip vs)) ∧ ns.length = ds.length ∧ RpL K H ds vs
  | .tup ds, v => ∃ a xs, v = .ref a ∧ SqT K H a xs ∧ RpL K H ds xs
  | .lst ds, v => ∃ a xs, v = .ref a ∧ LsD K H a xs ∧ RpL K H ds xs
def RpL (K : PySem.W.Frag) (H : Hp) : List Dt → List V → Prop
  | [], xs => xs = []
  | d :: ds, xs => ∃ v r, xs = v :: r ∧ Rp K H d v ∧ RpL K H ds r
end

theorem Same.seqT {K : PySem.W.Frag} {H H' : Hp} {a : Addr} {xs : List V} (e : Same H H') (h : SqT K H a xs) : SqT K H' a xs := by
  rcases h with (h | ⟨o, h⟩) | h
  · exact .inl (.inl (e _ _ h))
  · exact .inl (.inr ⟨o, e _ _ h⟩)
  · exact .inr h

mutual
theorem Rp.mono {K : PySem.W.Frag} {H H' : Hp} (s : Same H H') : ∀ {d : Dt} {v : V}, Rp K H d v → Rp K H' d v
  | .non, _, h => by unfold Rp at h ⊢; exact h
  | .bl _, _, h => by unfold Rp at h ⊢; exact h
  | .int _, _, h => by unfold Rp at h ⊢; exact h
  | .str _, _, h => by unfold Rp at h ⊢; exact h
  | .fn _, _, h => by unfold Rp at h ⊢; exact h
  | .exc _ _ _, _, h => by
    unfold Rp at h ⊢
    obtain ⟨a, C, U, dx, vs, e, q, x, h1, h2, l, r⟩ := h
    exact ⟨a, C, U, dx, vs, e, q, x, s _ _ h1, s _ _ h2, l, RpL.mono s r⟩
  | .obj _ _ _, _, h => by
    unfold Rp at h ⊢
    obtain ⟨a, C, dx, vs, e, q, x, h1, l, r⟩ := h
    exact ⟨a, C, dx, vs, e, q, x, s _ _ h1, l, RpL.mono s r⟩
  | .tup ds, _, h => by
    unfold Rp at h ⊢
    obtain ⟨a, xs, e, q, r⟩ := h
    exact ⟨a, xs, e, s.seqT q, RpL.mono s r⟩
  | .lst ds, _, h => by
    unfold Rp at h ⊢
    obtain ⟨a, xs, e, q, r⟩ := h
    exact ⟨a, xs, e, q.mono s, RpL.mono s r⟩
theorem RpL.mono {K : PySem.W.Frag} {H H' : Hp} (s : Same H H') : ∀ {ds : List Dt} {vs : List V}, RpL K H ds vs → RpL K H' ds vs
  | [], _, h => by unfold RpL at h ⊢; exact h
  | d :: ds, _, h => by
    unfold RpL at h ⊢
    obtain ⟨v, r, e, q, p⟩ := h
    exact ⟨v, r, e, Rp.mono s q, RpL.mono s p⟩
end

section
variable {K : PySem.W.Frag} {H : Hp}
theorem rp_non {v : V} : Rp K H .non v ↔ v = .non := by unfold Rp; exact Iff.rfl
theorem rp_bl {b : Bool} {v : V} : Rp K H (.bl b) v ↔ v = .bl b := by unfold Rp; exact Iff.rfl
theorem rp_int {i : Int} {v : V} : Rp K H (.int i) v ↔ v = .int i := by unfold Rp; exact Iff.rfl
theorem rp_str {x : Str} {v : V} : Rp K H (.str x) v ↔ v = .str x := by unfold Rp; exact Iff.rfl
theorem rp_fn {a : Addr} {v : V} : Rp K H (.fn a) v ↔ v = .ref a := by unfold Rp; exact Iff.rfl
theorem rp_exc {c : Str} {ns : List Str} {ds : List Dt} {v : V} : Rp K H (.exc c ns ds) v ↔ ∃ a C U dx vs, v = .ref a ∧ PySem.W.nsIn K mainGlobals c = some (some (.ref C)) ∧ XC K C U ∧ H a = some (.ext (exO a C dx)) ∧ H dx = some (.xd (ns.zip vs)) ∧ ns.length = ds.length ∧ RpL K H ds vs := by rw [Rp]
theorem rp_obj {c : Str} {ns : List Str} {ds : List Dt} {v : V} : Rp K H (.obj c ns ds) v ↔ ∃ a C dx vs, v = .ref a ∧ PySem.W.nsIn K mainGlobals c = some (some (.ref C)) ∧ Cls K C ∧ H a = some (.ins C dx (ns.zip vs)) ∧ ns.length = ds.length ∧ RpL K H ds vs := by rw [Rp]
theorem rp_tup {ds : List Dt} {v : V} : Rp K H (.tup ds) v ↔ ∃ a xs, v = .ref a ∧ SqT K H a xs ∧ RpL K H ds xs := by rw [Rp]
theorem rp_lst0 {ds : List Dt} {v : V} : Rp K H (.lst ds) v ↔ ∃ a xs, v = .ref a ∧ LsD K H a xs ∧ RpL K H ds xs := by rw [Rp]
theorem rp_lstI {ds : List Dt} {v : V} (h : ∃ a xs, v = .ref a ∧ H a = some (.lst xs) ∧ RpL K H ds xs) : Rp K H (.lst ds) v := let ⟨a, xs, e, h1, h2⟩ := h; rp_lst0.mpr ⟨a, xs, e, .inl h1, h2⟩
theorem rp_lstE {ds : List Dt} {v : V} (h : Rp K H (.lst ds) v) : ∃ a xs, v = .ref a ∧ SqL K H a xs ∧ RpL K H ds xs := let ⟨a, xs, e, h1, h2⟩ := rp_lst0.mp h; ⟨a, xs, e, h1.sq, h2⟩
theorem rp_ints {ns : List Int} {a : Addr} (h : SqL K H a (ns.map V.int)) (r : RpL K H (ns.map Dt.int) (ns.map V.int)) : Rp K H (.lst (ns.map Dt.int)) (.ref a) := rp_lst0.mpr ⟨a, _, rfl, .inr ⟨h, fun x hx => by obtain ⟨i, _, rfl⟩ := List.mem_map.mp hx; exact ⟨i, rfl⟩⟩, r⟩
theorem rpl_nil {vs : List V} : RpL K H [] vs ↔ vs = [] := by rw [RpL]
theorem rpl_cons {d : Dt} {ds : List Dt} {vs : List V} : RpL K H (d :: ds) vs ↔ ∃ v r, vs = v :: r ∧ Rp K H d v ∧ RpL K H ds r := by rw [RpL]
theorem RpL.nil : RpL K H [] [] := rpl_nil.mpr rfl
theorem RpL.cons {d : Dt} {ds : List Dt} {v : V} {vs : List V} (h : Rp K H d v) (r : RpL K H ds vs) : RpL K H (d :: ds) (v :: vs) := rpl_cons.mpr ⟨v, vs, rfl, h, r⟩
theorem RpL.len : ∀ {ds : List Dt} {vs : List V}, RpL K H ds vs → vs.length = ds.length
  | [], _, h => by rw [rpl_nil.mp h]; rfl
  | d :: ds, _, h => by
    obtain ⟨v, r, rfl, _, p⟩ := rpl_cons.mp h
    simp [RpL.len p]
theorem RpL.get : ∀ {ds : List Dt} {vs : List V} {i : Nat} {d : Dt}, RpL K H ds vs → ds[i]? = some d → ∃ v, vs[i]? = some v ∧ Rp K H d v
  | [], _, _, _, _, e => by simp at e
  | d :: ds, _, 0, _, h, e => by
    obtain ⟨v, r, rfl, q, p⟩ := rpl_cons.mp h
    simp at e; subst e
    exact ⟨v, rfl, q⟩
  | d :: ds, _, i + 1, _, h, e => by
    obtain ⟨v, r, rfl, q, p⟩ := rpl_cons.mp h
    obtain ⟨u, e1, e2⟩ := RpL.get (i := i) p (by simpa using e)
    exact ⟨u, by simpa using e1, e2⟩
theorem RpL.append : ∀ {ds es : List Dt} {vs ws : List V}, RpL K H ds vs → RpL K H es ws → RpL K H (ds ++ es) (vs ++ ws)
  | [], _, _, _, h, q => by rw [rpl_nil.mp h]; exact q
  | d :: ds, _, _, _, h, q => by
    obtain ⟨v, r, rfl, a, p⟩ := rpl_cons.mp h
    exact .cons a (RpL.append p q)
theorem RpL.drop : ∀ {ds : List Dt} {vs : List V} (n : Nat), RpL K H ds vs → RpL K H (ds.drop n) (vs.drop n)
  | _, _, 0, h => by simpa using h
  | [], _, n + 1, h => by rw [rpl_nil.mp h]; simpa using RpL.nil
  | d :: ds, _, n + 1, h => by
    obtain ⟨v, r, rfl, a, p⟩ := rpl_cons.mp h
    simpa using RpL.drop n p
theorem RpL.take : ∀ {ds : List Dt} {vs : List V} (n : Nat), RpL K H ds vs → RpL K H (ds.take n) (vs.take n)
  | _, _, 0, h => by simpa using RpL.nil
  | [], _, n + 1, h => by rw [rpl_nil.mp h]; simpa using RpL.nil
  | d :: ds, _, n + 1, h => by
    obtain ⟨v, r, rfl, a, p⟩ := rpl_cons.mp h
    simpa using RpL.cons a (RpL.take n p)
theorem RpL.ints : ∀ (ns : List Int), RpL K H (ns.map Dt.int) (ns.map V.int)
  | [] => RpL.nil
  | _ :: ns => RpL.cons (rp_int.mpr rfl) (RpL.ints ns)
end

def mask (O : List Addr) (H : Hp) : Hp := fun a => if a ∈ O then none else H a
theorem mask_in {O : List Addr} {H : Hp} {a : Addr} (h : a ∈ O) : mask O H a = none := if_pos h
theorem mask_out {O : List Addr} {H : Hp} {a : Addr} (h : a ∉ O) : mask O H a = H a := if_neg h
theorem mask_some {O : List Addr} {H : Hp} {a : Addr} {o : HO} (h : mask O H a = some o) : a ∉ O ∧ H a = some o := by
  by_cases q : a ∈ O
  · rw [mask_in q] at h; cases h
  · rw [mask_out q] at h; exact ⟨q, h⟩
theorem mask_le {O : List Addr} {H : Hp} : Same (mask O H) H := fun _ _ h => (mask_some h).2
theorem Same.mask {O : List Addr} {H H' : Hp} (s : Same H H') : Same (mask O H) (L2.mask O H') := fun a o h => by
  obtain ⟨q, e⟩ := mask_some h
  rw [mask_out q]; exact s a o e
theorem mask_sub {O O' : List Addr} {H : Hp} (h : ∀ a ∈ O', a ∈ O) : Same (mask O H) (mask O' H) := fun a o e => by
  obtain ⟨q, e⟩ := mask_some e
  rw [mask_out fun z => q (h a z)]; exact e
theorem Same.upd {H : Hp} {p : Addr} {o : HO} (h : H p = none) : Same H (L2.upd H p o) := fun a u e => by
  rw [upd_ne (ne_of_none e h)]; exact e

inductive En where
  | is (d : Dt) | own (ds : List Dt)
abbrev DEnv := List (Option En)
abbrev DTE := DEnv → (Dt → Prop) → Prop
abbrev DTT := DEnv → (Bool → Prop) → Prop
abbrev DTA := DEnv → (List Dt → Prop) → Prop
structure DEnds where
  nx : DEnv → Prop
  rt : Dt → Prop
  bk : DEnv → Prop := fun _ => False
  ct : DEnv → Prop := fun _ => False
abbrev DTS := DEnds → DEnv → Prop

structure Rep (K : PySem.W.Frag) (B : Hp) (F O : List Addr) (H : Hp) (σ : St) (ρ : DEnv) : Prop where
  len : σ.length = ρ.length
  base : Same B H
  fr : ∀ a ∈ O, B a = none
  th : ∀ a ∈ F ++ O, H a ≠ none
  is : ∀ (i : Nat) (d : Dt), ρ[i]? = some (some (.is d)) → ∃ v, σ[i]? = some (some v) ∧ Rp K (mask (F ++ O) H) d v
  own : ∀ (i : Nat) (ds : List Dt), ρ[i]? = some (some (.own ds)) → ∃ a xs, σ[i]? = some (some (.ref a)) ∧ a ∈ O ∧ a ∉ F ∧ H a = some (.lst xs) ∧ RpL K (mask (F ++ O) H) ds xs
  inj : ∀ (i j : Nat) (ds es : List Dt) (a : Addr), ρ[i]? = some (some (.own ds)) → ρ[j]? = some (some (.own es)) → σ[i]? = some (some (.ref a)) → σ[j]? = some (some (.ref a)) → i = j

section
variable {K : PySem.W.Frag} {B : Hp} {F O : List Addr} {H H' : Hp} {σ : St} {ρ : DEnv}
theorem Rep.same (r : Rep K B F O H σ ρ) (s : Same H H') : Rep K B F O H' σ ρ where
  len := r.len
  base := r.base.trans s
  fr := r.fr
  th := fun a h e => by
    have := r.th a h
    cases q : H a with
    | none => exact this q
    | some o => rw [s a o q] at e; cases e
  is := fun i d e => let ⟨v, h1, h2⟩ := r.is i d e; ⟨v, h1, h2.mono s.mask⟩
  own := fun i ds e => let ⟨a, xs, h1, h2, h3, h4, h5⟩ := r.own i ds e; ⟨a, xs, h1, h2, h3, s _ _ h4, h5.mono s.mask⟩
  inj := r.inj
theorem Rep.below (r : Rep K B F O H σ ρ) : Same (mask F B) (mask (F ++ O) H) := fun a o e => by
  obtain ⟨q, e⟩ := mask_some e
  rw [mask_out]
  · exact r.base a o e
  · intro z
    rcases List.mem_append.mp z with z | z
    · exact q z
    · rw [r.fr a z] at e; cases e
theorem Rep.set (r : Rep K B F O H σ ρ) (i : Nat) {d : Dt} {v : V} (h : Rp K (mask (F ++ O) H) d v) : Rep K B F O H (σ.set i (some v)) (ρ.set i (some (.is d))) := by
  have hl := r.len
  have back : ∀ (j : Nat) (ds : List Dt), (ρ.set i (some (.is d)))[j]? = some (some (.own ds)) → j ≠ i ∧ ρ[j]? = some (some (.own ds)) := fun j ds e => by
    by_cases hj : j = i
    · subst hj
      by_cases hk : j < ρ.length
      · rw [List.getElem?_set_self hk] at e; cases e
      · rw [List.getElem?_eq_none (by simpa using hk)] at e; cases e
    · rw [List.getElem?_set_ne (Ne.symm hj)] at e; exact ⟨hj, e⟩
  refine ⟨by simpa using hl, r.base, r.fr, r.th, fun j e q => ?_, fun j ds q => ?_, fun j k ds es a h1 h2 h3 h4 => ?_⟩
  · by_cases hj : j = i
    · subst hj
      by_cases hk : j < ρ.length
      · rw [List.getElem?_set_self hk] at q
        cases q
        exact ⟨v, List.getElem?_set_self (by omega), h⟩
      · rw [List.getElem?_eq_none (by simpa using hk)] at q; cases q
    · rw [List.getElem?_set_ne (Ne.symm hj)] at q ⊢
      exact r.is j e q
  · obtain ⟨hj, q⟩ := back j ds q
    rw [List.getElem?_set_ne (Ne.symm hj)]
    exact r.own j ds q
  · obtain ⟨hj, q1⟩ := back j ds h1
    obtain ⟨hk, q2⟩ := back k es h2
    rw [List.getElem?_set_ne (Ne.symm hj)] at h3
    rw [List.getElem?_set_ne (Ne.symm hk)] at h4
    exact r.inj j k ds es a q1 q2 h3 h4
end

def lE (K : PySem.W.Frag) (t : DTE) : TE := fun σ H Q => ∃ B F O ρ, Rep K B F O H σ ρ ∧ t ρ fun d => ∀ v H', Same H H' → Rp K (mask (F ++ O) H') d v → Q v H'
def lT (K : PySem.W.Frag) (t : DTT) : TT := fun σ H Q => ∃ B F O ρ, Rep K B F O H σ ρ ∧ t ρ fun b => ∀ H', Same H H' → Q b H'
def lA (K : PySem.W.Frag) (t : DTA) : TA := fun σ H Q => ∃ B F O ρ, Rep K B F O H σ ρ ∧ t ρ fun ds => ∀ vs H', Same H H' → RpL K (mask (F ++ O) H') ds vs → Q vs H'
def lD (K : PySem.W.Frag) (B : Hp) (F : List Addr) (D : Ends) : DEnds where
  nx := fun ρ' => ∀ O' σ' H', Rep K B F O' H' σ' ρ' → D.nx σ' H'
  rt := fun d => ∀ v H', Same B H' → Rp K (mask F H') d v → D.rt v H'
  bk := fun ρ' => ∀ O' σ' H', Rep K B F O' H' σ' ρ' → D.bk σ' H'
  ct := fun ρ' => ∀ O' σ' H', Rep K B F O' H' σ' ρ' → D.ct σ' H'
def lS (K : PySem.W.Frag) (t : DTS) : TS := fun D σ H => ∃ B F O ρ, Rep K B F O H σ ρ ∧ t (lD K B F D) ρ

structure DEnds.le (D D' : DEnds) : Prop where
  nx : ∀ ρ, D.nx ρ → D'.nx ρ
  rt : ∀ d, D.rt d → D'.rt d
  bk : ∀ ρ, D.bk ρ → D'.bk ρ
  ct : ∀ ρ, D.ct ρ → D'.ct ρ

structure DE (X : Cx) (e : Expr) (t : DTE) : Prop where
  mono : ∀ {ρ Q Q'}, (∀ d, Q d → Q' d) → t ρ Q → t ρ Q'
  pe : PE X e (lE X.K t)
structure DT (X : Cx) (e : Expr) (t : DTT) : Prop where
  mono : ∀ {ρ Q Q'}, (∀ d, Q d → Q' d) → t ρ Q → t ρ Q'
  pt : PT X e (lT X.K t)
structure DA (X : Cx) (es : List Expr) (t : DTA) : Prop where
  mono : ∀ {ρ Q Q'}, (∀ d, Q d → Q' d) → t ρ Q → t ρ Q'
  pa : PA X es (lA X.K t)
structure DS (X : Cx) (st : Stmt) (t : DTS) : Prop where
  mono : ∀ {ρ D D'}, DEnds.le D D' → t D ρ → t D' ρ
  ps : PS X st (lS X.K t)
structure DSs (X : Cx) (st : List Stmt) (t : DTS) : Prop where
  mono : ∀ {ρ D D'}, DEnds.le D D' → t D ρ → t D' ρ
  ps : PSs X st (lS X.K t)

theorem PE.imp {X : Cx} {e : Expr} {t t' : TE} (h : PE X e t) (i : ∀ σ H Q, t' σ H Q → t σ H Q) : PE X e t' := fun pins s σ H Q I q => h pins s σ H Q I (i _ _ _ q)
theorem PT.imp {X : Cx} {e : Expr} {t t' : TT} (h : PT X e t) (i : ∀ σ H Q, t' σ H Q → t σ H Q) : PT X e t' := fun pins s σ H Q I q => h pins s σ H Q I (i _ _ _ q)
theorem PA.imp {X : Cx} {e : List Expr} {t t' : TA} (h : PA X e t) (i : ∀ σ H Q, t' σ H Q → t σ H Q) : PA X e t' := fun pos pins s σ H Q I q => h pos pins s σ H Q I (i _ _ _ q)
theorem PS.imp {X : Cx} {e : Stmt} {t t' : TS} (h : PS X e t) (i : ∀ D σ H, t' D σ H → t D σ H) : PS X e t' := fun pins s σ H D I q => h pins s σ H D I (i _ _ _ q)
theorem PSs.imp {X : Cx} {e : List Stmt} {t t' : TS} (h : PSs X e t) (i : ∀ D σ H, t' D σ H → t D σ H) : PSs X e t' := fun pins s σ H D I q => h pins s σ H D I (i _ _ _ q)

section
variable {X : Cx} {a b c e : Expr} {es : List Expr} {ta tb tc te : DTE} {tA tB : DTT} {tl : DTA} {pos : Pos}

def dVar (i : Nat) : DTE := fun ρ Q => match ρ[i]? with
  | some (some (.is d)) => Q d
  | _ => False
def dC (d : Dt) : DTE := fun _ Q => Q d
theorem dv (i : Nat) {x : Str} {pos : Pos} (hN : X.N[i]? = some x := by rfl) (hv : Vis X.env.scope x := by first | exact Or.inl rfl | exact Or.inr (Or.inl rfl) | exact Or.inr (Or.inr rfl)) (hd : (x == ("__debug__" : Str)) = false := by decide)
    (hcd : (x == ("__classdict__" : Str)) = false := by decide) : DE X (.Name x pos) (dVar i) where
  mono := fun {ρ Q Q'} hq h => by
    unfold dVar at h ⊢
    split at h
    · exact hq _ h
    · exact h.elim
  pe := (pe_var hN hv hd hcd).imp fun σ H Q ⟨B, F, O, ρ, r, h⟩ => by
    unfold dVar at h
    split at h
    · rename_i d e
      obtain ⟨v, h1, h2⟩ := r.is i d e
      exact ⟨v, h1, h v H (Same.refl H) h2⟩
    · exact h.elim
theorem de_c {v : V} {d : Dt} (h : PE X e (tC v)) (hr : ∀ K H, Rp K H d v) : DE X e (dC d) where
  mono := fun hq h => hq _ h
  pe := h.imp fun σ H Q ⟨B, F, O, ρ, r, h⟩ => h v H (Same.refl H) (hr _ _)
theorem de_int {i j pos} : DE X (.Constant (.int i) j pos) (dC (.int i)) := de_c pe_int fun _ _ => rp_int.mpr rfl
theorem de_bl {i j pos} : DE X (.Constant (.bool i) j pos) (dC (.bl i)) := de_c pe_bl fun _ _ => rp_bl.mpr rfl
theorem de_non {j pos} : DE X (.Constant .none j pos) (dC .non) := de_c pe_non fun _ _ => rp_non.mpr rfl
theorem de_str {x j pos} : DE X (.Constant (.str x) j pos) (dC (.str x)) := de_c pe_str fun _ _ => rp_str.mpr rfl
theorem de_glob {x : Str} {v : V} {u : Value} {d : Dt} {pos : Pos} (hg : Gl X x) (hm : X.mg x = some u) (r : RelV v u) (hr : ∀ H, Rp X.K H d v) (hd : (x == ("__debug__" : Str)) = false := by decide) : DE X (.Name x pos) (dC d) where
  mono := fun hq h => hq _ h
  pe := (pe_glob hg hm r hd).imp fun σ H Q ⟨B, F, O, ρ, _, h⟩ => h v H (Same.refl H) (hr _)

abbrev D2 := Dt → Dt → (Dt → Prop) → Prop
structure Sem2 (K : PySem.W.Frag) (r : R2) (t : D2) : Prop where
  mono : ∀ {a b Q Q'}, (∀ d, Q d → Q' d) → t a b Q → t a b Q'
  ok : ∀ (O : List Addr) (H : Hp) (a b : Dt) (x y : V) (Q : VK), (∀ p ∈ O, H p ≠ none) → Rp K (mask O H) a x → Rp K (mask O H) b y →
    t a b (fun d => ∀ v H', Same H H' → Rp K (mask O H') d v → Q v H') → r x y H Q
def dOp (t : D2) (ta tb : DTE) : DTE := fun ρ Q => ta ρ fun a => tb ρ fun b => t a b Q
theorem op_imp {K : PySem.W.Frag} {r : R2} {t : D2} (S : Sem2 K r t) {ta tb : DTE} (ma : ∀ {ρ Q Q'}, (∀ d, Q d → Q' d) → ta ρ Q → ta ρ Q') (mb : ∀ {ρ Q Q'}, (∀ d, Q d → Q' d) → tb ρ Q → tb ρ Q')
    (σ : St) (H : Hp) (Q : VK) (h : lE K (dOp t ta tb) σ H Q) : tOp r (lE K ta) (lE K tb) σ H Q := by
  obtain ⟨B, F, O, ρ, R, h⟩ := h
  refine ⟨B, F, O, ρ, R, ma (fun a h v H1 s1 r1 => ?_) h⟩
  refine ⟨B, F, O, ρ, R.same s1, mb (fun b h u H2 s2 r2 => ?_) h⟩
  exact S.ok _ H2 a b v u Q ((R.same s1).same s2).th (r1.mono s2.mask) r2 (S.mono (fun d q w H3 s3 r3 => q w H3 ((s1.trans s2).trans s3) r3) h)
theorem dop_mono {t : D2} (m : ∀ {a b Q Q'}, (∀ d, Q d → Q' d) → t a b Q → t a b Q') (ma : ∀ {ρ Q Q'}, (∀ d, Q d → Q' d) → ta ρ Q → ta ρ Q') (mb : ∀ {ρ Q Q'}, (∀ d, Q d → Q' d) → tb ρ Q → tb ρ Q') :
    ∀ {ρ Q Q'}, (∀ d, Q d → Q' d) → dOp t ta tb ρ Q → dOp t ta tb ρ Q' := fun hq h => ma (fun _ h => mb (fun _ h => m hq h) h) h
theorem de_op {op : Operator} {r : R2} {t : D2} (ho : OpR X (binaryOp op) r) (S : Sem2 X.K r t) (ha : DE X a ta) (hb : DE X b tb) : DE X (.BinOp a op b pos) (dOp t ta tb) where
  mono := dop_mono (t := t) (ta := ta) (tb := tb) S.mono ha.mono hb.mono
  pe := (pe_op ho ha.pe hb.pe).imp (op_imp (ta := ta) (tb := tb) S ha.mono hb.mono)
theorem de_cmp {op : CmpOp} {r : R2} {t : D2} (ho : OpR X (compareOp op) r) (S : Sem2 X.K r t) (ha : DE X a ta) (hb : DE X b tb) (hm : behindInMarks op b = false) : DE X (.Compare a [op] [b] pos) (dOp t ta tb) where
  mono := dop_mono (t := t) (ta := ta) (tb := tb) S.mono ha.mono hb.mono
  pe := (pe_cmpR ho ha.pe hb.pe hm).imp (op_imp (ta := ta) (tb := tb) S ha.mono hb.mono)
theorem de_ix {r : R2} {t : D2} (ho : IxR X r) (S : Sem2 X.K r t) (ha : DE X a ta) (hb : DE X b tb) (hs : PlainIx b) : DE X (.Subscript a b pos) (dOp t ta tb) where
  mono := dop_mono (t := t) (ta := ta) (tb := tb) S.mono ha.mono hb.mono
  pe := (pe_ix ho ha.pe hb.pe hs).imp (op_imp (ta := ta) (tb := tb) S ha.mono hb.mono)
def dI (C : Int → Int → Prop) (g : Int → Int → Int) : D2 := fun a b Q => match a, b with
  | .int i, .int j => C i j ∧ Q (.int (g i j))
  | _, _ => False
def dI0 (g : Int → Int → Int) : D2 := fun a b Q => match a, b with
  | .int i, .int j => Q (.int (g i j))
  | _, _ => False
def dB0 (g : Int → Int → Bool) : D2 := fun a b Q => match a, b with
  | .int i, .int j => Q (.bl (g i j))
  | _, _ => False
theorem sem_I {K : PySem.W.Frag} {C : Int → Int → Prop} {g : Int → Int → Int} : Sem2 K (rI C fun i j => .int (g i j)) (dI C g) where
  mono := fun {a b Q Q'} hq h => by
    unfold dI at h ⊢
    split at h
    · exact ⟨h.1, hq _ h.2⟩
    · exact h.elim
  ok := fun O H a b x y Q _ ra rb h => by
    unfold dI at h
    split at h
    · exact ⟨_, _, rp_int.mp ra, rp_int.mp rb, h.1, h.2 _ H (Same.refl H) (rp_int.mpr rfl)⟩
    · exact h.elim
theorem sem_I0 {K : PySem.W.Frag} {g : Int → Int → Int} : Sem2 K (rI0 fun i j => .int (g i j)) (dI0 g) where
  mono := fun {a b Q Q'} hq h => by
    unfold dI0 at h ⊢
    split at h
    · exact hq _ h
    · exact h.elim
  ok := fun O H a b x y Q _ ra rb h => by
    unfold dI0 at h
    split at h
    · exact ⟨_, _, rp_int.mp ra, rp_int.mp rb, h _ H (Same.refl H) (rp_int.mpr rfl)⟩
    · exact h.elim
theorem sem_B0 {K : PySem.W.Frag} {g : Int → Int → Bool} : Sem2 K (rI0 fun i j => .bl (g i j)) (dB0 g) where
  mono := fun {a b Q Q'} hq h => by
    unfold dB0 at h ⊢
    split at h
    · exact hq _ h
    · exact h.elim
  ok := fun O H a b x y Q _ ra rb h => by
    unfold dB0 at h
    split at h
    · exact ⟨_, _, rp_int.mp ra, rp_int.mp rb, h _ H (Same.refl H) (rp_bl.mpr rfl)⟩
    · exact h.elim
theorem op_mulO : OpR X (binaryOp .Mult) (rI IntMulOk fun i j => .int (i * j)) := opI fun _ _ _ _ _ _ _ hc q => mul_int q hc
def CDv (_ j : Int) : Prop := j ≠ 0 ∧ j.natAbs < 2 ^ 9000
theorem log2_small {n : Nat} (h : n < 2 ^ 9000) : n.log2 < 9000 := by
  by_cases h0 : n = 0
  · subst h0; decide +kernel
  · exact (Nat.log2_lt h0).mpr h
theorem op_fdivO : OpR X (binaryOp .FloorDiv) (rI CDv fun i j => .int (i.fdiv j)) := opI fun _ _ _ _ _ _ _ hc q => floordiv_int hc.1 q (.inl (PyProof.noPylong_of_log2 (log2_small hc.2)))
def dAdd : D2 := dI0 fun i j => i + j
def dSub : D2 := dI0 fun i j => i - j
def dMul : D2 := dI IntMulOk fun i j => i * j
def dMod : D2 := dI (fun _ j => j ≠ 0) fun i j => i.fmod j
def dDiv : D2 := dI CDv fun i j => i.fdiv j
def dPow : D2 := dI CPow fun i j => i ^ j.toNat
def dShl : D2 := dI CPow fun i j => i * 2 ^ j.toNat
def dShr : D2 := dI (fun _ j => 0 ≤ j) fun i j => i / 2 ^ j.toNat
theorem de_add (ha : DE X a ta) (hb : DE X b tb) : DE X (.BinOp a .Add b pos) (dOp dAdd ta tb) := de_op op_add sem_I0 ha hb
theorem de_sub (ha : DE X a ta) (hb : DE X b tb) : DE X (.BinOp a .Sub b pos) (dOp dSub ta tb) := de_op op_sub sem_I0 ha hb
theorem de_mul (ha : DE X a ta) (hb : DE X b tb) : DE X (.BinOp a .Mult b pos) (dOp dMul ta tb) := de_op op_mulO sem_I ha hb
theorem de_mod (ha : DE X a ta) (hb : DE X b tb) : DE X (.BinOp a .Mod b pos) (dOp dMod ta tb) := de_op op_modN sem_I ha hb
theorem de_div (ha : DE X a ta) (hb : DE X b tb) : DE X (.BinOp a .FloorDiv b pos) (dOp dDiv ta tb) := de_op op_fdivO sem_I ha hb
theorem de_pow (ha : DE X a ta) (hb : DE X b tb) : DE X (.BinOp a .Pow b pos) (dOp dPow ta tb) := de_op op_pow sem_I ha hb
theorem de_shl (ha : DE X a ta) (hb : DE X b tb) : DE X (.BinOp a .LShift b pos) (dOp dShl ta tb) := de_op op_shl sem_I ha hb
def dLt : D2 := dB0 fun i j => decide (i < j)
def dLe : D2 := dB0 fun i j => decide (i ≤ j)
def dGt : D2 := dB0 fun i j => decide (j < i)
def dGe : D2 := dB0 fun i j => decide (j ≤ i)
def ixL : Int → List Dt → Option Dt
  | .ofNat n, ds => ds[n]?
  | .negSucc m, ds => if m < ds.length then ds[ds.length - 1 - m]? else none
def ixD (i : Int) : Dt → Option Dt
  | .tup ds => ixL i ds
  | .lst ds => ixL i ds
  | _ => none
theorem ixL_at {i : Int} {ds : List Dt} {d : Dt} (h : ixL i ds = some d) : atI ds i = some d := by
  cases i with
  | ofNat n => exact atI_nat h
  | negSucc m =>
    have h' : (if m < ds.length then ds[ds.length - 1 - m]? else none) = some d := h
    by_cases hm : m < ds.length
    · rw [if_pos hm] at h'
      unfold atI ixN
      have h1 : ¬ (0 : Int) ≤ Int.negSucc m := by omega
      have h2 : -(ds.length : Int) ≤ Int.negSucc m := by omega
      have h3 : (Int.negSucc m + (ds.length : Int)).toNat = ds.length - 1 - m := by omega
      rw [if_neg h1, if_pos h2, Option.bind_some, h3]
      exact h'
    · rw [if_neg hm] at h'; cases h'
def dIx : D2 := fun a b Q => match b with
  | .int i => match ixD i a with
    | some d => Q d
    | none => False
  | _ => False
theorem atI_rp {K : PySem.W.Frag} {H : Hp} {ds : List Dt} {xs : List V} {i : Int} {d : Dt} (r : RpL K H ds xs) (h : atI ds i = some d) : ∃ v, atI xs i = some v ∧ Rp K H d v := by
  unfold atI at h ⊢
  rw [r.len]
  cases e : ixN ds.length i with
  | none => rw [e] at h; cases h
  | some j =>
    rw [e] at h
    exact r.get h
theorem sem_ix {K : PySem.W.Frag} : Sem2 K (rIx K) dIx where
  mono := fun {a b Q Q'} hq h => by
    unfold dIx at h ⊢
    split at h
    · split at h
      · rename_i e; exact hq _ h
      · exact h.elim
    · exact h.elim
  ok := fun O H a b x y Q _ ra rb h => by
    unfold dIx at h
    split at h
    · split at h
      · rename_i i _ d e
        have eb := rp_int.mp rb
        subst eb
        cases a with
        | tup ds =>
          obtain ⟨p, xs, rfl, hs, hl⟩ := rp_tup.mp ra
          obtain ⟨v, e1, e2⟩ := atI_rp hl (ixL_at e)
          exact .inr (.inl ⟨p, xs, i, v, rfl, rfl, mask_le.seqT hs, e1, h v H (Same.refl H) e2⟩)
        | lst ds =>
          obtain ⟨p, xs, rfl, hs, hl⟩ := rp_lstE ra
          obtain ⟨v, e1, e2⟩ := atI_rp hl (ixL_at e)
          exact .inl ⟨p, xs, i, v, rfl, rfl, mask_le.seq hs, e1, h v H (Same.refl H) e2⟩
        | _ => cases e
      · exact h.elim
    · exact h.elim
theorem de_sub_ix (ha : DE X a ta) (hb : DE X b tb) (hs : PlainIx b := by exact fun _ _ => rfl) : DE X (.Subscript a b pos) (dOp dIx ta tb) := de_ix ix_seq sem_ix ha hb hs

def dNeg : Dt → (Dt → Prop) → Prop := fun a Q => match a with
  | .int i => Q (.int (-i))
  | _ => False
def dUn (t : Dt → (Dt → Prop) → Prop) (ta : DTE) : DTE := fun ρ Q => ta ρ fun a => t a Q
theorem de_neg (ha : DE X a ta) : DE X (.UnaryOp .USub a pos) (dUn dNeg ta) where
  mono := fun hq h => ha.mono (fun d h => by
    unfold dNeg at h ⊢
    split at h
    · exact hq _ h
    · exact h.elim) h
  pe := (pe_un un_neg ha.pe).imp fun σ H Q ⟨B, F, O, ρ, R, h⟩ => ⟨B, F, O, ρ, R, ha.mono (fun d h v H1 s1 r1 => by
    unfold dNeg at h
    split at h
    · exact ⟨_, rp_int.mp r1, h _ H1 s1 (rp_int.mpr rfl)⟩
    · exact h.elim) h⟩

def dNot (ta : DTE) : DTE := fun ρ Q => ta ρ fun a => match a with
  | .bl k => Q (.bl (!k))
  | _ => False
def dAnd (ta tb : DTE) : DTE := fun ρ Q => ta ρ fun a => match a with
  | .bl k => if k = true then tb ρ Q else Q (.bl false)
  | _ => False
def dOr (ta tb : DTE) : DTE := fun ρ Q => ta ρ fun a => match a with
  | .bl k => if k = true then Q (.bl true) else tb ρ Q
  | _ => False
def dTst (t : DTE) : DTT := fun ρ Q => t ρ fun a => match a with
  | .bl k => Q k
  | _ => False
theorem dtst_mono {t : DTE} (m : ∀ {ρ Q Q'}, (∀ d, Q d → Q' d) → t ρ Q → t ρ Q') : ∀ {ρ Q Q'}, (∀ d, Q d → Q' d) → dTst t ρ Q → dTst t ρ Q' := fun hq h => m (fun d h => by
    split at h
    · exact hq _ h
    · exact h.elim) h
theorem dt_val (h : DE X e te) (he : ∀ whole, isTrue e X.env whole = (do let v ← whole; standAt e.pos; holding [v] (truthy v)) := by intro _; rfl) : DT X e (dTst te) where
  mono := dtst_mono (t := te) h.mono
  pt := (pt_val h.pe he).imp fun σ H Q ⟨B, F, O, ρ, R, q⟩ => ⟨B, F, O, ρ, R, h.mono (fun d q v H1 s1 r1 => by
    split at q
    · exact ⟨_, rp_bl.mp r1, q H1 s1⟩
    · exact q.elim) q⟩
theorem dt_cmp {op : CmpOp} {r : R2} {t : D2} (ho : OpR X (compareOp op) r) (S : Sem2 X.K r t) (ha : DE X a ta) (hb : DE X b tb) (hm : behindInMarks op b = false) : DT X (.Compare a [op] [b] pos) (dTst (dOp t ta tb)) where
  mono := dtst_mono (t := dOp t ta tb) (dop_mono (t := t) (ta := ta) (tb := tb) S.mono ha.mono hb.mono)
  pt := (pt_cmpR ho ha.pe hb.pe hm).imp fun σ H Q ⟨B, F, O, ρ, R, q⟩ => op_imp (ta := ta) (tb := tb) S ha.mono hb.mono σ H _ ⟨B, F, O, ρ, R, dop_mono (t := t) (ta := ta) (tb := tb) S.mono ha.mono hb.mono (fun d q v H1 s1 r1 => by
    split at q
    · exact ⟨_, rp_bl.mp r1, q H1 s1⟩
    · exact q.elim) q⟩
theorem dt_lt (ha : DE X a ta) (hb : DE X b tb) : DT X (.Compare a [.Lt] [b] pos) (dTst (dOp dLt ta tb)) := dt_cmp op_lt sem_B0 ha hb (nomark _)
theorem dt_gt (ha : DE X a ta) (hb : DE X b tb) : DT X (.Compare a [.Gt] [b] pos) (dTst (dOp dGt ta tb)) := dt_cmp op_gt sem_B0 ha hb (nomark _)
def dTNot (t : DTT) : DTT := fun ρ Q => t ρ fun k => Q (!k)
def dTAnd (t u : DTT) : DTT := fun ρ Q => t ρ fun k => if k = true then u ρ Q else Q false
def dTOr (t u : DTT) : DTT := fun ρ Q => t ρ fun k => if k = true then Q true else u ρ Q
theorem dt_not (ha : DT X a tA) : DT X (.UnaryOp .Not a pos) (dTNot tA) where
  mono := fun hq h => ha.mono (fun _ h => hq _ h) h
  pt := (pt_not ha.pt).imp fun σ H Q ⟨B, F, O, ρ, R, q⟩ => ⟨B, F, O, ρ, R, q⟩
structure DW (X : Cx) (e : Expr) (t : DTT) : Prop where
  mono : ∀ {ρ Q Q'}, (∀ d, Q d → Q' d) → t ρ Q → t ρ Q'
  pw : PW X e (lT X.K t)
theorem DW.dt {t : DTT} (h : DW X e t) : DT X e t := ⟨h.mono, h.pw.pt⟩
theorem dw_and1 (ha : DT X a tA) : DW X (.BoolOp .And [a] pos) tA := ⟨ha.mono, pw_and1 ha.pt⟩
theorem dw_or1 (ha : DT X a tA) : DW X (.BoolOp .Or [a] pos) tA := ⟨ha.mono, pw_or1 ha.pt⟩
theorem PW.imp {t t' : TT} (h : PW X e t) (i : ∀ σ H Q, t' σ H Q → t σ H Q) : PW X e t' := fun wh pins s σ H Q I q => h wh pins s σ H Q I (i _ _ _ q)
theorem dw_and {rest : List Expr} (ha : DT X a tA) (hb : DW X (.BoolOp .And (b :: rest) pos) tB) : DW X (.BoolOp .And (a :: b :: rest) pos) (dTAnd tA tB) where
  mono := fun hq h => ha.mono (fun k h => by
    cases k with
    | true => exact hb.mono hq h
    | false => exact hq _ h) h
  pw := (pw_and ha.pt hb.pw).imp fun σ H Q ⟨B, F, O, ρ, R, q⟩ => ⟨B, F, O, ρ, R, ha.mono (fun k h H1 s1 => by
    cases k with
    | true => exact ⟨B, F, O, ρ, R.same s1, hb.mono (fun k q H2 s2 => q H2 (s1.trans s2)) h⟩
    | false => exact h H1 s1) q⟩
theorem dw_or {rest : List Expr} (ha : DT X a tA) (hb : DW X (.BoolOp .Or (b :: rest) pos) tB) : DW X (.BoolOp .Or (a :: b :: rest) pos) (dTOr tA tB) where
  mono := fun hq h => ha.mono (fun k h => by
    cases k with
    | true => exact hq _ h
    | false => exact hb.mono hq h) h
  pw := (pw_or ha.pt hb.pw).imp fun σ H Q ⟨B, F, O, ρ, R, q⟩ => ⟨B, F, O, ρ, R, ha.mono (fun k h H1 s1 => by
    cases k with
    | false => exact ⟨B, F, O, ρ, R.same s1, hb.mono (fun k q H2 s2 => q H2 (s1.trans s2)) h⟩
    | true => exact h H1 s1) q⟩
def dIfE (t : DTT) (ta tb : DTE) : DTE := fun ρ Q => t ρ fun k => if k = true then ta ρ Q else tb ρ Q
def dNil : DTA := fun _ Q => Q []
def dCons (te : DTE) (tl : DTA) : DTA := fun ρ Q => te ρ fun d => tl ρ fun ds => Q (d :: ds)
theorem da_nil : DA X [] dNil := ⟨fun hq h => hq _ h, pa_nil.imp fun σ H Q ⟨B, F, O, ρ, R, q⟩ => q [] H (Same.refl H) RpL.nil⟩
theorem da_cons (ha : DE X e te) (hr : DA X es tl) (hs : starEach (e :: es) X.env = (false, eval e X.env) :: starEach es X.env := by rfl) : DA X (e :: es) (dCons te tl) where
  mono := fun hq h => ha.mono (fun d h => hr.mono (fun ds h => hq _ h) h) h
  pa := (pa_cons ha.pe hr.pa hs).imp fun σ H Q ⟨B, F, O, ρ, R, q⟩ => ⟨B, F, O, ρ, R, ha.mono (fun d h v H1 s1 r1 => ⟨B, F, O, ρ, R.same s1, hr.mono (fun ds h vs H2 s2 r2 =>
    h (v :: vs) H2 (s1.trans s2) (RpL.cons (r1.mono s2.mask) r2)) h⟩) q⟩
def dTup (tl : DTA) : DTE := fun ρ Q => tl ρ fun ds => ds.length ≤ sizeLine ∧ Q (.tup ds)
def dLst (tl : DTA) : DTE := fun ρ Q => tl ρ fun ds => ds.length ≤ sizeLine ∧ Q (.lst ds)
theorem mask_upd {O : List Addr} {H : Hp} {p : Addr} {o : HO} (hp : p ∉ O) : mask O (upd H p o) p = some o := by rw [mask_out hp, upd_same]
theorem de_tup {k} (h : DA X es tl) : DE X (.Tuple es k pos) (dTup tl) where
  mono := fun hq z => h.mono (fun ds q => ⟨q.1, hq _ q.2⟩) z
  pe := (pe_tup h.pa).imp fun σ H Q ⟨B, F, O, ρ, R, q⟩ => ⟨B, F, O, ρ, R, h.mono (fun ds z vs H1 s1 r1 => ⟨by rw [r1.len]; exact z.1, fun p hp => by
    have np : p ∉ F ++ O := fun m => (R.same s1).th p m hp
    exact z.2 (.ref p) _ (s1.trans (Same.upd hp)) (rp_tup.mpr ⟨p, vs, rfl, SqT.of (mask_upd np), r1.mono (Same.upd hp).mask⟩)⟩) q⟩
theorem de_lst (h : DA X es tl) : DE X (.List es pos) (dLst tl) where
  mono := fun hq z => h.mono (fun ds q => ⟨q.1, hq _ q.2⟩) z
  pe := (pe_lst h.pa).imp fun σ H Q ⟨B, F, O, ρ, R, q⟩ => ⟨B, F, O, ρ, R, h.mono (fun ds z vs H1 s1 r1 => ⟨by rw [r1.len]; exact z.1, fun p hp => by
    have np : p ∉ F ++ O := fun m => (R.same s1).th p m hp
    exact z.2 (.ref p) _ (s1.trans (Same.upd hp)) (rp_lstI ⟨p, vs, rfl, (mask_upd np), r1.mono (Same.upd hp).mask⟩)⟩) q⟩

abbrev DSp := List Dt → (Dt → Prop) → Prop
def lSp (K : PySem.W.Frag) (sp : DSp) : Sp := fun vs H Q _ => ∃ F ds, (∀ a ∈ F, H a ≠ none) ∧ RpL K (mask F H) ds vs ∧ sp ds fun d => ∀ v H', Same H H' → Rp K (mask F H') d v → Q v H'
def MonoSp (sp : DSp) : Prop := ∀ ds Q Q', (∀ d, Q d → Q' d) → sp ds Q → sp ds Q'
def dCall (sp : DSp) (tl : DTA) : DTE := fun ρ Q => tl ρ fun ds => sp ds Q
theorem de_call {CX : CXT} {k : Nat} {f : Addr} {fd : FuncData} {ps : List Str} {sp : DSp} {x : Str} {p : Pos} (m : MonoSp sp) (G : FnOk X.prog X.w X.K X.mg X.base CX0 k f fd ps (lSp X.K sp)) (hr : Room k X.A) (hg : Gl X x) (hm : X.mg x = some (.ref f))
    (hk : PySem.W.keepIn X.K (.ref f) = true) (hb : Binds X.K fd ps []) (ha : DA X (e :: es) tl) (hdb : (x == ("__debug__" : Str)) = false := by decide)
    (he : starEach (e :: es) X.env = (false, eval e X.env) :: starEach es X.env := by rfl) (hpl : (backTo pos (starEach es X.env)).any (·.1) = false := by rfl) : DE X (.Call (.Name x p) (e :: es) [] pos) (dCall sp tl) where
  mono := fun hq z => ha.mono (fun ds q => m _ _ _ hq q) z
  pe := (pe_call G hr hg hm hk hb .nil pass0 ha.pa hdb he hpl).imp fun σ H Q ⟨B, F, O, ρ, R, q⟩ => ⟨B, F, O, ρ, R, ha.mono (fun ds z vs H1 s1 r1 => by
    show lSp X.K sp (vs ++ []) H1 Q E0
    rw [List.append_nil]
    exact ⟨F ++ O, ds, (R.same s1).th, r1, m _ _ _ (fun d q v H2 s2 r2 => q v H2 (s1.trans s2) r2) z⟩) q⟩

variable {st : Stmt} {sts : List Stmt} {t u : DTS}
def dNext : DTS := fun D ρ => D.nx ρ
def dSeq (t u : DTS) : DTS := fun D ρ => t { D with nx := u D } ρ
theorem le_nx {D D' : DEnds} {P P' : DEnv → Prop} (h : DEnds.le D D') (hp : ∀ ρ, P ρ → P' ρ) : DEnds.le { D with nx := P } { D' with nx := P' } := ⟨hp, h.rt, h.bk, h.ct⟩
theorem le_refl {D : DEnds} : DEnds.le D D := ⟨fun _ h => h, fun _ h => h, fun _ h => h, fun _ h => h⟩
theorem dss_nil : DSs X [] dNext := ⟨fun hd h => hd.nx _ h, pss_nil.imp fun D σ H ⟨B, F, O, ρ, R, h⟩ => h O σ H R⟩
theorem dss_cons (h1 : DS X st t) (h2 : DSs X sts u) : DSs X (st :: sts) (dSeq t u) where
  mono := fun hd h => h1.mono (le_nx hd fun ρ q => h2.mono hd q) h
  ps := (pss_cons h1.ps h2.ps).imp fun D σ H ⟨B, F, O, ρ, R, h⟩ => ⟨B, F, O, ρ, R, h1.mono (D := { lD X.K B F D with nx := u (lD X.K B F D) }) ⟨fun ρ' q O' σ' H' R' => ⟨B, F, O', ρ', R', q⟩, fun _ q => q, fun _ q => q, fun _ q => q⟩ h⟩
theorem dss_one (h1 : DS X st t) : DSs X [st] t := ⟨h1.mono, pss_one h1.ps⟩
def dNever : DTS := fun _ _ => False
theorem ds_never : DS X st dNever := ⟨fun _ h => h.elim, ps_never.imp fun D σ H ⟨B, F, O, ρ, R, h⟩ => h.elim⟩
def dDrop (te : DTE) : DTS := fun D ρ => te ρ fun _ => D.nx ρ
def dRet (te : DTE) : DTS := fun D ρ => te ρ D.rt
theorem mask_app {F O : List Addr} {H : Hp} : Same (mask (F ++ O) H) (mask F H) := mask_sub fun _ h => List.mem_append_left _ h
theorem ds_ret (he : DE X e te) : DS X (.Return (some e) pos) (dRet te) where
  mono := fun hd h => he.mono (fun _ h => hd.rt _ h) h
  ps := (ps_ret he.pe).imp fun D σ H ⟨B, F, O, ρ, R, h⟩ => ⟨B, F, O, ρ, R, he.mono (fun d q v H1 s1 r1 => q v H1 (R.base.trans s1) (r1.mono mask_app)) h⟩
def dRetN : DTS := fun D _ => D.rt .non
def dIf (c : DTT) (t u : DTS) : DTS := fun D ρ => c ρ fun k => if k = true then t D ρ else u D ρ
theorem ds_if {sa sb : List Stmt} (hc : DT X c tA) (ha : DSs X sa t) (hb : DSs X sb u) : DS X (.If c sa sb pos) (dIf tA t u) where
  mono := fun hd h => hc.mono (fun k h => by
    cases k with
    | true => exact ha.mono hd h
    | false => exact hb.mono hd h) h
  ps := (ps_if hc.pt ha.ps hb.ps).imp fun D σ H ⟨B, F, O, ρ, R, h⟩ => ⟨B, F, O, ρ, R, hc.mono (fun k h H1 s1 => by
    cases k with
    | true => exact ⟨B, F, O, ρ, R.same s1, h⟩
    | false => exact ⟨B, F, O, ρ, R.same s1, h⟩) h⟩

abbrev DTG := Dt → DEnv → (DEnv → Prop) → Prop
abbrev DTGs := List Dt → DEnv → (DEnv → Prop) → Prop
def lG (K : PySem.W.Frag) (g : DTG) : TG := fun v σ H Q => ∃ B F O ρ d, Rep K B F O H σ ρ ∧ Rp K (mask (F ++ O) H) d v ∧ g d ρ fun ρ' => ∀ σ', Rep K B F O H σ' ρ' → Q σ' H
structure DG (X : Cx) (tg : Expr) (g : DTG) : Prop where
  mono : ∀ {d ρ Q Q'}, (∀ ρ', Q ρ' → Q' ρ') → g d ρ Q → g d ρ Q'
  pg : PG X tg (lG X.K g)
theorem PG.imp {e : Expr} {t t' : TG} (h : PG X e t) (i : ∀ v σ H Q, t' v σ H Q → t v σ H Q) : PG X e t' := fun pins s σ H v u Q I r q => h pins s σ H v u Q I r (i _ _ _ _ q)
theorem PGs.imp {e : List Expr} {t t' : TGs} (h : PGs X e t) (i : ∀ v σ H Q, t' v σ H Q → t v σ H Q) : PGs X e t' := fun pins s σ H v u Q I r q => h pins s σ H v u Q I r (i _ _ _ _ q)
def dgName (i : Nat) : DTG := fun d ρ Q => Q (ρ.set i (some (.is d)))
theorem dg_name (i : Nat) {x : Str} (hN : X.N.Nodup) (hi : X.N[i]? = some x := by rfl) (hx : Loc X.env.scope x := by first | exact Or.inl rfl | exact Or.inr rfl)
    (hf : X.fn x = true ∨ X.env.scope.names.lookup x = some .local := by first | exact .inl rfl | exact .inr rfl | assumption) : DG X (.Name x pos) (dgName i) where
  mono := fun hq h => hq _ h
  pg := (pg_name hN hi hx hf).imp fun v σ H Q ⟨B, F, O, ρ, d, R, r, h⟩ => h _ (R.set i r)
def dgNil : DTGs := fun ds ρ Q => match ds with
  | [] => Q ρ
  | _ => False
def dgCons (g : DTG) (gs : DTGs) : DTGs := fun ds ρ Q => match ds with
  | d :: r => g d ρ fun ρ' => gs r ρ' Q
  | [] => False
def dgTup (n : Nat) (gs : DTGs) : DTG := fun d ρ Q => match d with
  | .tup ds => ds.length = n ∧ gs ds ρ Q
  | _ => False
def dAsg (te : DTE) (g : DTG) : DTS := fun D ρ => te ρ fun d => g d ρ D.nx
def dWhile (c : DTT) (tb : DTS) : DTS := fun D ρ => ∃ W : Nat → DEnv → Prop, (∃ m, W m ρ) ∧ ∀ m ρ, W m ρ →
  c ρ fun k => if k = true then tb { D with nx := fun ρ' => ∃ m', m' < m ∧ W m' ρ', ct := fun ρ' => ∃ m', m' < m ∧ W m' ρ', bk := D.nx } ρ else D.nx ρ
theorem ds_while {body : List Stmt} (hp : PassesOwn (model X.prog X.w) X.A X.env X.xe) (hc : DT X c tA) (hb : DSs X body t) : DS X (.While c body [] pos) (dWhile tA t) where
  mono := fun {ρ D D'} hd ⟨W, h0, h⟩ => ⟨W, h0, fun m ρ w => hc.mono (fun k h => by
    cases k with
    | true => exact hb.mono (D := { D with nx := fun ρ' => ∃ m', m' < m ∧ W m' ρ', ct := fun ρ' => ∃ m', m' < m ∧ W m' ρ', bk := D.nx }) ⟨fun _ q => q, hd.rt, hd.nx, fun _ q => q⟩ h
    | false => exact hd.nx _ h) (h m ρ w)⟩
  ps := (ps_while hp hc.pt hb.ps).imp fun D σ H ⟨B, F, O, ρ, R, W, ⟨m0, w0⟩, h⟩ => by
    refine ⟨fun m σ H => ∃ O ρ, Rep X.K B F O H σ ρ ∧ W m ρ, ⟨m0, O, ρ, R, w0⟩, ?_⟩
    rintro m σ H ⟨O, ρ, R, w⟩
    refine ⟨B, F, O, ρ, R, hc.mono (fun k h H1 s1 => ?_) (h m ρ w)⟩
    cases k with
    | true =>
      refine ⟨fun σ' H' => ∃ m', m' < m ∧ ∃ O ρ, Rep X.K B F O H' σ' ρ ∧ W m' ρ, fun σ' H' ⟨m', l, q⟩ => ⟨m', l, q⟩, B, F, O, ρ, R.same s1, hb.mono (D := { lD X.K B F D with nx := fun ρ' => ∃ m', m' < m ∧ W m' ρ', ct := fun ρ' => ∃ m', m' < m ∧ W m' ρ', bk := (lD X.K B F D).nx }) ⟨?_, fun _ q => q, fun _ q => q, ?_⟩ h⟩
      · rintro ρ' ⟨m', l, w'⟩ O' σ' H' R'
        exact ⟨m', l, O', ρ', R', w'⟩
      · rintro ρ' ⟨m', l, w'⟩ O' σ' H' R'
        exact ⟨m', l, O', ρ', R', w'⟩
    | false => exact h O σ H1 (R.same s1)

def ItD (K : PySem.W.Frag) (M : Hp) (J : It) (items : List Dt) : Prop := ∀ H, Same M H →
  (∀ (k : Nat) d, items[k]? = some d → J.go k H ∧ ∀ x H', J.yld k H x H' → H' = H ∧ Rp K M d x) ∧ J.stop items.length H
abbrev DTI := DEnv → (List Dt → Prop) → Prop
def lI (K : PySem.W.Frag) (ti : DTI) : TI := fun σ H R => ∃ B F O ρ, Rep K B F O H σ ρ ∧ ti ρ fun items => ∀ J H', Same H H' → ItD K (mask (F ++ O) H') J items → R J H'
structure DI (X : Cx) (tg iter : Expr) (ti : DTI) : Prop where
  mono : ∀ {ρ Q Q'}, (∀ d, Q d → Q' d) → ti ρ Q → ti ρ Q'
  pi : PI X tg iter (lI X.K ti)
theorem PI.imp {tg e : Expr} {t t' : TI} (h : PI X tg e t) (i : ∀ σ H Q, t' σ H Q → t σ H Q) : PI X tg e t' := fun pins s σ H R I q => h pins s σ H R I (i _ _ _ q)
def dFor (ti : DTI) (g : DTG) (tb : DTS) : DTS := fun D ρ => ti ρ fun items => ∃ W : Nat → DEnv → Prop, W 0 ρ ∧
  (∀ (k : Nat) d ρ', items[k]? = some d → W k ρ' → g d ρ' fun ρ2 => tb { D with nx := W (k + 1), ct := W (k + 1), bk := D.nx } ρ2) ∧ ∀ ρ', W items.length ρ' → D.nx ρ'
theorem Rep.rebase {K : PySem.W.Frag} {B : Hp} {F O : List Addr} {H : Hp} {σ : St} {ρ : DEnv} (r : Rep K B F O H σ ρ) : Rep K (mask O H) F O H σ ρ :=
  ⟨r.len, mask_le, fun _ h => mask_in h, r.th, r.is, r.own, r.inj⟩
theorem Rep.unbase {K : PySem.W.Frag} {B B' : Hp} {F O O' : List Addr} {H H' : Hp} {σ σ' : St} {ρ ρ' : DEnv} (r : Rep K B F O H σ ρ) (r' : Rep K (mask O H) F O' H' σ' ρ') : Rep K B F O' H' σ' ρ' := by
  have s : Same B (mask O H) := fun a o e => by
    rw [mask_out]
    · exact r.base a o e
    · intro z; rw [r.fr a z] at e; cases e
  refine ⟨r'.len, s.trans r'.base, fun a h => ?_, r'.th, r'.is, r'.own, r'.inj⟩
  cases q : B a with
  | none => rfl
  | some o => have := s a o q; rw [r'.fr a h] at this; cases this
theorem Rep.sub {K : PySem.W.Frag} {B : Hp} {F O : List Addr} {H : Hp} {σ : St} {ρ : DEnv} (r : Rep K B F O H σ ρ) : Same B (mask O H) := fun a o e => by
  rw [mask_out]
  · exact r.base a o e
  · intro z; rw [r.fr a z] at e; cases e
theorem mask_mask {F O : List Addr} {H : Hp} : mask F (mask O H) = mask (F ++ O) H := by
  funext a
  by_cases h1 : a ∈ F
  · rw [mask_in h1, mask_in (List.mem_append_left _ h1)]
  · rw [mask_out h1]
    by_cases h2 : a ∈ O
    · rw [mask_in h2, mask_in (List.mem_append_right _ h2)]
    · rw [mask_out h2, mask_out fun z => (List.mem_append.mp z).elim h1 h2]
theorem ds_for {tg iter : Expr} {body : List Stmt} {ti : DTI} {g : DTG} (hp : PassesOwn (model X.prog X.w) X.A X.env X.xe) (hc : X.calm = true) (hi : DI X tg iter ti) (hg : DG X tg g) (hb : DSs X body t)
    (hs : ∀ x, foldedSetIterable iter X.env x = pure x := by intro _; rfl) : DS X (.For tg iter body [] pos) (dFor ti g t) where
  mono := fun {ρ D D'} hd h => hi.mono (fun items ⟨W, h0, h, he⟩ => ⟨W, h0, fun k d ρ' e w => hg.mono (fun ρ2 q => hb.mono (D := { D with nx := W (k + 1), ct := W (k + 1), bk := D.nx }) ⟨fun _ q => q, hd.rt, hd.nx, fun _ q => q⟩ q) (h k d ρ' e w), fun ρ' w => hd.nx _ (he ρ' w)⟩) h
  ps := (ps_for hp hc hi.pi hg.pg hb.ps hs).imp fun D σ H ⟨B, F, O, ρ, R, h⟩ => by
    refine ⟨B, F, O, ρ, R, hi.mono (fun items z J H1 s1 it => ?_) h⟩
    obtain ⟨W, h0, h, he⟩ := z
    have R1 := R.same s1
    refine ⟨fun i m σ H => m + i = items.length ∧ ∃ O' ρ', Rep X.K (mask O H1) F O' H σ ρ' ∧ W i ρ', ⟨items.length, by omega, O, ρ, R1.rebase, h0⟩, ?_⟩
    rintro i m σ2 H2 ⟨hm, O', ρ', R2, w⟩
    have sb : Same (mask (F ++ O) H1) H2 := fun a o e => R2.base a o (by
      obtain ⟨q, e⟩ := mask_some e
      rw [mask_out fun z => q (List.mem_append_right _ z)]; exact e)
    obtain ⟨go, stop⟩ := it H2 sb
    by_cases hlt : i < items.length
    · refine .inr ⟨(go i items[i] (by simp [hlt])).1, fun σ' H' => ∃ O' ρ', Rep X.K (mask O H1) F O' H' σ' ρ' ∧ W (i + 1) ρ', fun σ' H' q => ⟨m - 1, by omega, by omega, q⟩, fun x H3 y => ?_⟩
      obtain ⟨e, r⟩ := (go i items[i] (by simp [hlt])).2 x H3 y
      subst e
      have r' : Rp X.K (mask (F ++ O') H3) items[i] x := r.mono (by rw [← mask_mask]; exact R2.below)
      refine ⟨_, F, O', ρ', _, R2, r', hg.mono (fun ρ2 q σ3 R3 => ⟨_, F, O', ρ2, R3, hb.mono (D := { lD X.K B F D with nx := W (i + 1), ct := W (i + 1), bk := (lD X.K B F D).nx }) ⟨?_, ?_, ?_, ?_⟩ q⟩) (h i _ ρ' (by simp [hlt]) w)⟩
      · exact fun ρ4 w4 O4 σ4 H4 R4 => ⟨O4, ρ4, R4, w4⟩
      · exact fun d q v H4 s4 r4 => q v H4 (R1.sub.trans s4) r4
      · exact fun ρ4 q O4 σ4 H4 R4 => q O4 σ4 H4 (R1.unbase (B' := B) R4)
      · exact fun ρ4 w4 O4 σ4 H4 R4 => ⟨O4, ρ4, R4, w4⟩
    · have e : i = items.length := by omega
      subst e
      exact .inl ⟨stop, he ρ' w O' σ2 H2 (R1.unbase (B' := B) R2)⟩
def diSeq (te : DTE) : DTI := fun ρ Q => te ρ fun d => match d with
  | .lst ds => Q ds
  | _ => False
def diTup (te : DTE) : DTI := fun ρ Q => te ρ fun d => match d with
  | .tup ds => Q ds
  | _ => False
theorem di_lst {tg : Expr} (h : DE X e te) : DI X tg e (diSeq te) where
  mono := fun hq z => h.mono (fun d z => by
    split at z
    · exact hq _ z
    · exact z.elim) z
  pi := (pi_list h.pe).imp fun σ H Q ⟨B, F, O, ρ, R, z⟩ => ⟨B, F, O, ρ, R, h.mono (fun d z v H1 s1 r1 => by
    split at z
    · obtain ⟨a, xs, rfl, hs, hl⟩ := rp_lstE r1
      refine ⟨a, rfl, ⟨xs, mask_le.seq hs⟩, z _ H1 s1 fun H2 s2 => ⟨fun k d e => ?_, xs, s2.seq hs, by rw [hl.len]; exact Nat.le_refl _⟩⟩
      obtain ⟨x, e1, e2⟩ := hl.get e
      refine ⟨⟨xs, x, s2.seq hs, e1⟩, fun y H3 ⟨e3, e4⟩ => ⟨e3, ?_⟩⟩
      have e5 := e4 xs (s2.seq hs)
      rw [e1] at e5; cases e5; exact e2
    · exact z.elim) z⟩
theorem di_tup {tg : Expr} (h : DE X e te) : DI X tg e (diTup te) where
  mono := fun hq z => h.mono (fun d z => by
    split at z
    · exact hq _ z
    · exact z.elim) z
  pi := (pi_tup h.pe).imp fun σ H Q ⟨B, F, O, ρ, R, z⟩ => ⟨B, F, O, ρ, R, h.mono (fun d z v H1 s1 r1 => by
    split at z
    · obtain ⟨a, xs, rfl, hs, hl⟩ := rp_tup.mp r1
      refine ⟨a, rfl, ⟨xs, mask_le.seqT hs⟩, z _ H1 s1 fun H2 s2 => ⟨fun k d e => ?_, xs, s2.seqT hs, by rw [hl.len]; exact Nat.le_refl _⟩⟩
      obtain ⟨x, e1, e2⟩ := hl.get e
      refine ⟨⟨xs, x, s2.seqT hs, e1⟩, fun y H3 ⟨e3, e4⟩ => ⟨e3, ?_⟩⟩
      have e5 := e4 xs (s2.seqT hs)
      rw [e1] at e5; cases e5; exact e2
    · exact z.elim) z⟩
def ups (lo : Int) (n : Nat) : List Dt := (List.range n).map fun i => .int (lo + (i : Nat))
theorem ups_len {lo : Int} {n : Nat} : (ups lo n).length = n := by simp [ups]
theorem ups_get {lo : Int} {n k : Nat} {d : Dt} (h : (ups lo n)[k]? = some d) : k < n ∧ d = .int (lo + (k : Nat)) := by
  unfold ups at h
  rw [List.getElem?_map] at h
  by_cases hk : k < n
  · rw [List.getElem?_range hk] at h
    exact ⟨hk, (Option.some.inj h).symm⟩
  · rw [List.getElem?_eq_none (by simpa using hk)] at h; cases h
theorem itd_range {K : PySem.W.Frag} {M : Hp} {lo : Int} {n : Nat} : ItD K M (Itr lo n) (ups lo n) := fun H _ => by
  refine ⟨fun k d e => ?_, ?_⟩
  · obtain ⟨hk, rfl⟩ := ups_get e
    exact ⟨hk, fun x H' y => ⟨y.1, rp_int.mpr y.2⟩⟩
  · rw [ups_len]; exact Nat.le_refl n
def diRng1 (tl : DTA) : DTI := fun ρ Q => tl ρ fun ds => match ds with
  | [.int j] => (-(2 ^ 62) ≤ j ∧ j < 2 ^ 62) ∧ Q (ups 0 j.toNat)
  | _ => False
def diRng2 (tl : DTA) : DTI := fun ρ Q => tl ρ fun ds => match ds with
  | [.int i, .int j] => (-(2 ^ 62) ≤ i ∧ i < 2 ^ 62 ∧ -(2 ^ 62) ≤ j ∧ j < 2 ^ 62) ∧ Q (ups i (j - i).toNat)
  | _ => False
theorem di_rng1 {tg : Expr} {p : Pos} (hg : Gl X "range") (hm : X.mg "range" = none) (ha : DA X [a] tl) (hs : starEach [a] X.env = [(false, eval a X.env)] := by rfl) : DI X tg (.Call (.Name "range" p) [a] [] pos) (diRng1 tl) where
  mono := fun hq z => ha.mono (fun d z => by
    split at z
    · exact ⟨z.1, hq _ z.2⟩
    · exact z.elim) z
  pi := (pi_range1 hg hm ha.pa hs).imp fun σ H Q ⟨B, F, O, ρ, R, z⟩ => ⟨B, F, O, ρ, R, ha.mono (fun d z vs H1 s1 r1 => by
    split at z
    · obtain ⟨v, r, rfl, r2, r3⟩ := rpl_cons.mp r1
      rw [rpl_nil.mp r3, rp_int.mp r2]
      exact ⟨_, rfl, z.1.1, z.1.2, z.2 _ H1 s1 itd_range⟩
    · exact z.elim) z⟩
theorem di_rng2 {tg : Expr} {p : Pos} (hg : Gl X "range") (hm : X.mg "range" = none) (ha : DA X [a, b] tl) (hs : starEach [a, b] X.env = [(false, eval a X.env), (false, eval b X.env)] := by rfl) (hs2 : starEach [b] X.env = [(false, eval b X.env)] := by rfl) :
    DI X tg (.Call (.Name "range" p) [a, b] [] pos) (diRng2 tl) where
  mono := fun hq z => ha.mono (fun d z => by
    split at z
    · exact ⟨z.1, hq _ z.2⟩
    · exact z.elim) z
  pi := (pi_range2 hg hm ha.pa hs hs2).imp fun σ H Q ⟨B, F, O, ρ, R, z⟩ => ⟨B, F, O, ρ, R, ha.mono (fun d z vs H1 s1 r1 => by
    split at z
    · obtain ⟨v, r, rfl, r2, r3⟩ := rpl_cons.mp r1
      obtain ⟨v', r', rfl, r4, r5⟩ := rpl_cons.mp r3
      rw [rpl_nil.mp r5, rp_int.mp r2, rp_int.mp r4]
      exact ⟨_, _, rfl, z.1, z.2 _ H1 s1 itd_range⟩
    · exact z.elim) z⟩
end

def dstart (N : List Str) (ds : List Dt) : DEnv := ds.map (fun d => some (.is d)) ++ List.replicate (N.length - ds.length) none
theorem rep_start {K : PySem.W.Frag} {F : List Addr} {H : Hp} {N : List Str} {ds : List Dt} {vs : List V} (hF : ∀ a ∈ F, H a ≠ none) (r : RpL K (mask F H) ds vs) : Rep K H F [] H (start N vs) (dstart N ds) := by
  have hl := r.len
  have noown : ∀ (i : Nat) es, (dstart N ds)[i]? = some (some (.own es)) → False := fun i es e => by
    unfold dstart at e
    by_cases hi : i < ds.length
    · rw [List.getElem?_append_left (by simpa using hi), List.getElem?_map] at e
      cases q : ds[i]? with
      | none => rw [q] at e; cases e
      | some d => rw [q] at e; cases e
    · rw [List.getElem?_append_right (by simpa using hi), List.getElem?_replicate] at e
      split at e <;> cases e
  refine ⟨?_, Same.refl H, fun a h => (nomatch h), fun a h => hF a (by simpa using h), fun i d e => ?_, fun i es e => (noown i es e).elim, fun i j es es' a h1 => (noown i es h1).elim⟩
  · unfold start dstart; simp [hl]
  · unfold dstart at e
    by_cases hi : i < ds.length
    · rw [List.getElem?_append_left (by simpa using hi), List.getElem?_map] at e
      cases q : ds[i]? with
      | none => rw [q] at e; cases e
      | some d' =>
        rw [q] at e; cases e
        obtain ⟨v, e1, e2⟩ := r.get q
        refine ⟨v, ?_, by rw [List.append_nil]; exact e2⟩
        unfold start
        rw [List.getElem?_append_left (by simp; omega), List.getElem?_map, e1]; rfl
    · rw [List.getElem?_append_right (by simpa using hi), List.getElem?_replicate] at e
      split at e <;> cases e
section
variable {P : Program} {w : World} {K : PySem.W.Frag} {mg : Str → Option Value} {base : Heap}
theorem Fun.okD {x qual : Str} {st : Stmt} {f : Addr} {fd : FuncData} {N ps : List Str} {k : Nat} {sp : DSp} (F : Fun K x qual st f fd) (S : FnScope N ps (defScope st)) (len : ∀ ds Q, sp ds Q → ds.length = ps.length)
    (hbody : ∀ (cdv : Value) (A : Around) (outer : List Env) (s : Shared) (H : Hp) (E : XK), Room k (A.deeper (envOfC qual (defScope st) s.heap.objs.size f cdv)) →
      ∃ t, DSs (cxOf CX0 P w K mg base N qual (defScope st) f cdv A outer s H E).nox (defBody st) t ∧ ∀ ds Q, sp ds Q → t { nx := fun _ => Q .non, rt := Q } (dstart N ds)) : FnOk P w K mg base CX0 (k + 1) f fd ps (lSp K sp) := by
  refine F.ok S (fun vs H Q E ⟨F, ds, _, r, h⟩ => by rw [r.len]; exact len _ _ h) fun cdv A outer s H vs Q E hr ⟨F', ds, hF, r, h⟩ => ?_
  obtain ⟨t, T, q⟩ := hbody cdv A outer s H E hr
  refine ⟨_, T.ps, H, F', [], dstart N ds, rep_start hF r, T.mono (D := { nx := fun _ => ∀ v H', Same H H' → Rp K (mask F' H') .non v → Q v H', rt := fun d => ∀ v H', Same H H' → Rp K (mask F' H') d v → Q v H' }) ⟨?_, ?_, fun _ z => False.elim z, fun _ z => False.elim z⟩ (q ds _ h)⟩
  · exact fun ρ z O' σ' H' R' => z .non H' R'.base (rp_non.mpr rfl)
  · exact fun d z v H' s' r' => z v H' s' r'
end
end L2

namespace L2
open PySem PySem.Spec PyProof.Rows PySem.SeqAt

structure FnT (K : PySem.W.Frag) (mg : Str → Option Value) (x : Str) (st : Stmt) (ps : List Str) (f : Addr) (fd : FuncData) : Prop where
  fn : Fun K x x st f fd
  mg : mg x = some (.ref f)
  bd : Binds K fd ps []
def Pm (P : Program) (w : World) (K : PySem.W.Frag) (mg : Str → Option Value) (base : Heap) (k : Nat) (x : Str) (st : Stmt) (ps : List Str) (sp : DSp) : Prop :=
  ∃ f fd, FnT K mg x st ps f fd ∧ FnOk P w K mg base CX0 k f fd ps (lSp K sp)
theorem Fun.uniq {K : PySem.W.Frag} {x q : Str} {st : Stmt} {f : Addr} {fd fd' : FuncData} (a : Fun K x q st f fd) (b : Fun K x q st f fd') : fd = fd' := by
  obtain ⟨oc, od, kV, doc, pm, an, cdv, ct, osl, _, h1, _⟩ := a.ex
  obtain ⟨oc', od', kV', doc', pm', an', cdv', ct', osl', _, h2, _⟩ := b.ex
  rw [h1] at h2
  injection h2 with h2
  injection h2 with _ _ h2 _
  injection h2
def spec {τ : Type} (args : τ → List Dt) (pre : τ → Prop) (post : τ → Dt → Prop) : DSp := fun ds Q => ∃ p, ds = args p ∧ pre p ∧ ∀ d, post p d → Q d
theorem spec_mono {τ : Type} {args : τ → List Dt} {pre : τ → Prop} {post : τ → Dt → Prop} : MonoSp (spec args pre post) := fun _ _ _ hq ⟨p, e, h, q⟩ => ⟨p, e, h, fun d z => hq _ (q d z)⟩
abbrev specF {τ : Type} (args : τ → List Dt) (pre : τ → Prop) (val : τ → Dt) : DSp := spec args pre fun p d => d = val p
abbrev T2 (a b : Int) : Dt := .tup [.int a, .int b]
abbrev T3 (a b c : Int) : Dt := .tup [.int a, .int b, .int c]
abbrev T4 (a b c d : Int) : Dt := .tup [.int a, .int b, .int c, .int d]
def spLaw : DSp := spec (fun ns : List Int => [.lst (ns.map Dt.int)]) (fun ns => ns.length ≤ 63) fun _ d => d = .bl true
theorem mask_nil {H : Hp} : mask [] H = H := by funext a; exact mask_out (by simp)
section
variable {X : Cx} {a b c e : Expr} {es : List Expr} {ta tb tc te : DTE} {tA tB : DTT} {tl : DTA} {pos : Pos}
theorem de_callP {k : Nat} {ps : List Str} {sp : DSp} {x : Str} {stx : Stmt} {p : Pos} (m : MonoSp sp) (G : Pm X.prog X.w X.K X.mg X.base k x stx ps sp) (hr : Room k X.A) (hg : Gl X x)
    (ha : DA X (e :: es) tl) (hdb : (x == ("__debug__" : Str)) = false := by decide)
    (he : starEach (e :: es) X.env = (false, eval e X.env) :: starEach es X.env := by rfl) (hpl : (backTo pos (starEach es X.env)).any (·.1) = false := by rfl) : DE X (.Call (.Name x p) (e :: es) [] pos) (dCall sp tl) := by
  obtain ⟨f, fd, F, G⟩ := G
  exact de_call (CX := CX0) m G hr hg F.mg F.fn.kp F.bd ha hdb he hpl

theorem ds_set (i : Nat) {x : Str} {pos' : Pos} (hN : X.N.Nodup) (he : DE X e te) (hi : X.N[i]? = some x := by rfl) (hx : Loc X.env.scope x := by first | exact Or.inl rfl | exact Or.inr rfl) (hs : swapsWith e (some (.Name x pos')) pos.line X.env = pure false := by rfl)
    (hf : X.fn x = true ∨ X.env.scope.names.lookup x = some .local := by first | exact .inl rfl | exact .inr rfl | assumption) : DS X (.Assign [.Name x pos'] e pos) (dAsg te (dgName i)) where
  mono := fun hd h => he.mono (fun _ h => hd.nx _ h) h
  ps := (ps_set hN hi hx he.pe hs hf).imp fun D σ H ⟨B, F, O, ρ, R, h⟩ => ⟨B, F, O, ρ, R, he.mono (fun d q v H1 s1 r1 => q O _ H1 ((R.same s1).set i r1)) h⟩
def dPar2 (i j : Nat) (tl : DTA) : DTS := fun D ρ => tl ρ fun ds => match ds with
  | [d, e] => D.nx ((ρ.set i (some (.is d))).set j (some (.is e)))
  | _ => False
mutual
def Dt.py : Dt → PyData
  | .non => .none
  | .bl b => .bool b
  | .int i => .int i
  | .str x => .str x
  | .tup ds => .tuple (Dt.pys ds)
  | .lst ds => .list (Dt.pys ds)
  | .fn _ => .dict []
  | .exc _ _ _ => .dict []
  | .obj _ _ _ => .dict []
def Dt.pys : List Dt → List PyData
  | [] => []
  | d :: ds => d.py :: Dt.pys ds
end
mutual
theorem reads_of {X : Cx} {pins : List (Addr × Obj)} {σ : St} {H : Hp} {s : Shared} (I : Inv X pins σ H s) : ∀ {d : Dt} {v : V} {u : Value}, d.py.canLay0 = true → Rp X.K H d v → RelV v u → ∃ as, Reads s.heap u d.py as
  | .non, v, u, _, h, r => by rw [rp_non.mp h] at r; cases (show u = .none from r); exact ⟨_, by rw [Dt.py]; exact .none⟩
  | .bl b, v, u, _, h, r => by rw [rp_bl.mp h] at r; cases (show u = .bool b from r); exact ⟨_, by rw [Dt.py]; exact .bool b⟩
  | .int i, v, u, _, h, r => by rw [rp_int.mp h] at r; obtain ⟨t, rfl⟩ := r; exact ⟨_, by rw [Dt.py]; exact .int i t⟩
  | .str x, v, u, _, h, r => by rw [rp_str.mp h] at r; obtain ⟨t, rfl⟩ := r; exact ⟨_, by rw [Dt.py]; exact .str x t⟩
  | .fn a, v, u, c, h, r => by rw [Dt.py] at c; exact (nomatch c)
  | .exc _ _ _, v, u, c, h, r => by rw [Dt.py] at c; exact (nomatch c)
  | .obj _ _ _, v, u, c, h, r => by rw [Dt.py] at c; exact (nomatch c)
  | .tup ds, v, u, c, h, r => by
    obtain ⟨a, xs, rfl, hs, hl⟩ := rp_tup.mp h
    cases (show u = .ref a from r)
    obtain ⟨its, rv, ⟨o, h1, h2, n, h3⟩, _⟩ := I.tuple hs
    rw [Dt.py] at c
    obtain ⟨as, ra⟩ := readsL_of I (ds := ds) (by simpa [PyData.canLay0] using c) hl rv
    exact ⟨_, by rw [Dt.py]; exact .tuple h1 h2 h3 (by simpa using ra)⟩
  | .lst ds, v, u, c, h, r => by
    obtain ⟨a, xs, rfl, hs, hl⟩ := rp_lstE h
    cases (show u = .ref a from r)
    obtain ⟨its, rv, ⟨o, n, h1, h2, _, h3⟩, _⟩ := I.list hs
    rw [Dt.py] at c
    obtain ⟨as, ra⟩ := readsL_of I (ds := ds) (by simpa [PyData.canLay0] using c) hl rv
    exact ⟨_, by rw [Dt.py]; exact .list h1 h2 h3 (by simpa using ra)⟩
theorem readsL_of {X : Cx} {pins : List (Addr × Obj)} {σ : St} {H : Hp} {s : Shared} (I : Inv X pins σ H s) : ∀ {ds : List Dt} {vs : List V} {us : List Value}, PyData.canLayAll0 (Dt.pys ds) = true → RpL X.K H ds vs → Vals vs us → ∃ as, ReadsAll s.heap us (Dt.pys ds) as
  | [], vs, us, _, h, r => by rw [rpl_nil.mp h] at r; cases r; exact ⟨_, by rw [Dt.pys]; exact .nil⟩
  | d :: ds, vs, us, c, h, r => by
    obtain ⟨v, vr, rfl, h1, h2⟩ := rpl_cons.mp h
    rw [Dt.pys] at c
    have c' : d.py.canLay0 = true ∧ PyData.canLayAll0 (Dt.pys ds) = true := by simpa [PyData.canLayAll0] using c
    cases r with
    | cons r1 r2 =>
      obtain ⟨as, ra⟩ := reads_of I c'.1 h1 r1
      obtain ⟨bs, rb⟩ := readsL_of I c'.2 h2 r2
      exact ⟨_, by rw [Dt.pys]; exact .cons ra rb⟩
end
mutual
def Dt.eq : Dt → Dt → Bool
  | .non, .non => true
  | .bl a, .bl b => a == b
  | .bl a, .int j => (if a then 1 else 0) == j
  | .int i, .bl b => i == (if b then 1 else 0)
  | .int i, .int j => decide (i = j)
  | .str x, .str y => x == y
  | .tup xs, .tup ys => Dt.eqs xs ys
  | .lst xs, .lst ys => Dt.eqs xs ys
  | _, _ => false
def Dt.eqs : List Dt → List Dt → Bool
  | [], [] => true
  | x :: xs, y :: ys => Dt.eq x y && Dt.eqs xs ys
  | _, _ => false
end
mutual
def Dt.flat : Nat → Dt → Bool
  | _, .fn _ => false
  | _, .exc _ _ _ => false
  | _, .obj _ _ _ => false
  | _, .str x => (PyData.str x).canLay0
  | 0, .tup _ => false
  | 0, .lst _ => false
  | n + 1, .tup ds => Dt.flats n ds
  | n + 1, .lst ds => Dt.flats n ds
  | _, _ => true
def Dt.flats : Nat → List Dt → Bool
  | _, [] => true
  | n, d :: ds => Dt.flat n d && Dt.flats n ds
end
mutual
theorem flat_lay : ∀ (d : Dt) (n : Nat), d.flat n = true → d.py.canLay0 = true ∧ d.py.depth ≤ n
  | .non, n, h => by rw [Dt.py]; exact ⟨rfl, Nat.zero_le _⟩
  | .bl _, n, h => by rw [Dt.py]; exact ⟨rfl, Nat.zero_le _⟩
  | .int _, n, h => by rw [Dt.py]; exact ⟨rfl, Nat.zero_le _⟩
  | .str _, n, h => by rw [Dt.py]; exact ⟨by simpa [Dt.flat] using h, Nat.zero_le _⟩
  | .fn _, n, h => by simp [Dt.flat] at h
  | .exc _ _ _, n, h => by simp [Dt.flat] at h
  | .obj _ _ _, n, h => by simp [Dt.flat] at h
  | .tup ds, 0, h => by simp [Dt.flat] at h
  | .lst ds, 0, h => by simp [Dt.flat] at h
  | .tup ds, n + 1, h => by
    have := flats_lay ds n (by simpa [Dt.flat] using h)
    rw [Dt.py]
    exact ⟨by simpa [PyData.canLay0] using this.1, by simpa [PyData.depth] using this.2⟩
  | .lst ds, n + 1, h => by
    have := flats_lay ds n (by simpa [Dt.flat] using h)
    rw [Dt.py]
    exact ⟨by simpa [PyData.canLay0] using this.1, by simpa [PyData.depth] using this.2⟩
theorem flats_lay : ∀ (ds : List Dt) (n : Nat), Dt.flats n ds = true → PyData.canLayAll0 (Dt.pys ds) = true ∧ PyData.depthAll (Dt.pys ds) ≤ n
  | [], n, h => by rw [Dt.pys]; exact ⟨rfl, Nat.zero_le _⟩
  | d :: ds, n, h => by
    have h' : d.flat n = true ∧ Dt.flats n ds = true := by simpa [Dt.flats] using h
    have h1 := flat_lay d n h'.1
    have h2 := flats_lay ds n h'.2
    rw [Dt.pys]
    exact ⟨by simp [PyData.canLayAll0, h1.1, h2.1], by simp only [PyData.depthAll]; omega⟩
end
mutual
theorem eq_eqv : ∀ (a b : Dt), a.py.canLay0 = true → b.py.canLay0 = true → PyData.eqv a.py b.py = a.eq b
  | .fn _, b, h, _ => by rw [Dt.py] at h; exact (nomatch h)
  | .exc _ _ _, b, h, _ => by rw [Dt.py] at h; exact (nomatch h)
  | .obj _ _ _, b, h, _ => by rw [Dt.py] at h; exact (nomatch h)
  | a, .fn _, _, h => by rw [Dt.py] at h; exact (nomatch h)
  | a, .exc _ _ _, _, h => by rw [Dt.py] at h; exact (nomatch h)
  | a, .obj _ _ _, _, h => by rw [Dt.py] at h; exact (nomatch h)
  | .non, .non, _, _ => by simp [Dt.py, Dt.eq, PyData.eqv]
  | .non, .bl _, _, _ => by simp [Dt.py, Dt.eq, PyData.eqv]
  | .non, .int _, _, _ => by simp [Dt.py, Dt.eq, PyData.eqv]
  | .non, .str _, _, _ => by simp [Dt.py, Dt.eq, PyData.eqv]
  | .non, .tup _, _, _ => by simp [Dt.py, Dt.eq, PyData.eqv]
  | .non, .lst _, _, _ => by simp [Dt.py, Dt.eq, PyData.eqv]
  | .bl _, .non, _, _ => by simp [Dt.py, Dt.eq, PyData.eqv]
  | .bl _, .bl _, _, _ => by simp [Dt.py, Dt.eq, PyData.eqv]
  | .bl _, .int _, _, _ => by simp [Dt.py, Dt.eq, PyData.eqv]
  | .bl _, .str _, _, _ => by simp [Dt.py, Dt.eq, PyData.eqv]
  | .bl _, .tup _, _, _ => by simp [Dt.py, Dt.eq, PyData.eqv]
  | .bl _, .lst _, _, _ => by simp [Dt.py, Dt.eq, PyData.eqv]
  | .int _, .non, _, _ => by simp [Dt.py, Dt.eq, PyData.eqv]
  | .int _, .bl _, _, _ => by simp [Dt.py, Dt.eq, PyData.eqv]
  | .int i, .int j, _, _ => by
    simp only [Dt.py, Dt.eq, PyData.eqv]
    exact Bool.beq_eq_decide_eq i j
  | .int _, .str _, _, _ => by simp [Dt.py, Dt.eq, PyData.eqv]
  | .int _, .tup _, _, _ => by simp [Dt.py, Dt.eq, PyData.eqv]
  | .int _, .lst _, _, _ => by simp [Dt.py, Dt.eq, PyData.eqv]
  | .str _, .non, _, _ => by simp [Dt.py, Dt.eq, PyData.eqv]
  | .str _, .bl _, _, _ => by simp [Dt.py, Dt.eq, PyData.eqv]
  | .str _, .int _, _, _ => by simp [Dt.py, Dt.eq, PyData.eqv]
  | .str _, .str _, _, _ => by simp [Dt.py, Dt.eq, PyData.eqv]
  | .str _, .tup _, _, _ => by simp [Dt.py, Dt.eq, PyData.eqv]
  | .str _, .lst _, _, _ => by simp [Dt.py, Dt.eq, PyData.eqv]
  | .tup _, .non, _, _ => by simp [Dt.py, Dt.eq, PyData.eqv]
  | .tup _, .bl _, _, _ => by simp [Dt.py, Dt.eq, PyData.eqv]
  | .tup _, .int _, _, _ => by simp [Dt.py, Dt.eq, PyData.eqv]
  | .tup _, .str _, _, _ => by simp [Dt.py, Dt.eq, PyData.eqv]
  | .tup xs, .tup ys, h1, h2 => by
    rw [Dt.py] at h1 h2
    rw [Dt.py, Dt.py, Dt.eq, PyData.eqv]
    exact eqs_eqv xs ys (by simpa [PyData.canLay0] using h1) (by simpa [PyData.canLay0] using h2)
  | .tup _, .lst _, _, _ => by simp [Dt.py, Dt.eq, PyData.eqv]
  | .lst _, .non, _, _ => by simp [Dt.py, Dt.eq, PyData.eqv]
  | .lst _, .bl _, _, _ => by simp [Dt.py, Dt.eq, PyData.eqv]
  | .lst _, .int _, _, _ => by simp [Dt.py, Dt.eq, PyData.eqv]
  | .lst _, .str _, _, _ => by simp [Dt.py, Dt.eq, PyData.eqv]
  | .lst _, .tup _, _, _ => by simp [Dt.py, Dt.eq, PyData.eqv]
  | .lst xs, .lst ys, h1, h2 => by
    rw [Dt.py] at h1 h2
    rw [Dt.py, Dt.py, Dt.eq, PyData.eqv]
    exact eqs_eqv xs ys (by simpa [PyData.canLay0] using h1) (by simpa [PyData.canLay0] using h2)
theorem eqs_eqv : ∀ (xs ys : List Dt), PyData.canLayAll0 (Dt.pys xs) = true → PyData.canLayAll0 (Dt.pys ys) = true → PyData.eqvAll (Dt.pys xs) (Dt.pys ys) = Dt.eqs xs ys
  | [], [], _, _ => by simp [Dt.pys, Dt.eqs, PyData.eqvAll]
  | [], _ :: _, _, _ => by simp [Dt.pys, Dt.eqs, PyData.eqvAll]
  | _ :: _, [], _, _ => by simp [Dt.pys, Dt.eqs, PyData.eqvAll]
  | x :: xs, y :: ys, h1, h2 => by
    rw [Dt.pys] at h1 h2
    have h1' : x.py.canLay0 = true ∧ PyData.canLayAll0 (Dt.pys xs) = true := by simpa [PyData.canLayAll0] using h1
    have h2' : y.py.canLay0 = true ∧ PyData.canLayAll0 (Dt.pys ys) = true := by simpa [PyData.canLayAll0] using h2
    rw [Dt.pys, Dt.pys, Dt.eqs, PyData.eqvAll, eq_eqv x y h1'.1 h2'.1, eqs_eqv xs ys h1'.2 h2'.2]
end
def rEqD (K : PySem.W.Frag) (neg : Bool) : R2 := fun x y H Q => ∃ a b, Rp K H a x ∧ Rp K H b y ∧ a.flat 8 = true ∧ b.flat 8 = true ∧ Q (.bl (if neg then !a.eq b else a.eq b)) H
theorem op_eqD (hu : X.A.units + 64 < cLine) : OpR X (compareOp .Eq) (rEqD X.K false) := by
  intro pins s σ H x y v u Q I rx ry ⟨a, b, ra, rb, fa, fb, q⟩
  obtain ⟨ca, da⟩ := flat_lay a 8 fa
  obtain ⟨cb, db⟩ := flat_lay b 8 fb
  obtain ⟨as, r1⟩ := reads_of I ca ra rx
  obtain ⟨bs, r2⟩ := reads_of I cb rb ry
  refine rcAt_reads r1 r2 ca cb (by omega) _ _ _ _ ?_
  rw [eq_eqv a b ca cb]
  exact ⟨.bl _, H, I, rfl, q⟩
theorem op_neD (hu : X.A.units + 64 < cLine) : OpR X (compareOp .NotEq) (rEqD X.K true) := by
  intro pins s σ H x y v u Q I rx ry ⟨a, b, ra, rb, fa, fb, q⟩
  obtain ⟨ca, da⟩ := flat_lay a 8 fa
  obtain ⟨cb, db⟩ := flat_lay b 8 fb
  obtain ⟨as, r1⟩ := reads_of I ca ra rx
  obtain ⟨bs, r2⟩ := reads_of I cb rb ry
  refine compareNe_reads r1 r2 ca cb (by omega) ?_
  rw [eq_eqv a b ca cb]
  exact ⟨.bl _, H, I, rfl, q⟩
def dEq : D2 := fun a b Q => (a.flat 8 = true ∧ b.flat 8 = true) ∧ Q (.bl (a.eq b))
def dNe : D2 := fun a b Q => (a.flat 8 = true ∧ b.flat 8 = true) ∧ Q (.bl (!a.eq b))
theorem sem_eq {K : PySem.W.Frag} : Sem2 K (rEqD K false) dEq := ⟨fun hq h => ⟨h.1, hq _ h.2⟩, fun O H a b x y Q _ ra rb h => ⟨a, b, ra.mono mask_le, rb.mono mask_le, h.1.1, h.1.2, h.2 _ H (Same.refl H) (rp_bl.mpr rfl)⟩⟩
theorem sem_ne {K : PySem.W.Frag} : Sem2 K (rEqD K true) dNe := ⟨fun hq h => ⟨h.1, hq _ h.2⟩, fun O H a b x y Q _ ra rb h => ⟨a, b, ra.mono mask_le, rb.mono mask_le, h.1.1, h.1.2, h.2 _ H (Same.refl H) (rp_bl.mpr rfl)⟩⟩
theorem de_eq (hu : X.A.units + 64 < cLine) (ha : DE X a ta) (hb : DE X b tb) : DE X (.Compare a [.Eq] [b] pos) (dOp dEq ta tb) := de_cmp (op_eqD hu) sem_eq ha hb (nomark _)
theorem dt_eq (hu : X.A.units + 64 < cLine) (ha : DE X a ta) (hb : DE X b tb) : DT X (.Compare a [.Eq] [b] pos) (dTst (dOp dEq ta tb)) := dt_cmp (op_eqD hu) sem_eq ha hb (nomark _)
theorem dt_ne (hu : X.A.units + 64 < cLine) (ha : DE X a ta) (hb : DE X b tb) : DT X (.Compare a [.NotEq] [b] pos) (dTst (dOp dNe ta tb)) := dt_cmp (op_neD hu) sem_ne ha hb (nomark _)

def isB (k : Bool) : Dt → Bool
  | .bl b => b == k
  | _ => false
def isN : Dt → Bool
  | .non => true
  | _ => false
theorem op_isnO : OpR X (compareOp .IsNot) (fun x y H Q => ∃ k : Bool, y = .bl k ∧ Q (.bl (!decide (x = .bl k))) H) := by
  intro pins s σ H x y v u Q I rx ry ⟨k, e, q⟩
  subst e
  cases (show u = .bool k from ry)
  cases x with
  | non => cases (show v = .none from rx); exact wpAny_isNot_plain rfl (fin_bl I q (by simp))
  | bl b => cases (show v = .bool b from rx); exact wpAny_isNot_plain rfl (fin_bl I q (by cases b <;> cases k <;> rfl))
  | int i => obtain ⟨t, rfl⟩ := rx; exact wpAny_isNot_plain rfl (fin_bl I q (by simp))
  | str i => obtain ⟨t, rfl⟩ := rx; exact wpAny_isNot_plain rfl (fin_bl I q (by simp))
  | byt i => obtain ⟨t, rfl⟩ := rx; exact wpAny_isNot_plain rfl (fin_bl I q (by simp))
  | flt i => obtain ⟨t, rfl⟩ := rx; exact wpAny_isNot_plain rfl (fin_bl I q (by simp))
  | ref i => cases (show v = .ref i from rx); exact wpAny_isNot_plain rfl (fin_bl I q (by simp))
  | ty i => cases (show v = .type i from rx); exact wpAny_isNot_plain rfl (fin_bl I q (by simp))
theorem rp_isB {K : PySem.W.Frag} {H : Hp} {d : Dt} {v : V} {k : Bool} (r : Rp K H d v) : decide (v = .bl k) = isB k d := by
  cases d with
  | non => rw [rp_non.mp r]; simp [isB]
  | bl b => rw [rp_bl.mp r]; cases b <;> cases k <;> simp [isB]
  | int i => rw [rp_int.mp r]; simp [isB]
  | str i => rw [rp_str.mp r]; simp [isB]
  | fn a => rw [rp_fn.mp r]; simp [isB]
  | exc _ _ _ => obtain ⟨a, _, _, _, _, rfl, _⟩ := rp_exc.mp r; simp [isB]
  | obj _ _ _ => obtain ⟨a, _, _, _, rfl, _⟩ := rp_obj.mp r; simp [isB]
  | tup ds => obtain ⟨a, xs, rfl, _⟩ := rp_tup.mp r; simp [isB]
  | lst ds => obtain ⟨a, xs, rfl, _⟩ := rp_lstE r; simp [isB]
theorem rp_isN {K : PySem.W.Frag} {H : Hp} {d : Dt} {v : V} (r : Rp K H d v) : decide (v = .non) = isN d := by
  cases d with
  | non => rw [rp_non.mp r]; simp [isN]
  | bl b => rw [rp_bl.mp r]; simp [isN]
  | int i => rw [rp_int.mp r]; simp [isN]
  | str i => rw [rp_str.mp r]; simp [isN]
  | fn a => rw [rp_fn.mp r]; simp [isN]
  | exc _ _ _ => obtain ⟨a, _, _, _, _, rfl, _⟩ := rp_exc.mp r; simp [isN]
  | obj _ _ _ => obtain ⟨a, _, _, _, rfl, _⟩ := rp_obj.mp r; simp [isN]
  | tup ds => obtain ⟨a, xs, rfl, _⟩ := rp_tup.mp r; simp [isN]
  | lst ds => obtain ⟨a, xs, rfl, _⟩ := rp_lstE r; simp [isN]
def dIs (neg : Bool) : D2 := fun a b Q => match b with
  | .bl k => Q (.bl (if neg then !isB k a else isB k a))
  | .non => Q (.bl (if neg then !isN a else isN a))
  | _ => False
theorem dis_mono {neg : Bool} : ∀ {a b Q Q'}, (∀ d, Q d → Q' d) → dIs neg a b Q → dIs neg a b Q' := fun {a b Q Q'} hq h => by
  unfold dIs at h ⊢
  split at h
  · exact hq _ h
  · exact hq _ h
  · exact h.elim
theorem sem_isn {K : PySem.W.Frag} : Sem2 K (fun x y H Q => (∃ k : Bool, y = .bl k ∧ Q (.bl (!decide (x = .bl k))) H) ∨ (y = .non ∧ Q (.bl (!decide (x = .non))) H)) (dIs true) := ⟨dis_mono, fun O H a b x y Q _ ra rb h => by
  unfold dIs at h
  split at h
  · exact .inl ⟨_, rp_bl.mp rb, by rw [rp_isB ra]; exact h _ H (Same.refl H) (rp_bl.mpr rfl)⟩
  · exact .inr ⟨rp_non.mp rb, by rw [rp_isN ra]; exact h _ H (Same.refl H) (rp_bl.mpr rfl)⟩
  · exact h.elim⟩
theorem dt_isnC (ha : DE X a ta) (hb : DE X b tb) : DT X (.Compare a [.IsNot] [b] pos) (dTst (dOp (dIs true) ta tb)) := dt_cmp (op_isnO.or op_notN) sem_isn ha hb (nomark _)

def dChain (t t' : D2) (ta tb tc : DTE) : DTE := fun ρ Q => ta ρ fun a => tb ρ fun b => t a b fun z => match z with
  | .bl k => if k = true then tc ρ fun c => t' b c Q else Q (.bl false)
  | _ => False
abbrev DL := List Dt → (Dt → Prop) → Prop
structure SemL (K : PySem.W.Frag) (r : List V → Hp → VK → Prop) (t : DL) : Prop where
  mono : ∀ {ds Q Q'}, (∀ d, Q d → Q' d) → t ds Q → t ds Q'
  ok : ∀ (O : List Addr) (H : Hp) (ds : List Dt) (xs : List V) (Q : VK), (∀ p ∈ O, H p ≠ none) → RpL K (mask O H) ds xs →
    t ds (fun d => ∀ v H', Same H H' → Rp K (mask O H') d v → Q v H') → r xs H Q
def dCB (t : DL) (tl : DTA) : DTE := fun ρ Q => tl ρ fun ds => t ds Q
theorem cb_imp {K : PySem.W.Frag} {r : List V → Hp → VK → Prop} {t : DL} (S : SemL K r t) {tl : DTA} (m : ∀ {ρ Q Q'}, (∀ d, Q d → Q' d) → tl ρ Q → tl ρ Q') (σ : St) (H : Hp) (Q : VK) (h : lE K (dCB t tl) σ H Q) : tCB r (lA K tl) σ H Q := by
  obtain ⟨B, F, O, ρ, R, h⟩ := h
  exact ⟨B, F, O, ρ, R, m (fun ds h vs H1 s1 r1 => S.ok _ H1 ds vs Q (R.same s1).th r1 (S.mono (fun d q v H2 s2 r2 => q v H2 (s1.trans s2) r2) h)) h⟩
theorem de_cb {id : String} {x : Str} {p : Pos} {r : List V → Hp → VK → Prop} {t : DL} (hc : CallR X (.builtin id) r) (S : SemL X.K r t) (hg : Gl X x) (hm : X.mg x = none) (hv : bootBuiltins x = some (.builtin id)) (ha : DA X (e :: es) tl) (hn : x ≠ "__name__" := by decide)
    (hdb : (x == ("__debug__" : Str)) = false := by decide) (he : starEach (e :: es) X.env = (false, eval e X.env) :: starEach es X.env := by rfl) (hpl : (backTo pos (starEach es X.env)).any (·.1) = false := by rfl) : DE X (.Call (.Name x p) (e :: es) [] pos) (dCB t tl) where
  mono := fun hq h => ha.mono (fun _ h => S.mono hq h) h
  pe := (pe_callB hc hg hm hv ha.pa hn hdb he hpl).imp (cb_imp (tl := tl) S ha.mono)
def dLen : DL := fun ds Q => match ds with
  | [.lst xs] => Q (.int xs.length)
  | [.tup xs] => Q (.int xs.length)
  | _ => False
def dAbs : DL := fun ds Q => match ds with
  | [.int i] => Q (.int (if i < 0 then -i else i))
  | _ => False
def dMax : DL := fun ds Q => match ds with
  | [.int i, .int j] => Q (.int (if j > i then j else i))
  | _ => False
def dMin : DL := fun ds Q => match ds with
  | [.int i, .int j] => Q (.int (if j < i then j else i))
  | _ => False
def dInt1 : DL := fun ds Q => match ds with
  | [.int i] => Q (.int i)
  | [.bl k] => Q (.int (if k then 1 else 0))
  | _ => False
theorem sem_len {K : PySem.W.Frag} : SemL K (fun xs H Q => ∃ p ys, xs = [.ref p] ∧ (SqL K H p ys ∨ SqT K H p ys) ∧ Q (.int ys.length) H) dLen where
  mono := fun hq h => by
    unfold dLen at h ⊢
    split at h
    · exact hq _ h
    · exact hq _ h
    · exact h.elim
  ok := fun O H ds xs Q _ r h => by
    unfold dLen at h
    split at h
    · obtain ⟨v, r', rfl, r2, r3⟩ := rpl_cons.mp r
      obtain rfl := rpl_nil.mp r3
      obtain ⟨a, ys, rfl, hs, hl⟩ := rp_lstE r2
      exact ⟨a, ys, rfl, .inl (mask_le.seq hs), by rw [hl.len]; exact h _ H (Same.refl H) (rp_int.mpr rfl)⟩
    · obtain ⟨v, r', rfl, r2, r3⟩ := rpl_cons.mp r
      obtain rfl := rpl_nil.mp r3
      obtain ⟨a, ys, rfl, hs, hl⟩ := rp_tup.mp r2
      exact ⟨a, ys, rfl, .inr (mask_le.seqT hs), by rw [hl.len]; exact h _ H (Same.refl H) (rp_int.mpr rfl)⟩
    · exact h.elim
theorem de_len {p : Pos} (hm : X.mg "len" = none) (ha : DA X [a] tl) (hg : Gl X "len" := by rfl) (he : starEach [a] X.env = (false, eval a X.env) :: starEach [] X.env := by rfl) (hpl : (backTo pos (starEach [] X.env)).any (·.1) = false := by rfl) :
    DE X (.Call (.Name "len" p) [a] [] pos) (dCB dLen tl) := de_cb call_len_seq sem_len hg hm PySem.boot_len ha (he := he) (hpl := hpl)
def tyOf : Dt → String
  | .non => "NoneType"
  | .bl _ => "bool"
  | .int _ => "int"
  | .str _ => "str"
  | .tup _ => "tuple"
  | .lst _ => "list"
  | .fn _ => "function"
  | .exc _ _ _ => "exception"
  | .obj _ _ _ => "instance"
def noFn : Dt → Bool
  | .fn _ => false
  | .exc _ _ _ => false
  | .obj _ _ _ => false
  | _ => true
def isT (T : String) (d : Dt) : Bool := tyOf d == T || (T == "int" && tyOf d == "bool")
def IsiOk (T : String) : Prop := ∀ (K : PySem.W.Frag) (d : Dt), noFn d = true → PySem.W.kitOne K (.type (tyOf d)) (.type T) = some (isT T d)
theorem call_isi {T : String} (hT : IsiOk T) : CallR X (.builtin "isinstance") (fun xs H Q => ∃ d x, xs = [x, .ty T] ∧ Rp X.K H d x ∧ noFn d = true ∧ Q (.bl (isT T d)) H) := by
  intro pins s σ H xs us Q I r ⟨d, x, e, rp, nf, q⟩
  subst e
  obtain ⟨u, u2, rfl, r1, r2⟩ := vals2 r
  cases (show u2 = .type T from r2)
  have hk := hT X.K d nf
  have fin : ∀ tk, EP X pins σ Q (.bool (isT T d)) { s with toks := tk } := fun tk => ⟨.bl _, H, I.tok tk, rfl, q⟩
  cases d with
  | non => rw [rp_non.mp rp] at r1; cases (show u = Value.none from r1); exact PySem.W.kia_one PySem.W.kitx_none I.kIn True.intro hk (fun z => nomatch z) fin
  | bl y => rw [rp_bl.mp rp] at r1; cases (show u = Value.bool y from r1); exact PySem.W.kia_one PySem.W.kitx_bool I.kIn True.intro hk (fun z => nomatch z) fin
  | int i => rw [rp_int.mp rp] at r1; obtain ⟨t, q⟩ := (show ∃ t, u = Value.int i t from r1); cases q; exact PySem.W.kia_one PySem.W.kitx_int I.kIn True.intro hk (fun z => nomatch z) fin
  | str y => rw [rp_str.mp rp] at r1; obtain ⟨t, q⟩ := (show ∃ t, u = Value.str y t from r1); cases q; exact PySem.W.kia_one PySem.W.kitx_str I.kIn True.intro hk (fun z => nomatch z) fin
  | fn a => cases nf
  | exc _ _ _ => cases nf
  | obj _ _ _ => cases nf
  | tup ds =>
    obtain ⟨a, ys, rfl, hs, _⟩ := rp_tup.mp rp
    cases (show u = Value.ref a from r1)
    obtain ⟨_, _, ⟨o, h1, h2, _⟩, _⟩ := I.tuple hs
    exact PySem.W.kia_one PySem.W.kitx_tuple I.kIn ⟨o, h1, h2⟩ hk (fun z => nomatch z) fin
  | lst ds =>
    obtain ⟨a, ys, rfl, hs, _⟩ := rp_lstE rp
    cases (show u = Value.ref a from r1)
    obtain ⟨_, _, ⟨o, n, h1, h2, _⟩, _⟩ := I.list hs
    exact PySem.W.kia_one PySem.W.kitx_list I.kIn ⟨o, h1, h2⟩ hk (fun z => nomatch z) fin
def dIsi (T : String) (ta : DTE) : DTE := fun ρ Q => ta ρ fun d => noFn d = true ∧ Q (.bl (isT T d))
theorem de_isi {T : String} {Ts : Str} {p p2 : Pos} (hm : X.mg "isinstance" = none) (hmT : X.mg Ts = none) (hT : IsiOk T) (ha : DE X a ta) (hg : Gl X "isinstance" := by rfl) (hgT : Gl X Ts := by rfl) (hv : bootBuiltins "isinstance" = some (.builtin "isinstance") := by rfl)
    (hvT : bootBuiltins Ts = some (.type T) := by rfl) (hn : Ts ≠ "__name__" := by decide) (hd : (Ts == ("__debug__" : Str)) = false := by decide)
    (hs1 : starEach [a, .Name Ts p2] X.env = (false, eval a X.env) :: starEach [.Name Ts p2] X.env := by rfl) (hs2 : starEach [.Name Ts p2] X.env = (false, eval (.Name Ts p2) X.env) :: starEach [] X.env := by rfl)
    (hpl : (backTo pos (starEach [.Name Ts p2] X.env)).any (·.1) = false := by rfl) : DE X (.Call (.Name "isinstance" p) [a, .Name Ts p2] [] pos) (dIsi T ta) where
  mono := fun hq h => ha.mono (fun _ h => ⟨h.1, hq _ h.2⟩) h
  pe := (pe_callB (call_isi hT) hg hm hv (pa_cons ha.pe (pa_cons (pe_bltn (v := .ty T) hgT hmT hvT rfl hn hd) pa_nil hs2) hs1) (he := hs1) (hpl := hpl)).imp fun σ H Q ⟨B, F, O, ρ, R, h⟩ =>
    ⟨B, F, O, ρ, R, ha.mono (fun d h v H1 s1 r1 => ⟨d, v, rfl, r1.mono mask_le, h.1, h.2 _ H1 s1 (rp_bl.mpr rfl)⟩) h⟩

abbrev DTO := DEnv → (Option Int → Prop) → Prop
def lO (K : PySem.W.Frag) (t : DTO) : TO := fun σ H Q => ∃ B F O ρ, Rep K B F O H σ ρ ∧ t ρ fun o => ∀ H', Same H H' → Q o H'
structure DO (X : Cx) (e : Option Expr) (t : DTO) : Prop where
  mono : ∀ {ρ Q Q'}, (∀ d, Q d → Q' d) → t ρ Q → t ρ Q'
  po : PO X e (lO X.K t)
def dNoPart : DTO := fun _ Q => Q none
def dPart (te : DTE) : DTO := fun ρ Q => te ρ fun d => match d with
  | .int i => Q (some i)
  | _ => False
theorem PO.imp {e : Option Expr} {t t' : TO} (h : PO X e t) (i : ∀ σ H Q, t' σ H Q → t σ H Q) : PO X e t' := fun pins s σ H Q I q => h pins s σ H Q I (i _ _ _ q)
theorem dp_none : DO X none dNoPart := ⟨fun hq h => hq _ h, po_none.imp fun σ H Q ⟨B, F, O, ρ, R, h⟩ => h H (Same.refl H)⟩
theorem dp_some (h : DE X e te) : DO X (some e) (dPart te) where
  mono := fun hq z => h.mono (fun d z => by
    split at z
    · exact hq _ z
    · exact z.elim) z
  po := (po_some h.pe).imp fun σ H Q ⟨B, F, O, ρ, R, z⟩ => ⟨B, F, O, ρ, R, h.mono (fun d z v H1 s1 r1 => by
    split at z
    · exact ⟨_, rp_int.mp r1, z H1 s1⟩
    · exact z.elim) z⟩
def cutD (xs : List Dt) (lo hi : Option Int) : List Dt := (xs.drop (HT.sIx xs.length 0 lo)).take (HT.sIx xs.length xs.length hi - HT.sIx xs.length 0 lo)
theorem RpL.cut {K : PySem.W.Frag} {H : Hp} {ds : List Dt} {xs : List V} {lo hi : Option Int} (h : RpL K H ds xs) : RpL K H (cutD ds lo hi) (cutV xs lo hi) := by
  unfold cutD cutV
  rw [h.len]
  exact (h.drop _).take _
def dSlice (te : DTE) (tl th : DTO) : DTE := fun ρ Q => te ρ fun d => tl ρ fun lo => th ρ fun hi => match d with
  | .lst ds => Q (.lst (cutD ds lo hi))
  | _ => False
end
theorem isi_int : IsiOk "int" := fun K d h => by cases d <;> first | rfl | cases h
theorem isi_bool : IsiOk "bool" := fun K d h => by cases d <;> first | rfl | cases h
theorem isi_tuple : IsiOk "tuple" := fun K d h => by cases d <;> first | rfl | cases h
end L2

namespace L2
open PySem PySem.Spec PyProof.Rows PySem.SeqAt

theorem closure_go (env : Env) : ∀ (names : List (Str × NameKind)) (cs : List (Str × Addr)), (∀ y ∈ names, y.2 = .free → ∃ c, env.cells.lookup y.1 = some c) → (∀ n c, cs.lookup n = some c → env.cells.lookup n = some c) →
    ∃ cl, (forIn names cs fun (x : Str × NameKind) (r : List (Str × Addr)) => (if (x.2 == NameKind.free) = true then (do let c ← cellOf env x.1; pure (ForInStep.yield ((x.1, c) :: r))) else pure (ForInStep.yield r) : Sem (ForInStep (List (Str × Addr))))) = pure cl ∧
      (∀ n c, cl.lookup n = some c → env.cells.lookup n = some c) ∧ (∀ n, (cs.lookup n).isSome = true → (cl.lookup n).isSome = true) ∧ ∀ n, (n, NameKind.free) ∈ names → (cl.lookup n).isSome = true
  | [], cs, _, h2 => ⟨cs, rfl, h2, fun _ h => h, fun n h => (nomatch h)⟩
  | (x, k) :: names, cs, h1, h2 => by
    rw [List.forIn_cons]
    by_cases hk : k = .free
    · subst hk
      obtain ⟨c, hc⟩ := h1 (x, .free) List.mem_cons_self rfl
      have e : cellOf env x = pure c := by unfold cellOf; rw [hc]
      have h3 : ∀ n c', ((x, c) :: cs).lookup n = some c' → env.cells.lookup n = some c' := fun n c' q => by
        rw [List.lookup_cons] at q
        split at q
        · rename_i b; cases q; rw [eq_of_beq b]; exact hc
        · exact h2 n c' q
      obtain ⟨cl, g1, g2, g3, g4⟩ := closure_go env names ((x, c) :: cs) (fun y hy => h1 y (List.mem_cons_of_mem _ hy)) h3
      refine ⟨cl, ?_, g2, fun n q => g3 n ?_, fun n hn => ?_⟩
      · simp only [beq_self_eq_true, if_true, e, pure_bind]
        exact g1
      · rw [List.lookup_cons]; split
        · rfl
        · exact q
      · rcases List.mem_cons.mp hn with q | q
        · cases q
          exact g3 x (by rw [List.lookup_cons]; simp)
        · exact g4 n q
    · have hb : (k == NameKind.free) = false := by simpa using hk
      obtain ⟨cl, g1, g2, g3, g4⟩ := closure_go env names cs (fun y hy => h1 y (List.mem_cons_of_mem _ hy)) h2
      refine ⟨cl, ?_, g2, g3, fun n hn => ?_⟩
      · simp only [hb, Bool.false_eq_true, if_false, pure_bind]
        exact g1
      · rcases List.mem_cons.mp hn with q | q
        · cases q; exact absurd rfl hk
        · exact g4 n q
theorem closure_of {env : Env} {scope : Scope} (h : ∀ y ∈ scope.names, y.2 = .free → ∃ c, env.cells.lookup y.1 = some c) :
    ∃ cl, closureFor scope env = pure cl ∧ (∀ n c, cl.lookup n = some c → env.cells.lookup n = some c) ∧ ∀ n, (n, NameKind.free) ∈ scope.names → ∃ c, cl.lookup n = some c := by
  obtain ⟨cl, g1, g2, _, g4⟩ := closure_go env scope.names [] h (fun n c q => by simp at q)
  refine ⟨cl, ?_, g2, fun n q => Option.isSome_iff_exists.mp (g4 n q)⟩
  unfold closureFor
  simp only [bind_pure]
  exact g1

def compCx (X : Cx) (scope : Scope) (N : List Str) (cl : List (Str × Addr)) (C : Addr) (s₀ : Shared) (H₀ : Hp) (ex : List Addr) : Cx where
  prog := X.prog
  w := X.w
  K := X.K
  mg := X.mg
  base := X.base
  A := X.A
  N := N
  s₀ := s₀
  H₀ := H₀
  env := compEnvC scope cl C X.env
  outer := X.stack
  stack := X.stack
  ex := ex
  fn := fun _ => false
  calm := X.calm
  pn := []
  xe := fun _ _ => False

def PTs (X : Cx) (ifs : List Expr) (t : TT) : Prop :=
  ∀ (pins : List (Addr × Obj)) (s : Shared) (σ : St) (H : Hp) (Q : Bool → Hp → Prop), Inv X pins σ H s → t σ H Q →
    wpAny (model X.prog X.w) X.A (forIn ifs true fun c r => if r = true then do let ok ← isTrue c X.env (eval c X.env); pure (ForInStep.yield ok) else pure (ForInStep.yield r)) (TP X pins σ Q) X.xe s
theorem pts_one {X : Cx} {c : Expr} {t : TT} (h : PT X c t) : PTs X [c] t := fun pins s σ H Q I q => wpAny_tests_one (h pins s σ H Q I q)

def tComp (sl : List Nat) (wi : TI) (tt : TT) (te : TE) : TE := fun σ H Q => wi σ H fun J H1 => ∃ vs : List V, sl.map (fun j => σ[j]?) = vs.map (fun v => some (some v)) ∧ ∀ D, H1 D = none →
  ∃ W : Nat → Nat → List V → Hp → Prop, (∃ m, W 0 m [] (upd H1 D (.lst []))) ∧ ∀ i m acc H, W i m acc H →
    (J.stop i H ∧ Q (.ref D) H) ∨
    (J.go i H ∧ ∀ x H', J.yld i H x H' → tt (some x :: vs.map some) H' fun b H2 =>
      if b = true then te (some x :: vs.map some) H2 fun y H3 => H3 D = some (.lst acc) ∧ acc.length < sizeLine ∧ ∃ m', m' < m ∧ W (i + 1) m' (acc ++ [y]) (upd H3 D (.lst (acc ++ [y])))
      else ∃ m', m' < m ∧ W (i + 1) m' acc H2)

theorem lookup_relabel_free {env : Env} : ∀ {names : List (Str × NameKind)} {x : Str}, names.lookup x = some .free → env.scope.kind = .function → env.kindOf x = some .cell →
    (names.map fun (n, k) => if (k == NameKind.free && env.scope.kind == .function && env.kindOf n == some .cell) then (n, NameKind.cell) else (n, k)).lookup x = some .cell
  | [], _, h, _, _ => by simp at h
  | (n, k) :: r, x, h, hk, he => by
    have ih := @lookup_relabel_free env r x
    show List.lookup x ((if (k == NameKind.free && env.scope.kind == .function && env.kindOf n == some .cell) = true then (n, NameKind.cell) else (n, k)) :: _) = _
    cases hx : x == n with
    | true =>
      simp only [List.lookup_cons, hx] at h
      cases h
      have e := eq_of_beq hx
      subst e
      simp [List.lookup_cons, hk, he]
    | false =>
      simp only [List.lookup_cons, hx] at h
      by_cases hc : (k == NameKind.free && env.scope.kind == .function && env.kindOf n == some .cell) = true
      · rw [if_pos hc]; simp only [List.lookup_cons, hx]; exact ih h hk he
      · rw [if_neg hc]; simp only [List.lookup_cons, hx]; exact ih h hk he
theorem relabel_back {env : Env} : ∀ {names : List (Str × NameKind)} {x : Str}, (∀ y ∈ names, y.2 ≠ .cell) →
    ((names.map fun (n, k) => if (k == NameKind.free && env.scope.kind == .function && env.kindOf n == some .cell) then (n, NameKind.cell) else (n, k)).lookup x = some .cell ∨
     (names.map fun (n, k) => if (k == NameKind.free && env.scope.kind == .function && env.kindOf n == some .cell) then (n, NameKind.cell) else (n, k)).lookup x = some .free) → (x, NameKind.free) ∈ names
  | [], _, _, h => by simp at h
  | (n, k) :: r, x, hn, h => by
    have ih := @relabel_back env r x fun y hy => hn y (List.mem_cons_of_mem _ hy)
    have nk : k ≠ .cell := hn (n, k) List.mem_cons_self
    rw [List.map_cons] at h
    by_cases hc : (k == NameKind.free && env.scope.kind == .function && env.kindOf n == some .cell) = true
    · simp only [hc, if_true, List.lookup_cons] at h
      have kf : k = .free := by simp at hc; exact hc.1.1
      subst kf
      cases hx : x == n with
      | true => rw [eq_of_beq hx]; exact List.mem_cons_self
      | false => simp only [hx] at h; exact List.mem_cons_of_mem _ (ih h)
    · have hc' : (k == NameKind.free && env.scope.kind == .function && env.kindOf n == some .cell) = false := by simpa using hc
      simp only [hc', Bool.false_eq_true, if_false, List.lookup_cons] at h
      cases hx : x == n with
      | true =>
        simp only [hx] at h
        have kf : k = .free := by
          rcases h with h | h
          · exact absurd (Option.some.inj h) nk
          · exact Option.some.inj h
        subst kf
        rw [eq_of_beq hx]; exact List.mem_cons_self
      | false => simp only [hx] at h; exact List.mem_cons_of_mem _ (ih h)

section
variable {X : Cx} {elt iter : Expr} {x : Str} {px : Pos} {ifs : List Expr} {scope : Scope} {pos : Pos} {N : List Str} {sl : List Nat} {wi : TI} {tt : TT} {te : TE}
structure CompSide (X : Cx) (scope : Scope) (x : Str) (N : List Str) (sl : List Nat) : Prop where
  hx : scope.names.lookup x = some .local
  kind : scope.kind = .function
  cell : ∀ y ∈ scope.names, y.2 ≠ .cell
  names : ∀ y ∈ scope.names, y.2 = .local → scope.names.lookup y.1 = some .local
  free : ∀ y ∈ scope.names, y.2 = .free → X.env.kindOf y.1 = some .cell
  nd : (x :: N).Nodup
  sl : N.map some = sl.map (fun j => X.N[j]?)
  frN : ∀ n ∈ N, scope.names.lookup n = some .free

theorem comp_inv (S : CompSide X scope x N sl) {pins : List (Addr × Obj)} {σ : St} {H : Hp} {s : Shared} {h₁ : Heap} {tk : Nat} {fp : List Addr} {cl : List (Str × Addr)} {vs : List V} {o : Obj} (I : Inv X pins σ H s)
    (hfp : ∀ b ∈ fp, FpOk X pins H b) (hob : ∀ b ∈ fp, ∃ o, s.heap.get? b = some o) (hns : h₁.Ns s.heap.objs.size (fun _ => none)) (hsb : Heap.SameBut s.heap.objs.size (s.heap.push o) h₁)
    (hcl : ∀ n c, cl.lookup n = some c → X.env.cells.lookup n = some c) (hcl2 : ∀ n, (n, NameKind.free) ∈ scope.names → ∃ c, cl.lookup n = some c)
    (hvs : sl.map (fun j => σ[j]?) = vs.map (fun v => some (some v))) :
    Inv (compCx X scope (x :: N) cl s.heap.objs.size s H fp) [] (none :: vs.map some) H { s with heap := h₁, toks := tk } := by
  have hL := I.lt
  have keep : ∀ b o, s.heap.get? b = some o → h₁.get? b = some o := fun b o e => (hsb.2 b (Nat.ne_of_lt (Heap.lt_size e))).trans (Heap.get?_push_of_some _ e)
  have kf : X.env.scope.kind = .function := I.ok.kind
  refine ⟨⟨I.ok.mod, ?_, I.ok.glob, I.ok.blt, Nat.le_refl _, fun y z c h1 h2 => I.ok.inj y z c (hcl y c h1) (hcl z c h2), fun y hy => ?_, fun y c h => (by cases h), I.ok.hd, I.ok.frames, .inl rfl, fun b hb => ⟨?_, fun y c e => ?_⟩, fun b o e => I.bs b o e,
    Nat.le_trans I.ok.bsz I.sz, fun b o e hb => ?_, fun b hb hz => ?_, I.stack, I.stkFree⟩, rfl, I.bare, Un.kept keep, ⟨_, hns, fun i y v e1 e2 e3 => ?_⟩, fun y c e => ?_, I.hok.fresh (Nat.le_refl _), fun y c e => I.freeC y c (hcl y c e),
    fun p hp => absurd (show p ∈ ([] : List (Addr × Obj)) from hp) (by simp), I.hok.kept keep, ?_⟩
  · exact S.kind
  · exact hcl2 y (relabel_back (env := X.env) (fun z hz => S.cell z hz) hy)
  · obtain ⟨o', e⟩ := hob b hb
    exact Nat.ne_of_lt (Heap.lt_size e)
  · exact (hfp b hb).2.2.2.2.1 y c (hcl y c e)
  · rcases (hfp b hb).2.2.2.1 with z | z
    · exact I.ok.noex b o e z
    · exact absurd (Nat.lt_of_lt_of_le (Heap.lt_size e) (Nat.le_trans I.ok.bsz z)) (Nat.lt_irrefl _)
  · rcases List.mem_cons.mp (I.stkSub b hz) with q | q
    · exact (hfp b hb).2.1 q
    · exact (hfp b hb).2.2.1 q
  · cases i with
    | zero => simp at e2
    | succ j =>
      have e1' : N[j]? = some y := by simpa [compCx] using e1
      have e2' : vs[j]? = some v := by
        rw [List.getElem?_cons_succ, List.getElem?_map] at e2
        cases q : vs[j]? with
        | none => rw [q] at e2; cases e2
        | some v' => rw [q] at e2; cases e2; rfl
      have q1 := congrArg (fun l => l[j]?) S.sl
      have q2 := congrArg (fun l => l[j]?) hvs
      simp only [List.getElem?_map, e1', e2', Option.map_some] at q1 q2
      cases hk : sl[j]? with
      | none => rw [hk] at q1; cases q1
      | some k =>
        rw [hk] at q1 q2
        have n1 : X.N[k]? = some y := (Option.some.inj q1).symm
        have n2 : σ[k]? = some (some v) := Option.some.inj q2
        have hfr := S.frN y (List.mem_of_getElem? e1')
        have hm := PySem.mem_of_lookup hfr
        have hc := S.free _ hm rfl
        obtain ⟨m, hn, hl⟩ := I.loc
        obtain ⟨u, r, lk⟩ := hl k y v n1 n2 (.inr (.inl hc))
        refine ⟨u, r, .inr ⟨.inl (lookup_relabel_free hfr kf hc), ?_⟩⟩
        rcases lk with ⟨kl, _⟩ | ⟨_, c, ec, ⟨o', ho, hd⟩⟩
        · rw [hc] at kl; cases kl
        · obtain ⟨c', ec'⟩ := hcl2 y hm
          have := hcl y c' ec'
          rw [ec] at this; cases this
          exact ⟨c, ec', o', keep _ _ ho, hd⟩
  · obtain ⟨v, o', ho, hd⟩ := I.cell y c (hcl y c e)
    exact ⟨v, o', keep _ _ ho, hd⟩
  · have l1 := congrArg List.length S.sl
    have l2 := congrArg List.length hvs
    simp only [List.length_map] at l1 l2
    simp [compCx]; omega

theorem pe_comp (S : CompSide X scope x N sl) (hc : X.calm = true) (hi : PI X (.Name x px) iter wi) (ht : ∀ cl C s₀ H₀ ex, PTs (compCx X scope (x :: N) cl C s₀ H₀ ex) ifs tt) (he : ∀ cl C s₀ H₀ ex, PE (compCx X scope (x :: N) cl C s₀ H₀ ex) elt te)
    (hs : ∀ x, foldedSetIterable iter X.env x = pure x := by intro _; rfl) : PE X (.ListComp elt [⟨.Name x px, iter, ifs, 0⟩] scope pos) (tComp sl wi tt te) := by
  intro pins s σ H Q I h
  obtain ⟨cl, hclos, hcl, hcl2⟩ := closure_of (env := X.env) (scope := scope) fun y hy hf => I.ok.has y.1 (.inl (S.free y hy hf))
  rw [eval_ListComp]
  refine wpAny_comprehension_free (use := none) rfl hs hclos S.kind S.names (thn (hi pins s σ H _ I h) fun v s1 h1 => thn h1 fun itv s2 h2 => ?_)
  obtain ⟨it, fp, tn, J, H2, e, I2, T, st2, f2, vs, hvs, hW⟩ := h2
  subst e
  refine wpAny_newObj_type (wpAny_newFunctionEnv S.cell (by intro y hy; simp at hy) (fun h₁ hns₁ hsb₁ => ?_) S.kind)
  have hD : H2 s2.heap.objs.size = none := I2.fresh
  have I3 : Inv X pins σ (upd H2 s2.heap.objs.size (.lst [])) { s2 with heap := s2.heap.push { cls := .type "list", data := .seq ([] : List Value).toArray }, toks := s2.toks } := I2.lnew (its := []) (ys := []) .nil (Nat.zero_le _)
  have hbD : ∀ b ∈ fp, b ≠ s2.heap.objs.size := fun b hb z => by
    obtain ⟨o', e', _⟩ := T.obj _ _ st2 b hb
    exact absurd (Heap.lt_size e') (by rw [z]; exact Nat.lt_irrefl _)
  have f3 : ∀ b ∈ fp, FpOk X pins (upd H2 s2.heap.objs.size (.lst [])) b := fun b hb => ⟨by rw [upd_ne (hbD b hb)]; exact (f2 b hb).1, (f2 b hb).2⟩
  have ob3 : ∀ b ∈ fp, ∃ o, (s2.heap.push { cls := .type "list", data := .seq ([] : List Value).toArray }).get? b = some o := fun b hb => by
    obtain ⟨o', e', _⟩ := T.obj _ _ st2 b hb
    exact ⟨o', Heap.get?_push_of_some _ e'⟩
  have IC := comp_inv (tk := s2.toks + ([] : List (Str × Value)).length) S I3 f3 ob3 hns₁ hsb₁ hcl hcl2 hvs
  dsimp only at hsb₁ IC ⊢
  generalize hCC : (s2.heap.push { cls := .type "list", data := .seq ([] : List Value).toArray }).objs.size = C at hns₁ hsb₁ IC ⊢
  have old : ∀ b o, s2.heap.get? b = some o → h₁.get? b = some o := fun b o e => by
    have e1 : (s2.heap.push { cls := .type "list", data := .seq ([] : List Value).toArray }).get? b = some o := Heap.get?_push_of_some _ e
    exact (hsb₁.2 b (by rw [← hCC]; exact Nat.ne_of_lt (Heap.lt_size e1))).trans (Heap.get?_push_of_some _ e1)
  have st₁ : tn 0 h₁ := T.keep _ _ _ st2 fun b hb o e => old b o e
  obtain ⟨W, ⟨m0, w0⟩, turn⟩ := hW s2.heap.objs.size hD
  have fpC : ∀ {H' : Hp} {pl : List (Addr × Obj)}, (∀ b ∈ fp, H' b = none) → (∀ p ∈ pl, p.1 ∉ fp) → ∀ b ∈ fp, FpOk (compCx X scope (x :: N) cl C { s2 with heap := s2.heap.push { cls := .type "list", data := .seq ([] : List Value).toArray }, toks := s2.toks } (upd H2 s2.heap.objs.size (.lst [])) fp) pl H' b := fun {H' pl} hn hp b hb => by
    refine ⟨hn b hb, (IC.ok.exf b hb).1, IC.ok.exfs b hb, .inl hb, (IC.ok.exf b hb).2, fun p hq z => ?_⟩
    have hq' : p ∈ pl := by simpa [compCx] using hq
    exact hp p hq' (by rw [z]; exact hb)
  have done : ∀ {σ' : St} {H' : Hp} {s' : Shared}, Inv (compCx X scope (x :: N) cl C { s2 with heap := s2.heap.push { cls := .type "list", data := .seq ([] : List Value).toArray }, toks := s2.toks } (upd H2 s2.heap.objs.size (.lst [])) fp) [] σ' H' s' → Q (.ref s2.heap.objs.size) H' →
      ∃ m, s'.heap.Ns C m ∧ ∀ h', Heap.SameBut C s'.heap h' → EP X pins σ Q (.ref s2.heap.objs.size) { s' with heap := h' } := fun {σ' H' s'} J q => by
    obtain ⟨m, hn, _⟩ := id J.loc
    refine ⟨m, hn, fun h' hs' => ⟨.ref s2.heap.objs.size, H', ?_, rfl, q⟩⟩
    have u : Un (frs X.stack) fp H2 H' s2.heap s'.heap := (Un.laid (fun b u e => Heap.get?_push_of_some _ e) (Nat.le_refl _) hD).trans J.base
    have nC : ∀ b o, s2.heap.get? b = some o → b ≠ C := fun b o e => by
      have e1 : (s2.heap.push { cls := .type "list", data := .seq ([] : List Value).toArray }).get? b = some o := Heap.get?_push_of_some _ e
      rw [← hCC]; exact Nat.ne_of_lt (Heap.lt_size e1)
    have u' : Un (frs X.stack) fp H2 H' s2.heap h' :=
      ⟨fun b o e n hb hx => (hs'.2 b (nC b o e)).trans (u.keep b o e n hb hx), fun b o e n hb hx => let ⟨sl, q⟩ := u.slot b o e n hb hx; ⟨sl, (hs'.2 b (nC b o e)).trans q⟩, u.free, fun b o e hx => let ⟨o', q⟩ := u.there b o e hx; ⟨o', (hs'.2 b (nC b o e)).trans q⟩, u.tups, u.frzs, u.tbls⟩
    have hok : HOk X.prog X.w H' h' := fun b ob e => (J.hok b ob e).stay (fun c w' hc q => (hs'.2 c (by
      rintro rfl
      have hf : H' c = none := J.free
      rcases hc with rfl | hc
      · rw [hf] at e; cases e
      · rw [hf] at hc; cases hc)).trans q) (fun _ q => q) fun _ _ q => q
    have hos : s'.os = s2.os := J.os
    exact I2.call' (s' := { s' with heap := h' }) (ch := fp) hos u' hok J.bare fun b hb => ⟨(f2 b hb).2.2.2.1, (f2 b hb).2.1, (f2 b hb).2.2.2.2.1, (f2 b hb).2.2.2.2.2⟩
  have loop : codeAny (model X.prog X.w) X.A (.compLoop (.ListComp elt [⟨.Name x px, iter, ifs, 0⟩] scope pos) 0 (.ref it) (.ref s2.heap.objs.size) (compEnvC scope cl C X.env)) (compPost (model X.prog X.w) X.A X.xe none (EP X pins σ Q) (.ref s2.heap.objs.size) C)
      { s2 with heap := h₁, toks := s2.toks + ([] : List (Str × Value)).length } := by
    refine codeAny_compLoop_tests (fun n s' => ∃ i acc σ' H', Inv (compCx X scope (x :: N) cl C { s2 with heap := s2.heap.push { cls := .type "list", data := .seq ([] : List Value).toArray }, toks := s2.toks } (upd H2 s2.heap.objs.size (.lst [])) fp) [] σ' H' s' ∧ (∃ y, σ' = y :: vs.map some) ∧
      tn i s'.heap ∧ (∀ b ∈ fp, H' b = none) ∧ W i n acc H') ?_ m0 ⟨0, [], _, _, IC, ⟨none, rfl⟩, st₁, fun b hb => (f3 b hb).1, w0⟩
    rintro n s3 ⟨i, acc, σ3, H3, I4, ⟨y, rfl⟩, st3, fr3, w3⟩
    rcases turn i n acc H3 w3 with ⟨stop, qn⟩ | ⟨go, step⟩
    · refine wpAny_mono (T.done (compCx X scope (x :: N) cl C { s2 with heap := s2.heap.push { cls := .type "list", data := .seq ([] : List Value).toArray }, toks := s2.toks } (upd H2 s2.heap.objs.size (.lst [])) fp) rfl rfl rfl hc i [] s3 _ H3 (fun _ _ => False) I4 (fpC fr3 (by simp)) st3 stop) (fun r s4 ⟨hr, I5⟩ => ?_) fun _ _ z => False.elim z
      subst hr
      exact done I5 qn
    · refine wpAny_mono (T.item (compCx X scope (x :: N) cl C { s2 with heap := s2.heap.push { cls := .type "list", data := .seq ([] : List Value).toArray }, toks := s2.toks } (upd H2 s2.heap.objs.size (.lst [])) fp) rfl rfl rfl hc i [] s3 _ H3 (fun _ _ => False) I4 (fpC fr3 (by simp)) st3 go) (fun r s4 ⟨u, hr, h4⟩ => ?_) fun _ _ z => False.elim z
      subst hr
      have e0 : ∀ (k : Unit → Sem Unit), (letOwnedTupleGo (.Name x px) (.ref it) u >>= k) = k () := fun k => rfl
      have hg : PG (compCx X scope (x :: N) cl C { s2 with heap := s2.heap.push { cls := .type "list", data := .seq ([] : List Value).toArray }, toks := s2.toks } (upd H2 s2.heap.objs.size (.lst [])) fp) (.Name x px) (gName 0) := pg_name S.nd rfl (.inl (lookup_relabel_local S.hx)) (.inr (lookup_relabel_local S.hx))
      show wpAny (model X.prog X.w) X.A (assign (.Name x px) (compEnvC scope cl C X.env) u) _ _ s4
      rw [← e0 fun _ => assign (.Name x px) (compEnvC scope cl C X.env) u]
      refine wpAny_bind (wpAny_mono h4 (fun _ s5 ⟨z, H5, I5, r5, y5, st5, fr5⟩ => ?_) fun _ _ z => False.elim z)
      have I5' := I5.pinned (fpC fr5 (by simp)) (T.obj _ _ st5)
      have W5 := hg _ s5 _ H5 z u (fun σ' H' => σ' = some z :: vs.map some ∧ H' = H5) I5' r5 ⟨rfl, rfl⟩
      refine wpAny_mono W5 (fun _ s6 ⟨σ6, H6, I6, e6, e7⟩ => ?_) fun _ _ z => False.elim z
      subst e6 e7
      refine wpAny_mono (ht _ _ _ _ _ _ s6 _ H6 _ I6 (step z H6 y5)) (fun b s7 ⟨H7, I7, q7⟩ => ?_) fun _ _ z => False.elim z
      have again : ∀ {H8 : Hp} {s8 : Shared} {acc' : List V}, Inv (compCx X scope (x :: N) cl C { s2 with heap := s2.heap.push { cls := .type "list", data := .seq ([] : List Value).toArray }, toks := s2.toks } (upd H2 s2.heap.objs.size (.lst [])) fp) ([] ++ pinsAt fp s5.heap) (some z :: vs.map some) H8 s8 → (∃ m', m' < n ∧ W (i + 1) m' acc' H8) → ∃ m, m < n ∧ ∃ i acc σ' H', Inv (compCx X scope (x :: N) cl C { s2 with heap := s2.heap.push { cls := .type "list", data := .seq ([] : List Value).toArray }, toks := s2.toks } (upd H2 s2.heap.objs.size (.lst [])) fp) [] σ' H' s8 ∧ (∃ y, σ' = y :: vs.map some) ∧ tn i s8.heap ∧ (∀ b ∈ fp, H' b = none) ∧ W i m acc H' := fun {H8 s8 acc'} I8 ⟨m', hm, w8⟩ => by
        refine ⟨m', hm, i + 1, acc', _, H8, I8.unpinned, ⟨_, rfl⟩, T.keep _ _ _ st5 fun b hb o e => (I8.pin (b, o) (List.mem_append_right _ (List.mem_append_right _ (mem_pinsAt hb e)))).1, fun b hb => ?_, w8⟩
        obtain ⟨o, e, d⟩ := T.obj _ _ st5 b hb
        exact (I8.pin (b, o) (List.mem_append_right _ (List.mem_append_right _ (mem_pinsAt hb e)))).2.1
      cases b with
      | false => exact again I7 q7
      | true =>
        rw [if_pos rfl]
        refine wpAny_mono (he _ _ _ _ _ _ s7 _ H7 _ I7 q7) (fun v8 s8 ⟨x8, H8, I8, r8, hD8, hz8, q8⟩ => ?_) fun _ _ z => False.elim z
        refine wpAny_mono (mt_append (X := (compCx X scope (x :: N) cl C { s2 with heap := s2.heap.push { cls := .type "list", data := .seq ([] : List Value).toArray }, toks := s2.toks } (upd H2 s2.heap.objs.size (.lst [])) fp)) _ s8 _ H8 (.ref s2.heap.objs.size) [x8] (.ref s2.heap.objs.size) [v8] (fun _ H9 => H9 = upd H8 s2.heap.objs.size (.lst (acc ++ [x8]))) I8 rfl (.cons r8 .nil) ⟨_, acc, x8, rfl, rfl, hD8, hz8, rfl⟩) (fun _ s9 ⟨_, H9, I9, _, e9⟩ => ?_) fun _ _ z => False.elim z
        subst e9
        exact again I9 q8
  exact codeAny_compStart_list loop (T.self _ 0 _ _ _ st₁ loop)

def inner (sl : List Nat) (ρ : DEnv) (d : Dt) : DEnv := some (.is d) :: sl.map fun j => (ρ[j]?).join
structure DTs (X : Cx) (ifs : List Expr) (t : DTT) : Prop where
  mono : ∀ {ρ Q Q'}, (∀ d, Q d → Q' d) → t ρ Q → t ρ Q'
  pts : PTs X ifs (lT X.K t)
def dTrue : DTT := fun _ Q => Q true
theorem dts_one {c : Expr} {t : DTT} (h : DT X c t) : DTs X [c] t := ⟨h.mono, pts_one h.pt⟩
def caught (sl : List Nat) (ρ : DEnv) : Prop := ∀ j ∈ sl, ∃ d, ρ[j]? = some (some (.is d))
def dComp (sl : List Nat) (ti : DTI) (tt : DTT) (te : DTE) : DTE := fun ρ Q => ti ρ fun items => items.length ≤ sizeLine ∧ caught sl ρ ∧
  ∃ W : Nat → List Dt → Prop, W 0 [] ∧ (∀ (k : Nat) d acc, items[k]? = some d → W k acc → tt (inner sl ρ d) fun b => if b = true then te (inner sl ρ d) fun e => W (k + 1) (acc ++ [e]) else W (k + 1) acc) ∧
    ∀ acc, acc.length ≤ items.length → W items.length acc → Q (.lst acc)
theorem caught_vals {K : PySem.W.Frag} {B : Hp} {F O : List Addr} {H : Hp} {σ : St} {ρ : DEnv} (R : Rep K B F O H σ ρ) : ∀ {sl : List Nat}, caught sl ρ → ∃ vs ds, sl.map (fun j => σ[j]?) = vs.map (fun v => some (some v)) ∧ sl.map (fun j => (ρ[j]?).join) = ds.map (fun d => some (En.is d)) ∧ RpL K (mask (F ++ O) H) ds vs
  | [], _ => ⟨[], [], rfl, rfl, RpL.nil⟩
  | j :: sl, h => by
    obtain ⟨d, e⟩ := h j List.mem_cons_self
    obtain ⟨v, e1, e2⟩ := R.is j d e
    obtain ⟨vs, ds, h1, h2, h3⟩ := caught_vals R (sl := sl) fun k hk => h k (List.mem_cons_of_mem _ hk)
    exact ⟨v :: vs, d :: ds, by simp [e1, h1], by simp [e, h2], RpL.cons e2 h3⟩
theorem rep_inner {K : PySem.W.Frag} {F : List Addr} {H : Hp} {d : Dt} {v : V} {ds : List Dt} {vs : List V} (th : ∀ a ∈ F, H a ≠ none) (r : Rp K (mask F H) d v) (rs : RpL K (mask F H) ds vs) :
    Rep K (fun _ => none) F [] H (some v :: vs.map some) (some (.is d) :: ds.map fun d => some (En.is d)) := by
  have e : mask (F ++ []) H = mask F H := by rw [List.append_nil]
  have noown : ∀ (i : Nat) es, (some (En.is d) :: ds.map fun d => some (En.is d))[i]? = some (some (.own es)) → False := fun i es q => by
    cases i with
    | zero => cases q
    | succ j =>
      rw [List.getElem?_cons_succ, List.getElem?_map] at q
      cases z : ds[j]? with
      | none => rw [z] at q; cases q
      | some y => rw [z] at q; cases q
  refine ⟨by simp [rs.len], fun a o q => (nomatch q), fun a h => (nomatch h), fun a h => th a (by simpa using h), fun i y q => ?_, fun i es q => (noown i es q).elim, fun i j es es' a h1 => (noown i es h1).elim⟩
  rw [e]
  cases i with
  | zero => cases q; exact ⟨v, rfl, r⟩
  | succ j =>
    rw [List.getElem?_cons_succ, List.getElem?_map] at q
    cases z : ds[j]? with
    | none => rw [z] at q; cases q
    | some y' =>
      rw [z] at q; cases q
      obtain ⟨u, h1, h2⟩ := rs.get z
      exact ⟨u, by rw [List.getElem?_cons_succ, List.getElem?_map, h1]; rfl, h2⟩
theorem comp_imp {K : PySem.W.Frag} {sl : List Nat} {ti : DTI} {dt : DTT} {de : DTE} (mi : ∀ {ρ Q Q'}, (∀ d, Q d → Q' d) → ti ρ Q → ti ρ Q') (mt : ∀ {ρ Q Q'}, (∀ d, Q d → Q' d) → dt ρ Q → dt ρ Q') (me : ∀ {ρ Q Q'}, (∀ d, Q d → Q' d) → de ρ Q → de ρ Q')
    (σ : St) (H : Hp) (Q : VK) (h : lE K (dComp sl ti dt de) σ H Q) : tComp sl (lI K ti) (lT K dt) (lE K de) σ H Q := by
  obtain ⟨B, F, O, ρ, R, h⟩ := h
  refine ⟨B, F, O, ρ, R, mi (fun items ⟨h1, h2, W, w0, st, fin⟩ J H1 s1 it => ?_) h⟩
  have R1 := R.same s1
  obtain ⟨vs, ds, ev, ed, rs⟩ := caught_vals R1 h2
  refine ⟨vs, ev, fun D hD => ?_⟩
  have nD : D ∉ F ++ O := fun z => R1.th D z hD
  have sM : Same (mask (F ++ O) H1) (mask (F ++ O) (upd H1 D (.lst []))) := (Same.upd hD).mask
  refine ⟨fun i m acc H2 => m + i = items.length ∧ H2 D = some (.lst acc) ∧ acc.length ≤ i ∧ Same H1 H2 ∧ ∃ as, RpL K (mask (D :: (F ++ O)) H2) as acc ∧ W i as, ⟨items.length, by omega, upd_same, Nat.le_refl _, Same.upd hD, [], RpL.nil, w0⟩, ?_⟩
  rintro i m acc H2 ⟨hm, e2, hl, s2, as, ra, w⟩
  have sb : Same (mask (F ++ O) H1) H2 := fun a o e => s2 a o (mask_some e).2
  have sD : Same (mask (F ++ O) H1) (mask (D :: (F ++ O)) H2) := fun a o e => by
    obtain ⟨q, e⟩ := mask_some e
    rw [mask_out fun z => by
      rcases List.mem_cons.mp z with z | z
      · rw [z, hD] at e; cases e
      · exact q z]
    exact s2 a o e
  obtain ⟨go, stop⟩ := it H2 sb
  by_cases hlt : i < items.length
  · refine .inr ⟨(go i items[i] (by simp [hlt])).1, fun z H3 y => ?_⟩
    obtain ⟨e, r⟩ := (go i items[i] (by simp [hlt])).2 z H3 y
    subst e
    have th : ∀ a ∈ D :: (F ++ O), H3 a ≠ none := fun a ha q => by
      rcases List.mem_cons.mp ha with z | z
      · rw [z, e2] at q; cases q
      · have := R1.th a z
        cases q' : H1 a with
        | none => exact this q'
        | some o => rw [s2 a o q'] at q; cases q
    have R3 := rep_inner th (r.mono sD) (rs.mono sD)
    have ei : some (En.is items[i]) :: ds.map (fun d => some (En.is d)) = inner sl ρ items[i] := by unfold inner; rw [ed]
    rw [ei] at R3
    refine ⟨_, _, _, _, R3, mt (fun b q H4 s4 => ?_) (st i _ as (by simp [hlt]) w)⟩
    cases b with
    | false =>
      refine ⟨m - 1, by omega, by omega, s4 _ _ e2, by omega, s2.trans s4, as, ra.mono s4.mask, q⟩
    | true =>
      refine ⟨_, _, _, _, R3.same s4, me (fun e q v5 H5 s5 r5 => ?_) q⟩
      have e5 : H5 D = some (.lst acc) := s5 _ _ (s4 _ _ e2)
      have hz : acc.length < sizeLine := by omega
      have s6 : Same (mask (D :: (F ++ O)) H5) (mask (D :: (F ++ O)) (upd H5 D (.lst (acc ++ [v5])))) := fun a o q => by
        obtain ⟨n, q⟩ := mask_some q
        rw [mask_out n, upd_ne fun z => n (by rw [z]; exact List.mem_cons_self)]; exact q
      have em : mask (D :: (F ++ O) ++ []) H5 = mask (D :: (F ++ O)) H5 := by rw [List.append_nil]
      rw [em] at r5
      refine ⟨e5, hz, m - 1, by omega, by omega, upd_same, by simp; omega, fun a o q => ?_, as ++ [e], (((ra.mono s4.mask).mono s5.mask).append (RpL.cons r5 RpL.nil)).mono s6, q⟩
      rw [upd_ne (ne_of_none q hD)]
      exact s5 _ _ (s4 _ _ (s2 a o q))
  · have e : i = items.length := by omega
    subst e
    refine .inl ⟨stop, fin as (by rw [← ra.len]; exact hl) w (.ref D) H2 (s1.trans s2) (rp_lstI ⟨D, acc, rfl, (by rw [mask_out nD]; exact e2), ra.mono (mask_sub fun a h => List.mem_cons_of_mem _ h)⟩)⟩
theorem de_compG {ti : DTI} {dt : DTT} {de : DTE} (S : CompSide X scope x N sl) (hc : X.calm = true) (hi : DI X (.Name x px) iter ti) (ht : ∀ cl C s₀ H₀ ex, DTs (compCx X scope (x :: N) cl C s₀ H₀ ex) ifs dt) (he : ∀ cl C s₀ H₀ ex, DE (compCx X scope (x :: N) cl C s₀ H₀ ex) elt de)
    (hs : ∀ x, foldedSetIterable iter X.env x = pure x := by intro _; rfl) : DE X (.ListComp elt [⟨.Name x px, iter, ifs, 0⟩] scope pos) (dComp sl ti dt de) := by
  have mt : ∀ {ρ Q Q'}, (∀ d, Q d → Q' d) → dt ρ Q → dt ρ Q' := (ht [] 0 X.s₀ X.H₀ []).mono
  have me : ∀ {ρ Q Q'}, (∀ d, Q d → Q' d) → de ρ Q → de ρ Q' := (he [] 0 X.s₀ X.H₀ []).mono
  refine ⟨fun hq h => hi.mono (fun items ⟨h1, h2, W, w0, st, fin⟩ => ⟨h1, h2, W, w0, st, fun acc l w => hq _ (fin acc l w)⟩) h, ?_⟩
  refine (pe_comp (tt := lT X.K dt) (te := lE X.K de) S hc hi.pi (fun cl C s₀ H₀ ex => (ht cl C s₀ H₀ ex).pts) (fun cl C s₀ H₀ ex => (he cl C s₀ H₀ ex).pe) hs).imp (comp_imp (ti := ti) (dt := dt) (de := de) hi.mono mt me)
theorem de_compI {c : Expr} {ti : DTI} {dt : DTT} {de : DTE} (S : CompSide X scope x N sl) (hc : X.calm = true) (hi : DI X (.Name x px) iter ti) (ht : ∀ cl C s₀ H₀ ex, DT (compCx X scope (x :: N) cl C s₀ H₀ ex) c dt) (he : ∀ cl C s₀ H₀ ex, DE (compCx X scope (x :: N) cl C s₀ H₀ ex) elt de)
    (hs : ∀ x, foldedSetIterable iter X.env x = pure x := by intro _; rfl) : DE X (.ListComp elt [⟨.Name x px, iter, [c], 0⟩] scope pos) (dComp sl ti dt de) := de_compG S hc hi (fun _ _ _ _ _ => dts_one (ht _ _ _ _ _)) he hs
end
end L2

namespace L2
open PySem PySem.Spec PyProof.Rows PySem.SeqAt

def compB (sc scope : Scope) (NN : List Str) (x : Str) (N : List Str) (sl : List Nat) : Bool :=
  decide (scope.names.lookup x = some .local) && decide (scope.kind = .function) && scope.names.all (fun y => decide (y.2 ≠ .cell)) && scope.names.all (fun y => decide (y.2 = .local → scope.names.lookup y.1 = some .local)) &&
    scope.names.all (fun y => decide (y.2 = .free → sc.names.lookup y.1 = some .cell)) && decide (x :: N).Nodup && decide (N.map some = sl.map (fun j => NN[j]?)) && N.all (fun n => decide (scope.names.lookup n = some .free))
theorem comp_side {X : Cx} {sc scope : Scope} {NN : List Str} {x : Str} {N : List Str} {sl : List Nat} (h1 : X.env.scope = sc) (h2 : X.N = NN) (h : compB sc scope NN x N sl = true) : CompSide X scope x N sl := by
  subst h1 h2
  unfold compB at h
  simp only [Bool.and_eq_true, decide_eq_true_eq, List.all_eq_true] at h
  obtain ⟨⟨⟨⟨⟨⟨⟨a, b⟩, c⟩, d⟩, e⟩, f⟩, g⟩, i⟩ := h
  exact ⟨a, b, c, d, e, f, g, i⟩

def Bt (n : Nat) (x : Int) : Prop := x.natAbs < 2 ^ n
theorem Bt.le {n m : Nat} {x : Int} (h : Bt n x) (l : n ≤ m) : Bt m x := Nat.lt_of_lt_of_le h (Nat.pow_le_pow_right (by decide) l)
theorem Bt.mul {n m : Nat} {x y : Int} (a : Bt n x) (b : Bt m y) : Bt (n + m) (x * y) := by
  unfold Bt at *
  rw [Int.natAbs_mul, Nat.pow_add]
  exact Nat.mul_lt_mul'' a b
theorem Bt.add {n m : Nat} {x y : Int} (a : Bt n x) (b : Bt m y) : Bt (max n m + 1) (x + y) := by
  have a' := a.le (Nat.le_max_left n m)
  have b' := b.le (Nat.le_max_right n m)
  unfold Bt at *
  rw [Nat.pow_succ]
  have := Int.natAbs_add_le x y
  omega
theorem Bt.neg {n : Nat} {x : Int} (a : Bt n x) : Bt n (-x) := by unfold Bt at *; rw [Int.natAbs_neg]; exact a
theorem Bt.sub {n m : Nat} {x y : Int} (a : Bt n x) (b : Bt m y) : Bt (max n m + 1) (x - y) := by rw [Int.sub_eq_add_neg]; exact a.add b.neg
theorem Bt.of_abs {n : Nat} {x : Int} (h : x.natAbs < 2 ^ n) : Bt n x := h
theorem Bt.of {n : Nat} {x : Int} (h1 : -(2 ^ n) < x) (h2 : x < 2 ^ n) : Bt n x := by
  unfold Bt
  have : ((x.natAbs : Nat) : Int) < ((2 ^ n : Nat) : Int) := by push_cast; omega
  omega
theorem Bt.mulOk {n m : Nat} {x y : Int} (a : Bt n x) (b : Bt m y) (hn : n ≤ 1048576 := by decide) (hm : m ≤ 1048576 := by decide) : IntMulOk x y :=
  IntMulOk.of_bits (intBits_le_iff.mpr (a.le hn)) (intBits_le_iff.mpr (b.le hm))
theorem Bt.divOk {n : Nat} {x y : Int} (a : Bt n y) (h : y ≠ 0) (hn : n ≤ 9000 := by decide) : CDv x y := ⟨h, a.le hn⟩
theorem Bt.zero : Bt 0 0 := by unfold Bt; decide
theorem Bt.one : Bt 1 1 := by unfold Bt; decide
end L2
namespace L2
open PySem PySem.Spec PyProof.Rows PySem.SeqAt
section
variable {a b c d e f : Dt} {r s : List Dt} {i j : Int} {k l : Bool} {n : Nat} {x y : Str}
theorem ixt0 : ixD 0 (.tup (a :: r)) = some a := rfl
theorem ixt1 : ixD 1 (.tup (a :: b :: r)) = some b := rfl
theorem ixt2 : ixD 2 (.tup (a :: b :: c :: r)) = some c := rfl
theorem ixt3 : ixD 3 (.tup (a :: b :: c :: d :: r)) = some d := rfl
theorem ixl0 : ixD 0 (.lst (a :: r)) = some a := rfl
theorem ixl1 : ixD 1 (.lst (a :: b :: r)) = some b := rfl
theorem ixl2 : ixD 2 (.lst (a :: b :: c :: r)) = some c := rfl
theorem ixl3 : ixD 3 (.lst (a :: b :: c :: d :: r)) = some d := rfl
theorem eq_ii : Dt.eq (.int i) (.int j) = decide (i = j) := by rw [Dt.eq]
theorem eq_bb : Dt.eq (.bl k) (.bl l) = (k == l) := by rw [Dt.eq]
theorem eq_ss : Dt.eq (.str x) (.str y) = (x == y) := by rw [Dt.eq]
theorem eq_nn : Dt.eq .non .non = true := by rw [Dt.eq]
theorem eq_ni : Dt.eq .non (.int i) = false := by simp [Dt.eq]
theorem eq_nt : Dt.eq .non (.tup r) = false := by simp [Dt.eq]
theorem eq_tn : Dt.eq (.tup r) .non = false := by simp [Dt.eq]
theorem eq_tt : Dt.eq (.tup r) (.tup s) = Dt.eqs r s := by rw [Dt.eq]
theorem eq_ll : Dt.eq (.lst r) (.lst s) = Dt.eqs r s := by rw [Dt.eq]
theorem eqs_nn : Dt.eqs [] [] = true := by rw [Dt.eqs]
theorem eqs_cc : Dt.eqs (a :: r) (b :: s) = (Dt.eq a b && Dt.eqs r s) := by rw [Dt.eqs]
theorem eqs_nc : Dt.eqs [] (b :: s) = false := by simp [Dt.eqs]
theorem eqs_cn : Dt.eqs (b :: s) [] = false := by simp [Dt.eqs]
theorem flat_i : Dt.flat n (.int i) = true := by cases n <;> rw [Dt.flat] <;> simp
theorem flat_b : Dt.flat n (.bl k) = true := by cases n <;> rw [Dt.flat] <;> simp
theorem flat_n : Dt.flat n .non = true := by cases n <;> rw [Dt.flat] <;> simp
theorem flat_t : Dt.flat (n + 1) (.tup r) = Dt.flats n r := by rw [Dt.flat]
theorem flat_l : Dt.flat (n + 1) (.lst r) = Dt.flats n r := by rw [Dt.flat]
theorem flat_t8 : Dt.flat 8 (.tup r) = Dt.flats 7 r := flat_t
theorem flat_l8 : Dt.flat 8 (.lst r) = Dt.flats 7 r := flat_l
theorem flat_t7 : Dt.flat 7 (.tup r) = Dt.flats 6 r := flat_t
theorem flat_l7 : Dt.flat 7 (.lst r) = Dt.flats 6 r := flat_l
theorem flat_t6 : Dt.flat 6 (.tup r) = Dt.flats 5 r := flat_t
theorem flats_n : Dt.flats n [] = true := by rw [Dt.flats]
theorem flats_c : Dt.flats n (a :: r) = (Dt.flat n a && Dt.flats n r) := by rw [Dt.flats]
theorem dstart_c {N : Str} {M : List Str} : dstart (N :: M) (a :: r) = some (.is a) :: dstart M r := by
  unfold dstart
  simp only [List.map_cons, List.length_cons, List.cons_append, Nat.add_sub_add_right]
theorem dstart_n {N : Str} {M : List Str} : dstart (N :: M) [] = none :: dstart M [] := by
  unfold dstart
  simp [List.replicate_succ]
theorem dstart_e : dstart [] [] = [] := rfl
theorem size_ok (h : n ≤ 1000) : n ≤ sizeLine := Nat.le_of_lt (small1000 h)
theorem isT_tt : isT "tuple" (.tup r) = true := rfl
theorem isT_ll : isT "list" (.lst r) = true := rfl
theorem isT_ii : isT "int" (.int i) = true := rfl
theorem isT_bi : isT "bool" (.int i) = false := rfl
theorem isT_ib : isT "int" (.bl k) = true := rfl
theorem isT_bb : isT "bool" (.bl k) = true := rfl
theorem isT_tn : isT "tuple" .non = false := rfl
theorem isT_in : isT "int" .non = false := rfl
theorem isT_it : isT "int" (.tup r) = false := rfl
theorem isT_bt : isT "bool" (.tup r) = false := rfl
theorem nf_i : noFn (.int i) = true := rfl
theorem nf_b : noFn (.bl k) = true := rfl
theorem nf_n : noFn .non = true := rfl
theorem nf_t : noFn (.tup r) = true := rfl
theorem nf_l : noFn (.lst r) = true := rfl
theorem nf_s : noFn (.str x) = true := rfl
theorem isB_t : isB true (.bl k) = k := by cases k <;> rfl
theorem isB_f : isB false (.bl k) = !k := by cases k <;> rfl
theorem isB_i : isB k (.int i) = false := rfl
theorem isB_n : isB k .non = false := rfl
theorem isB_tu : isB k (.tup r) = false := rfl
theorem isB_l : isB k (.lst r) = false := rfl
theorem isN_n : isN .non = true := rfl
theorem isN_i : isN (.int i) = false := rfl
theorem isN_b : isN (.bl k) = false := rfl
theorem isN_t : isN (.tup r) = false := rfl
theorem isN_l : isN (.lst r) = false := rfl
end
end L2
namespace L2
open PySem PySem.Spec PyProof.Rows PySem.SeqAt
theorem ift {c : Bool} {A B : Prop} (h : c = true) (a : A) : if c = true then A else B := by subst h; exact a
theorem iff' {c : Bool} {A B : Prop} (h : c = false) (b : B) : if c = true then A else B := by subst h; exact b
theorem specF_of {τ : Type} {args : τ → List Dt} {pre : τ → Prop} {val : τ → Dt} {Q : Dt → Prop} (p : τ) (h : pre p) (k : Q (val p)) : specF args pre val (args p) Q := ⟨p, rfl, h, fun d e => by rw [e]; exact k⟩
theorem spec_of {τ : Type} {args : τ → List Dt} {pre : τ → Prop} {post : τ → Dt → Prop} {Q : Dt → Prop} (p : τ) (h : pre p) (k : ∀ d, post p d → Q d) : spec args pre post (args p) Q := ⟨p, rfl, h, k⟩
theorem comp_filter {sl : List Nat} {tt : DTT} {te : DTE} {ρ : DEnv} {Q : Dt → Prop} {items : List Dt} (p : Dt → Bool) (f : Dt → Dt) (ht : ∀ d ∈ items, ∀ R : Bool → Prop, R (p d) → tt (inner sl ρ d) R) (he : ∀ d ∈ items, p d = true → ∀ R : Dt → Prop, R (f d) → te (inner sl ρ d) R)
    (hq : Q (.lst ((items.filter p).map f))) : ∃ W : Nat → List Dt → Prop, W 0 [] ∧ (∀ (k : Nat) d acc, items[k]? = some d → W k acc → tt (inner sl ρ d) fun b => if b = true then te (inner sl ρ d) fun e => W (k + 1) (acc ++ [e]) else W (k + 1) acc) ∧
      ∀ acc, acc.length ≤ items.length → W items.length acc → Q (.lst acc) := by
  refine ⟨fun k acc => acc = ((items.take k).filter p).map f, by simp, fun k d acc e w => ?_, fun acc _ w => by rw [w, List.take_length]; exact hq⟩
  have hm := List.mem_of_getElem? e
  refine ht d hm _ ?_
  have ht := take_succ_filter p items k d e
  by_cases hp : p d = true
  · rw [if_pos hp]
    refine he d hm hp _ ?_
    show acc ++ [f d] = _
    rw [w, ht, if_pos hp]; simp
  · rw [if_neg hp]
    show acc = _
    rw [w, ht, if_neg hp]; simp
theorem dComp_filter {sl : List Nat} {ti : DTI} {tt : DTT} {te : DTE} {ρ : DEnv} {Q : Dt → Prop} (items : List Dt) (p : Dt → Bool) (f : Dt → Dt) (hi : ∀ R : List Dt → Prop, R items → ti ρ R) (hl : items.length ≤ sizeLine) (hc : caught sl ρ)
    (ht : ∀ d ∈ items, ∀ R : Bool → Prop, R (p d) → tt (inner sl ρ d) R) (he : ∀ d ∈ items, p d = true → ∀ R : Dt → Prop, R (f d) → te (inner sl ρ d) R) (hq : Q (.lst ((items.filter p).map f))) : dComp sl ti tt te ρ Q :=
  hi _ ⟨hl, hc, comp_filter p f ht he hq⟩
theorem dFor_of {ti : DTI} {g : DTG} {tb : DTS} {D : DEnds} {ρ : DEnv} (items : List Dt) (hi : ∀ R : List Dt → Prop, R items → ti ρ R) (W : Nat → DEnv → Prop) (h0 : W 0 ρ)
    (hs : ∀ (k : Nat) d ρ', items[k]? = some d → W k ρ' → g d ρ' fun ρ2 => tb { D with nx := W (k + 1), ct := W (k + 1), bk := D.nx } ρ2) (he : ∀ ρ', W items.length ρ' → D.nx ρ') : dFor ti g tb D ρ := hi _ ⟨W, h0, hs, he⟩
theorem ints_get {ns : List Int} {k : Nat} {d : Dt} (h : (ns.map Dt.int)[k]? = some d) : ∃ n, ns[k]? = some n ∧ d = .int n := by
  rw [List.getElem?_map] at h
  cases e : ns[k]? with
  | none => rw [e] at h; cases h
  | some n => rw [e] at h; cases h; exact ⟨n, rfl, rfl⟩
theorem caught_nil {ρ : DEnv} : caught [] ρ := fun _ h => (nomatch h)
end L2
namespace L2
theorem while_of {c : DTT} {tb : DTS} {D : DEnds} {ρ : DEnv} (W : Nat → DEnv → Prop) (m : Nat) (h0 : W m ρ) (h : ∀ m ρ, W m ρ → c ρ fun k => if k = true then tb { D with nx := fun ρ' => ∃ m', m' < m ∧ W m' ρ', ct := fun ρ' => ∃ m', m' < m ∧ W m' ρ', bk := D.nx } ρ else D.nx ρ) : dWhile c tb D ρ := ⟨W, ⟨m, h0⟩, h⟩
end L2

namespace L2
open PySem PySem.Spec PyProof.Rows PySem.SeqAt

section
variable {X : Cx} {a b c e : Expr} {es : List Expr} {ta tb te : DTE} {tl : DTA} {pos : Pos}
def downs (hi : Int) (n : Nat) : List Dt := (List.range n).map fun i => .int (hi - (i : Nat))
def diRng3 (tl : DTA) : DTI := fun ρ Q => tl ρ fun ds => match ds with
  | [.int i, .int j, .int k] => k = -1 ∧ (-(2 ^ 62) ≤ i ∧ i < 2 ^ 62 ∧ -(2 ^ 62) ≤ j ∧ j < 2 ^ 62) ∧ Q (downs i (i - j).toNat)
  | _ => False
theorem mt_bits : MtR X "int.bit_length" (fun x xs H Q => ∃ i, x = .int i ∧ xs = [] ∧ Q (.int (Builtin.Int.intBits i)) H) := by
  intro pins s σ H x xs v us Q I rx rs ⟨i, e, e2, q⟩
  subst e e2
  cases rs
  obtain ⟨t, rfl⟩ := rx
  exact call_int_bit_length ⟨.int _, H, I.tok _, ⟨_, rfl⟩, q⟩
def dBits (ta : DTE) : DTE := fun ρ Q => ta ρ fun d => match d with
  | .int i => Q (.int (Builtin.Int.intBits i))
  | _ => False
theorem de_bits {apos : Pos} (ha : DE X a ta) (hbase : attributeBase a "bit_length" X.env (eval a X.env) = eval a X.env := by rfl) (hline : (apos.endLine == pos.line) = true := by rfl) : DE X (.Call (.Attribute a "bit_length" apos) [] [] pos) (dBits ta) where
  mono := fun hq h => ha.mono (fun d h => by
    split at h
    · exact hq _ h
    · exact h.elim) h
  pe := (pe_bm0 PySem.F.plainAttrs_int PySem.F.slot_int_bit_length PySem.F.type_int_bit_length mt_bits ha.pe hbase hline).imp fun σ H Q ⟨B, F, O, ρ, R, h⟩ => ⟨B, F, O, ρ, R, ha.mono (fun d h v H1 s1 r1 => by
    split at h
    · rw [rp_int.mp r1]
      exact ⟨rfl, _, rfl, rfl, h _ H1 s1 (rp_int.mpr rfl)⟩
    · exact h.elim) h⟩

def FnVal (P : Program) (w : World) (K : PySem.W.Frag) (mg : Str → Option Value) (base : Heap) (k : Nat) (a : Addr) (sp : DSp) : Prop :=
  ∃ fd ps, FnOk P w K mg base CX0 k a fd ps (lSp K sp) ∧ Binds K fd ps [] ∧ PySem.W.keepIn K (.ref a) = true
theorem Pm.val {P : Program} {w : World} {K : PySem.W.Frag} {mg : Str → Option Value} {base : Heap} {k : Nat} {x : Str} {st : Stmt} {ps : List Str} {sp : DSp} (h : Pm P w K mg base k x st ps sp) : ∃ a, mg x = some (.ref a) ∧ FnVal P w K mg base k a sp := by
  obtain ⟨f, fd, F, G⟩ := h
  exact ⟨f, F.mg, fd, ps, G, F.bd, F.fn.kp⟩
def dCallV (P : Program) (w : World) (K : PySem.W.Frag) (mg : Str → Option Value) (base : Heap) (k : Nat) (tf : DTE) (tl : DTA) : DTE := fun ρ Q => tf ρ fun d => match d with
  | .fn a => PySem.W.keepIn K (.ref a) = true ∧ tl ρ fun ds => ∃ sp, MonoSp sp ∧ FnVal P w K mg base k a sp ∧ sp ds Q
  | _ => False
def lF (K : PySem.W.Frag) (t : DTA) : TE := fun σ H Q => ∃ B F O ρ, Rep K B F O H σ ρ ∧ t ρ fun ds => ∀ p H' vs, Same H H' → H' p = some (.lst vs) → p ∉ F ++ O → RpL K (mask (F ++ O) H') ds vs → Q (.ref p) H'
structure DF (X : Cx) (e : Expr) (t : DTA) : Prop where
  mono : ∀ {ρ Q Q'}, (∀ d, Q d → Q' d) → t ρ Q → t ρ Q'
  pe : PE X e (lF X.K t)
def dOf (t : DTA) : DTE := fun ρ Q => t ρ fun ds => Q (.lst ds)
theorem DF.de {t : DTA} (h : DF X e t) : DE X e (dOf t) where
  mono := fun hq z => h.mono (fun _ z => hq _ z) z
  pe := h.pe.imp fun σ H Q ⟨B, F, O, ρ, R, z⟩ => ⟨B, F, O, ρ, R, h.mono (fun ds z p H' vs s e n r => z (.ref p) H' s (rp_lstI ⟨p, vs, rfl, (by rw [mask_out n]; exact e), r⟩)) z⟩
def dLstF (tl : DTA) : DTA := fun ρ Q => tl ρ fun ds => ds.length ≤ sizeLine ∧ Q ds
theorem df_lst (h : DA X es tl) : DF X (.List es pos) (dLstF tl) where
  mono := fun hq z => h.mono (fun ds q => ⟨q.1, hq _ q.2⟩) z
  pe := (pe_lst h.pa).imp fun σ H Q ⟨B, F, O, ρ, R, q⟩ => ⟨B, F, O, ρ, R, h.mono (fun ds z vs H1 s1 r1 => ⟨by rw [r1.len]; exact z.1, fun p hp => by
    have np : p ∉ F ++ O := fun m => (R.same s1).th p m hp
    exact z.2 p _ vs (s1.trans (Same.upd hp)) upd_same np (r1.mono (Same.upd hp).mask)⟩) q⟩
def dSliceF (te : DTE) (tl th : DTO) : DTA := fun ρ Q => te ρ fun d => tl ρ fun lo => th ρ fun hi => match d with
  | .lst ds => Q (cutD ds lo hi)
  | _ => False
theorem df_slice {lo hi : Option Expr} {t1 t2 : DTO} {p2 : Pos} (he : DE X e te) (hl : DO X lo t1) (hh : DO X hi t2) : DF X (.Subscript e (.Slice lo hi none p2) pos) (dSliceF te t1 t2) where
  mono := fun hq z => he.mono (fun d z => hl.mono (fun l z => hh.mono (fun h z => by
    split at z
    · exact hq _ z
    · exact z.elim) z) z) z
  pe := (pe_slice sl_list he.pe hl.po hh.po).imp fun σ H Q ⟨B, F, O, ρ, R, z⟩ => ⟨B, F, O, ρ, R, he.mono (fun d z v H1 s1 r1 => ⟨B, F, O, ρ, R.same s1, hl.mono (fun l z H2 s2 => ⟨B, F, O, ρ, (R.same s1).same s2, hh.mono (fun h z H3 s3 => by
    split at z
    · obtain ⟨a, xs, rfl, hs, hr⟩ := rp_lstE ((r1.mono s2.mask).mono s3.mask)
      refine ⟨a, xs, rfl, mask_le.seq hs, fun p hp => ?_⟩
      have R3 := ((R.same s1).same s2).same s3
      have np : p ∉ F ++ O := fun m => R3.th p m hp
      exact z p _ _ (((s1.trans s2).trans s3).trans (Same.upd hp)) upd_same np (hr.cut.mono (Same.upd hp).mask)
    · exact z.elim) z⟩) z⟩) z⟩
def dCatF (t u : DTA) : DTA := fun ρ Q => t ρ fun xs => u ρ fun ys => xs.length + ys.length ≤ sizeLine ∧ Q (xs ++ ys)
theorem df_cat {t u : DTA} (ha : DF X a t) (hb : DF X b u) : DF X (.BinOp a .Add b pos) (dCatF t u) where
  mono := fun hq z => ha.mono (fun _ z => hb.mono (fun _ z => ⟨z.1, hq _ z.2⟩) z) z
  pe := (pe_op op_cat ha.pe hb.pe).imp fun σ H Q ⟨B, F, O, ρ, R, z⟩ => ⟨B, F, O, ρ, R, ha.mono (fun xs z p H1 vs s1 e1 n1 r1 => ⟨B, F, O, ρ, R.same s1, hb.mono (fun ys z p2 H2 ws s2 e2 n2 r2 => by
    refine ⟨p, p2, vs, ws, rfl, rfl, s2 _ _ e1, e2, by rw [r1.len, r2.len]; exact z.1, fun l hl => ?_⟩
    have np : l ∉ F ++ O := fun m => ((R.same s1).same s2).th l m hl
    exact z.2 l _ _ ((s1.trans s2).trans (Same.upd hl)) upd_same np (((r1.mono s2.mask).append r2).mono (Same.upd hl).mask)) z⟩) z⟩
end
end L2

namespace L2
open PySem PySem.Spec PyProof.Rows PySem.SeqAt
section
variable {X : Cx} {elt iter : Expr} {x : Str} {px : Pos} {ifs : List Expr} {scope : Scope} {pos : Pos} {N : List Str} {sl : List Nat} {wi : TI} {tt : TT} {te : TE}
def dSetC (i : Nat) (sl : List Nat) (ti : DTI) (tt : DTT) (te : DTE) : DTS := fun D ρ => dComp sl ti tt te ρ fun d => D.nx (ρ.set i (some (.is d)))
end

section
variable {prog : Program} {w : World} {A : Around} {E : Value → Shared → Prop} {s : Shared}
end
section
variable {X : Cx} {es : List Expr} {pos : Pos}
def dgLst (n : Nat) (gs : DTGs) : DTG := fun d ρ Q => match d with
  | .lst ds => ds.length = n ∧ gs ds ρ Q
  | _ => False
end
end L2
namespace L2
end L2
namespace L2
theorem flat_s {n : Nat} {x : PySem.Str} : Dt.flat n (.str x) = (PySem.PyData.str x).canLay0 := by cases n <;> rw [Dt.flat]
end L2

namespace L2
open PySem PySem.Spec PyProof.Rows PySem.SeqAt

def exN (a C : Addr) (h : Heap) : Prop := ∃ vs sl, h.get? a = some ⟨.ref C, none, .fields vs, sl⟩ ∧ vs[1]? = some .none
def exF (a C dx : Addr) (h : Heap) : Prop := ∃ vs sl, h.get? a = some ⟨.ref C, some dx, .fields vs, sl⟩ ∧ vs[1]? = some .none ∧ dx ≠ a
theorem exN_stay {a C : Addr} (h1 h2 : Heap) (x : exN a C h1) (k : ∀ o, h1.get? a = some o → h2.get? a = some o) : exN a C h2 := let ⟨vs, sl, e, r⟩ := x; ⟨vs, sl, k _ e, r⟩
theorem exF_stay {a C dx : Addr} (h1 h2 : Heap) (x : exF a C dx h1) (k : ∀ o, h1.get? a = some o → h2.get? a = some o) : exF a C dx h2 := let ⟨vs, sl, e, r⟩ := x; ⟨vs, sl, k _ e, r⟩
theorem exF.ex {a C dx : Addr} {h : Heap} (x : exF a C dx h) : exO a C dx h := let ⟨vs, sl, e, _, r⟩ := x; ⟨_, vs, e, rfl, rfl, rfl, r⟩

section
variable {X : Cx} {pins : List (Addr × Obj)} {σ : St} {H : Hp} {s : Shared} {h' : Heap} {a dx C U f fI : Addr} {φ ψ : Heap → Prop}
theorem Inv.put2 {od : HO} {t' : Nat} (I : Inv X pins σ H s) (Ha : H a = some (.ext φ)) (hd : s.heap.objs.size ≤ dx) (k : ∀ b u, b ≠ a → s.heap.get? b = some u → h'.get? b = some u) (ha : ∃ u, h'.get? a = some u)
    (n1 : ObjOk X.prog X.w (upd (upd H dx od) a (.ext ψ)) h' a (.ext ψ)) (n2 : ObjOk X.prog X.w (upd (upd H dx od) a (.ext ψ)) h' dx od) : Inv X pins σ (upd (upd H dx od) a (.ext ψ)) { s with heap := h', toks := t' } := by
  have nd : H dx = none := I.hok.fresh hd
  have na : a ≠ dx := ne_of_none Ha nd
  have keepH : ∀ b u, H b = some u → b ≠ a → upd (upd H dx od) a (.ext ψ) b = some u := fun b u e n => by rw [upd_ne n, upd_ne (ne_of_none e nd)]; exact e
  have nt : ∀ b u, H b = none → s.heap.get? b = some u → b ≠ a := fun b u n _ z => by rw [z, Ha] at n; cases n
  refine I.un ⟨fun b u e n _ _ => k b u (nt b u n e) e, fun b u e n _ _ => ⟨u.slots, k b u (nt b u n e) e⟩, fun b u e n _ => ?_, fun b u e _ => ?_, fun b xs e => keepH b _ e fun z => (by rw [z, Ha] at e; cases e), fun b o u e => keepH b _ e fun z => (by rw [z, Ha] at e; cases e), fun b ps e => ⟨#[], by rw [keepH b _ e fun z => by rw [z, Ha] at e; cases e]; simp⟩⟩ ?_
  · rw [upd_ne (nt b u n e), upd_ne (Nat.ne_of_lt (Nat.lt_of_lt_of_le (Heap.lt_size e) hd))]; exact n
  · by_cases z : b = a
    · rw [z]; exact ha
    · exact ⟨u, k b u z e⟩
  · intro b u e
    by_cases z : b = a
    · subst z; rw [upd_same] at e; cases e; exact n1
    · rw [upd_ne z] at e
      by_cases z' : b = dx
      · subst z'; rw [upd_same] at e; cases e; exact n2
      · rw [upd_ne z'] at e
        refine (I.hok b u e).stay (fun c v hc q => k c v ?_ q) (fun c q => keepH c _ q fun w => by rw [w, Ha] at q; cases q) fun c xs q => keepH c _ q fun w => by rw [w, Ha] at q; cases q
        rcases hc with rfl | hc
        · exact z
        · rintro rfl; rw [Ha] at hc; cases hc
theorem Inv.again (I : Inv X pins σ H s) (Ha : H a = some (.ext φ)) (n : ψ s.heap) (st : ∀ h1 h2 : Heap, ψ h1 → (∀ o, h1.get? a = some o → h2.get? a = some o) → ψ h2) : Inv X pins σ (upd H a (.ext ψ)) s := by
  obtain ⟨_, th, _⟩ := I.hok a _ Ha
  exact I.write (t' := s.toks) (h' := s.heap) (by rw [Ha]; exact True.intro) (.inl rfl) (fun _ _ _ e => e) th ⟨n, th, st⟩

def sX1 (C : Addr) (ta tv : TE) (f : Str) : TS := fun D σ H => tv σ H fun y H1 => ta σ H1 fun x H2 => ∃ a, x = .ref a ∧ H2 a = some (.ext (exN a C)) ∧ ∀ dx, H2 dx = none → dx ≠ a → D.nx σ (upd (upd H2 dx (.xd [(f, y)])) a (.ext (exF a C dx)))
theorem ps_x1 {o value : Expr} {f : Str} {pos pos' : Pos} {ta tv : TE} (c : XC X.K C U) (ht : PySem.W.takerIn X.K C f = some none) (ha : PE X o ta) (hv : PE X value tv) (hs : swapsWith value (some (.Attribute o f pos')) pos.line X.env = pure false := by rfl) :
    PS X (.Assign [.Attribute o f pos'] value pos) (sX1 C ta tv f) := by
  intro pins s σ H D I h
  refine plainObj_wpAny_Assign_Attribute (thn (hv pins s σ H _ I h) fun u s1 ⟨y, H1, I1, ry, q⟩ => thn (ha pins s1 σ H1 _ I1 q) fun ov s2 ⟨x, H2, I2, rx, a, ex, ea, q2⟩ => ?_) hs
  subst ex
  obtain rfl : ov = Value.ref a := rx
  obtain ⟨⟨vs, sl, hx, h1⟩, _, _⟩ := I2.hok a _ ea
  have nx : s2.heap.objs.size ≠ a := Nat.ne_of_gt (Heap.lt_size hx)
  refine xset0 I2.kIn c ht hx fun h' tk' x1 x2 x3 => ⟨σ, _, I2.put2 (dx := s2.heap.objs.size) (od := .xd [(f, y)]) (ψ := exF a C s2.heap.objs.size) (t' := tk') ea (Nat.le_refl _) x3 ⟨_, x1⟩ ⟨⟨vs, sl, x1, h1, nx⟩, ⟨_, x1⟩, exF_stay⟩ ⟨_, x2, fun g => ?_⟩, q2 _ (I2.hok.fresh (Nat.le_refl _)) nx⟩
  show RelO (List.lookup g [(f, y)]) (if g = f then some u else none)
  by_cases q : g = f
  · rw [if_pos q, show List.lookup g [(f, y)] = some y by simp [List.lookup, beq_iff_eq.mpr q]]; exact ry
  · rw [if_neg q, show List.lookup g [(f, y)] = none by simp [List.lookup, beq_eq_false_iff_ne.mpr q]]; trivial
def spIni (C : Addr) (ns : List Str) : Sp := fun vs H Q _ => ∃ a ys, vs = .ref a :: ys ∧ ys.length = ns.length ∧ H a = some (.ext (exN a C)) ∧ ∀ dx, H dx = none → dx ≠ a → Q .non (upd (upd H dx (.xd (ns.zip ys))) a (.ext (exF a C dx)))
structure XR (P : Program) (w : World) (K : PySem.W.Frag) (mg : Str → Option Value) (base : Heap) (k : Nat) (c : Str) (ns : List Str) (C U fI : Addr) (fd : FuncData) (ps : List Str) : Prop where
  at_ : PySem.W.nsIn K mainGlobals c = some (some (.ref C))
  gl : mg c = some (.ref C)
  kp : PySem.W.keepIn K (.ref C) = true
  xc : XC K C U
  hi : PySem.W.findIn K (.ref C) "__init__" = some (some (.ref fI))
  hf : PySem.W.typeIn K (.ref fI) = some (.type "function")
  bd : Binds K fd ps []
  ln : ps.length = ns.length + 1
  ok : FnOk P w K mg base CX0 k fI fd ps (spIni C ns)

def tXMake (C : Addr) (ns : List Str) (t : TA) : TE := fun σ H Q => t σ H fun vs H1 => vs.length = ns.length ∧ vs.length ≤ 1000 ∧ ∀ a dx, H1 a = none → H1 dx = none → dx ≠ a → Q (.ref a) (upd (upd (upd H1 a (.ext (exN a C))) dx (.xd (ns.zip vs))) a (.ext (exF a C dx)))
theorem pe_xmake {k : Nat} {c : Str} {ns ps : List Str} {fd : FuncData} {e : Expr} {es : List Expr} {p pos : Pos} {t : TA} (G : XR X.prog X.w X.K X.mg X.base k c ns C U fI fd ps) (hr : Room (k + 1) X.A) (hg : Gl X c) (ha : PA X (e :: es) t)
    (hdb : (c == ("__debug__" : Str)) = false := by decide) (he : starEach (e :: es) X.env = (false, eval e X.env) :: starEach es X.env := by rfl) (hpl : (backTo pos (starEach es X.env)).any (·.1) = false := by rfl) :
    PE X (.Call (.Name c p) (e :: es) [] pos) (tXMake C ns t) := by
  intro pins s σ H Q I h
  refine wpAny_Call_Name_kw (ld_glob I hg G.gl ?_ hdb)
  refine PySem.W.callWith_K (h₀ := X.base) I.ok.mod.kin G.kp (thn (ha pos pins s σ H _ I h) fun us s1 ⟨vs, H1, I1, r, l1, l2, q⟩ => ⟨I1.kIn, ?_⟩) he hpl
  have nz : H1 (s1.heap.objs.size + 1) = none := I1.hok.fresh (Nat.le_succ _)
  have lu : us.length = vs.length := r.length.symm
  have I2 : Inv X pins σ (upd H1 (s1.heap.objs.size + 1) (.ext (exN (s1.heap.objs.size + 1) C))) { s1 with heap := withExc s1.heap C us } :=
    I1.laid (t' := s1.toks) (fun _ _ => withExc_keep) (Nat.le_succ _) ⟨⟨_, _, withExc_at, rfl⟩, ⟨_, withExc_at⟩, exN_stay⟩
  refine make_exc I1.kIn G.xc G.hi G.hf (by rw [List.nil_append, lu]; exact Nat.le_of_lt (small1000 l2)) ?_
  have hb := G.bd { s1 with heap := withExc s1.heap C us } (.ref (s1.heap.objs.size + 1) :: us) I2.kIn (by rw [List.append_nil, List.length_cons, lu, l1, G.ln])
  rw [List.append_nil] at hb
  refine wpAny_call (codeAny_mono (G.ok.run _ X.stack { s1 with heap := withExc s1.heap C us } _ ⟨.ref (s1.heap.objs.size + 1) :: us, []⟩ _ (.ref (s1.heap.objs.size + 1) :: vs) (fun v H2 => v = .non ∧ Q (.ref (s1.heap.objs.size + 1)) H2) E0 (hr.make C us []) (I2.env0.make C us []) hb (.cons rfl r)
    ⟨_, vs, rfl, l1, upd_same, fun dx h1 h2 => ⟨rfl, ?_⟩⟩) fun r' s' hq => ?_)
  · rw [upd_ne h2] at h1
    exact q _ dx nz h1 h2
  · cases r' with
    | error e => exact False.elim hq
    | ok fl =>
      cases fl with
      | ret u =>
        obtain ⟨v, H', I3, ru, e1, q3⟩ := I2.after hq
        rw [e1] at ru
        exact ⟨ru, .ref _, H', I3, rfl, q3⟩
      | next => exact False.elim hq
      | brk => exact False.elim hq
      | cont => exact False.elim hq
def tRaise (X : Cx) (C : Addr) (te : TE) : TS := fun _ σ H => te σ H fun v H2 => ∃ a dx, v = .ref a ∧ H2 a = some (.ext (exF a C dx)) ∧ Wish X σ a (upd H2 a (.ext (exO a C dx)))
theorem ps_raise {e : Expr} {pos : Pos} {te : TE} (c : XC X.K C U) (hc : X.calm = true) (he : PE X e te) : PS X (.Raise (some e) none pos) (tRaise X C te) := by
  intro pins s σ H D I h
  rw [arm_exec_Raise]
  have key : wpAny (model X.prog X.w) X.A (eval e X.env) (fun v s₁ => X.K.In s₁.heap ∧ ∃ b od vs sl, v = .ref b ∧ s₁.heap.get? b = some ⟨.ref C, od, .fields vs, sl⟩ ∧ vs[1]? = some .none ∧ X.xe (.ref b) s₁) X.xe s := by
    refine thn (he pins s σ H _ I h) fun u s1 ⟨v, H2, I2, rv, a, dx, e1, e2, wi⟩ => ⟨I2.kIn, ?_⟩
    subst e1
    obtain rfl : u = Value.ref a := rv
    obtain ⟨⟨vs, sl, hx, h1, nd⟩, _, _⟩ := I2.hok a _ e2
    refine ⟨a, _, vs, sl, rfl, hx, h1, wi pins s1 (I2.again e2 (exF.ex ⟨vs, sl, hx, h1, nd⟩) exO_stay) ⟨_, vs, hx, rfl, .inl h1⟩ ⟨C, dx, upd_same⟩⟩
  refine wpAny_bind (wpAny_standAt (raise_exc c (I.ok.hd hc) ?_))
  first
    | exact wpAny_bind (thn key fun v s₃ h₃ => wpAny_bind (wpAny_standAt (wpAny_pure h₃)))
    | exact key
end
end L2

namespace L2
open PySem PySem.Spec PyProof.Rows PySem.SeqAt

structure DEndsX where
  d : DEnds
  ex : DEnv → Dt → Prop
abbrev DTSX := DEndsX → DEnv → Prop
abbrev DTEX := DEnv → (Dt → Prop) → (Dt → Prop) → Prop
structure DEndsX.le (D D' : DEndsX) : Prop where
  d : DEnds.le D.d D'.d
  ex : ∀ ρ x, D.ex ρ x → D'.ex ρ x
def lDX (X : Cx) (B : Hp) (F : List Addr) (D : Ends) : DEndsX := ⟨lD X.K B F D, fun ρ' x => ∀ O' σ' a H', Rep X.K B F O' H' σ' ρ' → Rp X.K (mask (F ++ O') H') x (.ref a) → Wish X σ' a H'⟩
def lSX (X : Cx) (t : DTSX) : TS := fun D σ H => ∃ B F O ρ, Rep X.K B F O H σ ρ ∧ t (lDX X B F D) ρ
def lEX (X : Cx) (t : DTEX) : TE := fun σ H Q => ∃ B F O ρ, Rep X.K B F O H σ ρ ∧ t ρ (fun d => ∀ v H', Same H H' → Rp X.K (mask (F ++ O) H') d v → Q v H') (fun x => ∀ a H', Same H H' → Rp X.K (mask (F ++ O) H') x (.ref a) → Wish X σ a H')
structure DSX (X : Cx) (st : Stmt) (t : DTSX) : Prop where
  mono : ∀ {ρ D D'}, DEndsX.le D D' → t D ρ → t D' ρ
  ps : PS X st (lSX X t)
structure DSsX (X : Cx) (st : List Stmt) (t : DTSX) : Prop where
  mono : ∀ {ρ D D'}, DEndsX.le D D' → t D ρ → t D' ρ
  ps : PSs X st (lSX X t)
structure DEX (X : Cx) (e : Expr) (t : DTEX) : Prop where
  mono : ∀ {ρ Q Q' E E'}, (∀ d, Q d → Q' d) → (∀ d, E d → E' d) → t ρ Q E → t ρ Q' E'
  pe : PE X e (lEX X t)

section
variable {X : Cx} {a b c e : Expr} {es : List Expr} {st : Stmt} {sts sa sb : List Stmt} {t u : DTSX} {ts us : DTS} {te : DTEX} {tA : DTT} {tl : DTA} {pos : Pos}
theorem PS.nox {st : Stmt} {t : TS} (h : PS X.nox st t) : PS X st t := fun pins s σ H D I hw =>
  wpAny_mono (h pins s σ H D (I.wish _) hw) (fun _ _ q => q.unwish) fun _ _ z => False.elim z
def dQuiet (t : DTS) : DTSX := fun D ρ => t D.d ρ
theorem dsx_of (h : DS X.nox st ts) : DSX X st (dQuiet ts) where
  mono := fun hd z => h.mono hd.d z
  ps := (PS.nox h.ps).imp fun D σ H ⟨B, F, O, ρ, R, z⟩ => ⟨B, F, O, ρ, R, z⟩
def dNextX : DTSX := fun D ρ => D.d.nx ρ
def dSeqX (t u : DTSX) : DTSX := fun D ρ => t ⟨{ D.d with nx := u D }, D.ex⟩ ρ
theorem dssx_nil : DSsX X [] dNextX := ⟨fun hd h => hd.d.nx _ h, pss_nil.imp fun D σ H ⟨B, F, O, ρ, R, h⟩ => h O σ H R⟩
theorem dssx_cons (h1 : DSX X st t) (h2 : DSsX X sts u) : DSsX X (st :: sts) (dSeqX t u) where
  mono := fun {ρ D D'} hd h => h1.mono (D := ⟨{ D.d with nx := u D }, D.ex⟩) ⟨⟨fun ρ q => h2.mono hd q, hd.d.rt, hd.d.bk, hd.d.ct⟩, hd.ex⟩ h
  ps := (pss_cons h1.ps h2.ps).imp fun D σ H ⟨B, F, O, ρ, R, h⟩ => ⟨B, F, O, ρ, R, h1.mono (D := ⟨{ (lDX X B F D).d with nx := u (lDX X B F D) }, (lDX X B F D).ex⟩) ⟨⟨fun ρ' q O' σ' H' R' => ⟨B, F, O', ρ', R', q⟩, fun _ q => q, fun _ q => q, fun _ q => q⟩, fun _ _ q => q⟩ h⟩
theorem dssx_one (h1 : DSX X st t) : DSsX X [st] t := ⟨h1.mono, pss_one h1.ps⟩
def dIfX (c : DTT) (t u : DTSX) : DTSX := fun D ρ => c ρ fun k => if k = true then t D ρ else u D ρ
theorem dsx_if (hc : DT X c tA) (ha : DSsX X sa t) (hb : DSsX X sb u) : DSX X (.If c sa sb pos) (dIfX tA t u) where
  mono := fun hd h => hc.mono (fun k h => by
    cases k with
    | true => exact ha.mono hd h
    | false => exact hb.mono hd h) h
  ps := (ps_if hc.pt ha.ps hb.ps).imp fun D σ H ⟨B, F, O, ρ, R, h⟩ => ⟨B, F, O, ρ, R, hc.mono (fun k h H1 s1 => by
    cases k with
    | true => exact ⟨B, F, O, ρ, R.same s1, h⟩
    | false => exact ⟨B, F, O, ρ, R.same s1, h⟩) h⟩

def dDropX (te : DTEX) : DTSX := fun D ρ => te ρ (fun _ => D.d.nx ρ) (D.ex ρ)
theorem dsx_expr (he : DEX X e te) (hs : swapsWith e none pos.line X.env = pure false := by rfl) : DSX X (.Expr e pos) (dDropX te) where
  mono := fun hd h => he.mono (fun _ h => hd.d.nx _ h) (fun _ h => hd.ex _ _ h) h
  ps := (ps_expr he.pe hs).imp fun D σ H ⟨B, F, O, ρ, R, h⟩ => ⟨B, F, O, ρ, R, he.mono (fun d q v H1 s1 _ => q O σ H1 (R.same s1)) (fun x q a H1 s1 r1 => q O σ a H1 (R.same s1) r1) h⟩
def dRetX (te : DTEX) : DTSX := fun D ρ => te ρ D.d.rt (D.ex ρ)
theorem dsx_ret (he : DEX X e te) : DSX X (.Return (some e) pos) (dRetX te) where
  mono := fun hd h => he.mono (fun _ h => hd.d.rt _ h) (fun _ h => hd.ex _ _ h) h
  ps := (ps_ret he.pe).imp fun D σ H ⟨B, F, O, ρ, R, h⟩ => ⟨B, F, O, ρ, R, he.mono (fun d q v H1 s1 r1 => q v H1 (R.base.trans s1) (r1.mono mask_app)) (fun x q a H1 s1 r1 => q O σ a H1 (R.same s1) r1) h⟩
def dAsgX (te : DTEX) (g : DTG) : DTSX := fun D ρ => te ρ (fun d => g d ρ D.d.nx) (D.ex ρ)
theorem dsx_set (i : Nat) {x : Str} {pos' : Pos} (hN : X.N.Nodup) (he : DEX X e te) (hi : X.N[i]? = some x := by rfl) (hx : Loc X.env.scope x := by first | exact Or.inl rfl | exact Or.inr rfl) (hs : swapsWith e (some (.Name x pos')) pos.line X.env = pure false := by rfl)
    (hf : X.fn x = true ∨ X.env.scope.names.lookup x = some .local := by first | exact .inl rfl | exact .inr rfl | assumption) : DSX X (.Assign [.Name x pos'] e pos) (dAsgX te (dgName i)) where
  mono := fun hd h => he.mono (fun _ h => hd.d.nx _ h) (fun _ h => hd.ex _ _ h) h
  ps := (ps_set hN hi hx he.pe hs hf).imp fun D σ H ⟨B, F, O, ρ, R, h⟩ => ⟨B, F, O, ρ, R, he.mono (fun d q v H1 s1 r1 => q O _ H1 ((R.same s1).set i r1)) (fun x q a H1 s1 r1 => q O σ a H1 (R.same s1) r1) h⟩
abbrev DSpX := List Dt → (Dt → Prop) → (Dt → Prop) → Prop
def lSpX (K : PySem.W.Frag) (sp : DSpX) : Sp := fun vs H Q E => ∃ F ds, (∀ a ∈ F, H a ≠ none) ∧ RpL K (mask F H) ds vs ∧ sp ds (fun d => ∀ v H', Same H H' → Rp K (mask F H') d v → Q v H') (fun x => ∀ a H', Same H H' → Rp K (mask F H') x (.ref a) → E (.ref a) none H')
def MonoX (sp : DSpX) : Prop := ∀ ds Q Q' E E', (∀ d, Q d → Q' d) → (∀ d, E d → E' d) → sp ds Q E → sp ds Q' E'
def dCallX (sp : DSpX) (tl : DTA) : DTEX := fun ρ Q E => tl ρ fun ds => sp ds Q E
def PmX (P : Program) (w : World) (K : PySem.W.Frag) (mg : Str → Option Value) (base : Heap) (k : Nat) (x : Str) (st : Stmt) (ps : List Str) (sp : DSpX) : Prop :=
  ∃ f fd, FnT K mg x st ps f fd ∧ FnOk P w K mg base (CXe P w) k f fd ps (lSpX K sp)
theorem dex_call {k : Nat} {ps : List Str} {sp : DSpX} {x : Str} {stx : Stmt} {p : Pos} (m : MonoX sp) (G : PmX X.prog X.w X.K X.mg X.base k x stx ps sp) (hr : Room k X.A) (hg : Gl X x)
    (ha : DA X (e :: es) tl) (hdb : (x == ("__debug__" : Str)) = false := by decide)
    (he : starEach (e :: es) X.env = (false, eval e X.env) :: starEach es X.env := by rfl) (hpl : (backTo pos (starEach es X.env)).any (·.1) = false := by rfl) : DEX X (.Call (.Name x p) (e :: es) [] pos) (dCallX sp tl) := by
  obtain ⟨f, fd, F, G⟩ := G
  refine ⟨fun hq hx h => ha.mono (fun ds h => m ds _ _ _ _ hq hx h) h, (pe_callX G hr hg F.mg F.fn.kp F.bd ha.pa hdb he hpl).imp fun σ H Q ⟨B, F, O, ρ, R, h⟩ => ⟨B, F, O, ρ, R, ha.mono (fun ds q vs H1 s1 r1 => ⟨F ++ O, ds, (R.same s1).th, r1, m ds _ _ _ _ (fun d z v H2 s2 r2 => z v H2 (s1.trans s2) r2) (fun x z a H2 s2 r2 => ⟨a, rfl, z a H2 (s1.trans s2) r2⟩) q⟩) h⟩⟩
theorem PmX.pm {P : Program} {w : World} {K : PySem.W.Frag} {mg : Str → Option Value} {base : Heap} {k : Nat} {x : Str} {st : Stmt} {ps : List Str} {sp : DSpX} {sp' : DSp} (G : PmX P w K mg base k x st ps sp) (m : MonoX sp)
    (h : ∀ ds Q, sp' ds Q → sp ds Q fun _ => False) : Pm P w K mg base k x st ps sp' := by
  obtain ⟨f, fd, F, G⟩ := G
  exact ⟨f, fd, F, G.calm fun vs H Q E ⟨F', ds, h1, r, q⟩ => ⟨F', ds, h1, r, m ds _ _ _ _ (fun _ z => z) (fun _ z => z.elim) (h ds _ q)⟩⟩
def dRaise (c : Str) (ns : List Str) (tl : DTA) : DTSX := fun D ρ => tl ρ fun ds => ds.length = ns.length ∧ ds.length ≤ 1000 ∧ D.ex ρ (.exc c ns ds)
theorem dsx_raise {k : Nat} {c : Str} {ns ps : List Str} {fd : FuncData} {C U fI : Addr} {p cp : Pos} (G : XR X.prog X.w X.K X.mg X.base k c ns C U fI fd ps) (hr : Room (k + 1) X.A) (hc : X.calm = true) (hg : Gl X c) (ha : DA X (e :: es) tl)
    (hdb : (c == ("__debug__" : Str)) = false := by decide) (he : starEach (e :: es) X.env = (false, eval e X.env) :: starEach es X.env := by rfl) (hpl : (backTo cp (starEach es X.env)).any (·.1) = false := by rfl) :
    DSX X (.Raise (some (.Call (.Name c p) (e :: es) [] cp)) none pos) (dRaise c ns tl) where
  mono := fun hd h => ha.mono (fun ds ⟨h1, h2, h3⟩ => ⟨h1, h2, hd.ex _ _ h3⟩) h
  ps := (ps_raise G.xc hc (pe_xmake G hr hg ha.pa hdb he hpl)).imp fun D σ H ⟨B, F, O, ρ, R, h⟩ => ⟨B, F, O, ρ, R, ha.mono (fun ds ⟨h1, h2, h3⟩ vs H1 s1 r1 => by
    refine ⟨by rw [r1.len]; exact h1, by rw [r1.len]; exact h2, fun a dx na nd ne => ⟨a, dx, rfl, upd_same, ?_⟩⟩
    have R1 := R.same s1
    have oa : a ∉ F ++ O := fun z => R1.th a z na
    have od : dx ∉ F ++ O := fun z => R1.th dx z nd
    have s2 : Same H1 (upd (upd (upd (upd H1 a (.ext (exN a C))) dx (.xd (ns.zip vs))) a (.ext (exF a C dx))) a (.ext (exO a C dx))) := fun b o q => by
      rw [upd_ne (ne_of_none q na), upd_ne (ne_of_none q na), upd_ne (ne_of_none q nd), upd_ne (ne_of_none q na)]; exact q
    refine h3 O σ a _ (R1.same s2) (rp_exc.mpr ⟨a, C, U, dx, vs, rfl, G.at_, G.xc, ?_, ?_, h1.symm, r1.mono s2.mask⟩)
    · rw [mask_out oa]; exact upd_same
    · rw [mask_out od, upd_ne ne, upd_ne ne]; exact upd_same) h⟩
end

section
variable {P : Program} {w : World} {K : PySem.W.Frag} {mg : Str → Option Value} {base : Heap}
theorem Fun.okX {x qual : Str} {st : Stmt} {f : Addr} {fd : FuncData} {N ps : List Str} {k : Nat} {sp : DSpX} (F : Fun K x qual st f fd) (S : FnScope N ps (defScope st)) (len : ∀ ds Q E, sp ds Q E → ds.length = ps.length)
    (hbody : ∀ (cdv : Value) (A : Around) (outer : List Env) (s : Shared) (H : Hp) (E : XK), Room k (A.deeper (envOfC qual (defScope st) s.heap.objs.size f cdv)) →
      ∃ t, DSsX (cxOf (CXe P w) P w K mg base N qual (defScope st) f cdv A outer s H E) (defBody st) t ∧ ∀ ds Q Ex, sp ds Q Ex → t ⟨{ nx := fun _ => Q .non, rt := Q }, fun _ => Ex⟩ (dstart N ds)) : FnOk P w K mg base (CXe P w) (k + 1) f fd ps (lSpX K sp) := by
  obtain ⟨oc, od, kV, doc, pm, an, cdv, ct, osl, rfl, lk, hcd⟩ := F.ex
  refine fn_of lk hcd S (fun vs H Q E ⟨F, ds, _, r, h⟩ => by rw [r.len]; exact len _ _ _ h) fun A outer s H vs Q E hr ⟨F', ds, hF, r, h⟩ => ?_
  obtain ⟨t, T, q⟩ := hbody cdv A outer s H E hr
  refine ⟨_, T.ps, H, F', [], dstart N ds, rep_start hF r, T.mono (D := ⟨{ nx := fun _ => ∀ v H', Same H H' → Rp K (mask F' H') .non v → Q v H', rt := fun d => ∀ v H', Same H H' → Rp K (mask F' H') d v → Q v H' }, fun _ x => ∀ a H', Same H H' → Rp K (mask F' H') x (.ref a) → E (.ref a) none H'⟩) ⟨⟨?_, ?_, fun _ z => False.elim z, fun _ z => False.elim z⟩, ?_⟩ (q ds _ _ h)⟩
  · exact fun ρ z O' σ' H' R' => z .non H' R'.base (rp_non.mpr rfl)
  · exact fun d z v H' s' r' => z v H' s' r'
  · exact fun ρ x z O' σ' a H' R' r' => wish_of fun H2 s2 => z a H2 (R'.base.trans s2) ((r'.mono mask_app).mono s2.mask)
end
def specX {τ : Type} (args : τ → List Dt) (pre : τ → Prop) (good : τ → Prop) (post : τ → Dt → Prop) (exc : τ → Dt) : DSpX := fun ds Q E => ∃ p, ds = args p ∧ pre p ∧ (good p → ∀ d, post p d → Q d) ∧ (¬ good p → E (exc p))
theorem specX_mono {τ : Type} {args : τ → List Dt} {pre good : τ → Prop} {post : τ → Dt → Prop} {exc : τ → Dt} : MonoX (specX args pre good post exc) := fun _ _ _ _ _ hq hx ⟨p, e, h, q, x⟩ => ⟨p, e, h, fun g d z => hq _ (q g d z), fun g => hx _ (x g)⟩
theorem PmX.good {P : Program} {w : World} {K : PySem.W.Frag} {mg : Str → Option Value} {base : Heap} {k : Nat} {x : Str} {st : Stmt} {ps : List Str} {τ : Type} {args : τ → List Dt} {pre good : τ → Prop} {post : τ → Dt → Prop} {exc : τ → Dt}
    (G : PmX P w K mg base k x st ps (specX args pre good post exc)) : Pm P w K mg base k x st ps (spec args (fun p => pre p ∧ good p) post) := G.pm specX_mono fun ds Q ⟨p, e, h, q⟩ => ⟨p, e, h.1, fun _ d z => q d z, fun n => absurd h.2 n⟩
theorem specX_of {τ : Type} {args : τ → List Dt} {pre good : τ → Prop} {post : τ → Dt → Prop} {exc : τ → Dt} {Q E : Dt → Prop} (p : τ) (h : pre p) (k : good p → ∀ d, post p d → Q d) (x : ¬ good p → E (exc p)) : specX args pre good post exc (args p) Q E := ⟨p, rfl, h, k, x⟩
end L2

namespace L2
open PySem PySem.Spec PyProof.Rows PySem.SeqAt

section
variable {X : Cx} {pins : List (Addr × Obj)} {σ : St} {H : Hp} {s : Shared}
theorem Inv.forget {j : Nat} {n : Str} {m : Str → Option Value} {u : Option Value} {h' : Heap} (I : Inv X pins σ H s) (hN : X.N.Nodup) (hj : X.N[j]? = some n) (hl : ∀ (i : Nat) (x : Str) (v : V), X.N[i]? = some x → σ[i]? = some (some v) → Vis X.env.scope x → ∃ u, RelV v u ∧ Look X.env s.heap m x u)
    (hn : h'.Ns X.env.locals (fun x => if x = n then u else m x)) (sb : Heap.SameBut X.env.locals s.heap h') : Inv X pins (σ.set j none) H { s with heap := h' } := by
  have ne : ∀ b o, X.s₀.heap.get? b = some o → b ≠ X.env.locals := fun b o e => Nat.ne_of_lt (Nat.lt_of_lt_of_le (Heap.lt_size e) I.ok.above)
  refine ⟨I.ok, I.os, I.bare, ⟨fun b o e n hb hx => (sb.2 b (ne b o e)).trans (I.base.keep b o e n hb hx), fun b o e n hb hx => ?_, I.base.free, fun b o e hx => ?_, I.base.tups, I.base.frzs, I.base.tbls⟩, ⟨_, hn, fun i y v e1 e2 e3 => ?_⟩, fun y c e => ?_, I.free, I.freeC, fun p hp => ?_, fun b ob e => ?_, by simpa using I.len⟩
  · obtain ⟨sl, e1⟩ := I.base.slot b o e n hb hx
    exact ⟨sl, (sb.2 b (ne b o e)).trans e1⟩
  · obtain ⟨o', e1⟩ := I.base.there b o e hx
    exact ⟨o', (sb.2 b (ne b o e)).trans e1⟩
  · have hij : i ≠ j := fun z => by
      subst z
      by_cases hk : i < σ.length
      · rw [List.getElem?_set_self hk] at e2; cases e2
      · rw [List.getElem?_eq_none (by simpa using hk)] at e2; cases e2
    rw [List.getElem?_set_ne (Ne.symm hij)] at e2
    obtain ⟨u', r', q⟩ := hl i y v e1 e2 e3
    refine ⟨u', r', ?_⟩
    rcases q with ⟨k, e⟩ | ⟨k, c, e, z⟩
    · have : y ≠ n := fun e => hij (nodup_ix hN e1 (e ▸ hj))
      exact .inl ⟨k, by simp [this, e]⟩
    · exact .inr ⟨k, c, e, z.sameBut sb (I.cne y c e)⟩
  · obtain ⟨w', z⟩ := I.cell y c e
    exact ⟨w', z.sameBut sb (I.cne y c e)⟩
  · obtain ⟨e, n, ne, nf, d⟩ := I.pin p hp
    exact ⟨(sb.2 p.1 ne).trans e, n, ne, nf, d⟩
  · refine (I.hok b ob e).stay (fun c w' hc q => (sb.2 c ?_).trans q) (fun _ q => q) fun _ _ q => q
    rintro rfl
    rcases hc with hc | hc
    · rw [← hc, I.free] at e; cases e
    · rw [I.free] at hc; cases hc
theorem unbind_ok {M : Model} {A : Around} {E : Value → Shared → Prop} {j : Nat} {n : Str} {pos : Pos} {Q : Unit → Shared → Prop} (I : Inv X pins σ H s) (hN : X.N.Nodup) (hj : X.N[j]? = some n) (hk : X.env.scope.names.lookup n = some .local)
    (h : ∀ s', Inv X pins (σ.set j none) H s' → Q () s') : wpAny M A (bindName X.env n .none >>= fun _ => unbindBehindTheSuite X.env n pos) Q E s := by
  refine wpAny_bind (wpAny_bindName (store_ok (v := .non) I hN hj (.inl hk) rfl (fun s1 I1 => ?_) (.inr hk)))
  obtain ⟨m, hn, hl⟩ := id I1.loc
  have hjσ : j < σ.length := by rw [I.len]; exact (List.getElem?_eq_some_iff.mp hj).1
  obtain ⟨u, r, q⟩ := hl j n .non hj (List.getElem?_set_self hjσ) (.inl hk)
  have hm : m n = some u := by
    rcases q with ⟨_, e⟩ | ⟨k, _⟩
    · exact e
    · rcases k with k | k
      · have k : X.env.scope.names.lookup n = some .cell := k
        rw [hk] at k; cases k
      · have k : X.env.scope.names.lookup n = some .free := k
        rw [hk] at k; cases k
  have hp : (X.env.scope.kind == .class || (X.env.scope.kind == .module && X.env.locals != X.env.globals)) = false := by rw [I.ok.kind]; rfl
  unfold unbindBehindTheSuite
  refine wpAny_onRaise (wpAny_mono (wpAny_unbindName_local (E := fun _ _ => False) hk hn hm hp fun h' u' hn' sb => ?_) (fun _ _ z => z) fun _ _ z => z.elim)
  refine h _ ?_
  have := I1.forget hN hj hl hn' sb
  rwa [List.set_set] at this

abbrev Cx.body (X : Cx) (W : Value → Shared → Prop) (pn : List (Addr × Obj)) : Cx := { X with xe := W, pn := pn }
abbrev Cx.suite (X : Cx) (a : Addr) : Cx := { X with A := X.A.mark (some (.ref a)), calm := false, xe := fun _ _ => False }
theorem Inv.body (I : Inv X pins σ H s) (W : Value → Shared → Prop) : Inv (X.body W (X.pn ++ pins)) [] σ H s :=
  ⟨⟨I.ok.mod, I.ok.kind, I.ok.glob, I.ok.blt, I.ok.above, I.ok.inj, I.ok.has, I.ok.cab, I.ok.hd, I.ok.frames, I.ok.stk, I.ok.exf, I.ok.bs, I.ok.bsz, I.ok.noex, I.ok.exfs, I.ok.funs, I.ok.frf⟩, I.os, I.bare, I.base, I.loc, I.cell, I.free, I.freeC, fun p hp => I.pin p (by simpa using hp), I.hok, I.len⟩
theorem Inv.unbody {W : Value → Shared → Prop} {pins' : List (Addr × Obj)} (I : Inv (X.body W (X.pn ++ pins)) pins' σ H s) : Inv X pins σ H s :=
  ⟨⟨I.ok.mod, I.ok.kind, I.ok.glob, I.ok.blt, I.ok.above, I.ok.inj, I.ok.has, I.ok.cab, I.ok.hd, I.ok.frames, I.ok.stk, I.ok.exf, I.ok.bs, I.ok.bsz, I.ok.noex, I.ok.exfs, I.ok.funs, I.ok.frf⟩, I.os, I.bare, I.base, I.loc, I.cell, I.free, I.freeC, fun p hp => I.pin p (List.mem_append_left _ hp), I.hok, I.len⟩
theorem Inv.suite (I : Inv X pins σ H s) (a : Addr) : Inv (X.suite a) pins σ H s :=
  ⟨⟨I.ok.mod, I.ok.kind, I.ok.glob, I.ok.blt, I.ok.above, I.ok.inj, I.ok.has, I.ok.cab, fun z => (by cases z), I.ok.frames, I.ok.stk, I.ok.exf, I.ok.bs, I.ok.bsz, I.ok.noex, I.ok.exfs, I.ok.funs, I.ok.frf⟩, I.os, I.bare, I.base, I.loc, I.cell, I.free, I.freeC, I.pin, I.hok, I.len⟩
theorem Inv.unsuite {a : Addr} (I : Inv (X.suite a) pins σ H s) (hd : X.calm = true → X.A.handled = none) : Inv X pins σ H s :=
  ⟨⟨I.ok.mod, I.ok.kind, I.ok.glob, I.ok.blt, I.ok.above, I.ok.inj, I.ok.has, I.ok.cab, hd, I.ok.frames, I.ok.stk, I.ok.exf, I.ok.bs, I.ok.bsz, I.ok.noex, I.ok.exfs, I.ok.funs, I.ok.frf⟩, I.os, I.bare, I.base, I.loc, I.cell, I.free, I.freeC, I.pin, I.hok, I.len⟩
end

structure XU (K : PySem.W.Frag) (mg : Str → Option Value) (c : Str) (U : Addr) : Prop where
  gl : mg c = some (.ref U)
  obj : ∃ nm q N bs hd sn sub ab col dd k0 k1 k2 k3 k5 id, K.lookup U = some (excClassObj nm q U N bs bmV hd sn sub ab col dd k0 k1 k2 k3 k5 id)
theorem xmatch {M : Model} {A : Around} {E : Value → Shared → Prop} {s : Shared} {K : PySem.W.Frag} {mg : Str → Option Value} {C U e : Addr} {oe : Obj} {c : Str} {Q : Bool → Shared → Prop} (X : K.In s.heap) (x : XC K C U) (u : XU K mg c U) (he : s.heap.get? e = some oe) (hc : oe.cls = .ref C) (q : Q true s) :
    wpAny M A (excMatches (.ref e) (.ref U)) Q E s := by
  obtain ⟨nm, q1, N, bs, sn, sub, ab, col, dd, k0, k1, k2, k3, k5, lk⟩ := x.obj
  obtain ⟨nm', q1', N', bs', hd', sn', sub', ab', col', dd', k0', k1', k2', k3', k5', id', lk'⟩ := u.obj
  obtain ⟨h, g, d, t, os⟩ := s
  have oC : h.get? C = some _ := X _ _ lk
  have oU : h.get? U = some _ := X _ _ lk'
  have c1 : (Value.ref U :: bmV).contains (.type "BaseException") = true := by simp
  have c2 : (Value.ref C :: (.ref U :: bmV)).contains (.ref U) = true := by simp
  have nt := tc_notTuple
  unfold excMatches
  repeat (first | (with_reducible refine wpAny_loadPart_at he ?_; rw [hc]) | with_reducible refine wpAny_loadPart_at oU ?_ | (with_reducible refine wpAny_isSubtype_exc oU ?_; rw [c1]) | (with_reducible refine wpAny_isSubtype_exc oC ?_; rw [c2]) | wp_step)
  exact q

theorem XC.uniq {K : PySem.W.Frag} {C U U' : Addr} (x : XC K C U) (y : XC K C U') : U = U' := by
  obtain ⟨nm, q1, N, bs, sn, sub, ab, col, dd, k0, k1, k2, k3, k5, lk⟩ := x.obj
  obtain ⟨nm', q1', N', bs', sn', sub', ab', col', dd', k0', k1', k2', k3', k5', lk'⟩ := y.obj
  rw [lk] at lk'
  injection lk' with e
  injection e with _ _ e _
  injection e with e
  injection e with _ _ e
  injection e with _ e
  injection e with e _
  injection e
def Under (K : PySem.W.Frag) (mg : Str → Option Value) (c T : Str) : Prop := ∀ C U, PySem.W.nsIn K mainGlobals c = some (some (.ref C)) → XC K C U → mg T = some (.ref U)
theorem Rep.unset {K : PySem.W.Frag} {B : Hp} {F O : List Addr} {H : Hp} {σ : St} {ρ : DEnv} (r : Rep K B F O H σ ρ) (j : Nat) : Rep K B F O H (σ.set j none) (ρ.set j none) := by
  have back : ∀ (i : Nat) (x : En), (ρ.set j none)[i]? = some (some x) → i ≠ j ∧ ρ[i]? = some (some x) := fun i x e => by
    by_cases hi : i = j
    · subst hi
      by_cases hk : i < ρ.length
      · rw [List.getElem?_set_self hk] at e; cases e
      · rw [List.getElem?_eq_none (by simpa using hk)] at e; cases e
    · rw [List.getElem?_set_ne (Ne.symm hi)] at e; exact ⟨hi, e⟩
  refine ⟨by simpa using r.len, r.base, r.fr, r.th, fun i d e => ?_, fun i ds e => ?_, fun i k ds es a h1 h2 h3 h4 => ?_⟩
  · obtain ⟨n, e⟩ := back i _ e
    rw [List.getElem?_set_ne (Ne.symm n)]; exact r.is i d e
  · obtain ⟨n, e⟩ := back i _ e
    rw [List.getElem?_set_ne (Ne.symm n)]; exact r.own i ds e
  · obtain ⟨n1, e1⟩ := back i _ h1
    obtain ⟨n2, e2⟩ := back k _ h2
    rw [List.getElem?_set_ne (Ne.symm n1)] at h3
    rw [List.getElem?_set_ne (Ne.symm n2)] at h4
    exact r.inj i k ds es a e1 e2 h3 h4
theorem calmed {X : Cx} {pins : List (Addr × Obj)} {σ : St} {H : Hp} {s : Shared} {a : Addr} {M : Model} {A : Around} {E : Value → Shared → Prop} {Q : Unit → Shared → Prop} (I : Inv X pins σ H s) (fl : Flight s.heap H a) (q : ∀ s', Inv X pins σ H s' → Q () s') : wpAny M A (setFlight (.ref a) none) Q E s := by
  obtain ⟨o, vs, e1, e2, e3⟩ := fl
  unfold setFlight
  rcases e3 with e3 | ⟨T, e3, e4, e5⟩
  · refine wpAny_bind (wpAny_field e1 e2 e3 ?_)
    rw [if_neg (by simp)]
    exact wpAny_pure (q s I)
  · refine wpAny_bind (wpAny_field e1 e2 e3 ?_)
    rw [if_pos (by simp)]
    obtain ⟨⟨oT, ts, t1, t2, t3⟩, _, _⟩ := I.hok T _ e5
    have tz : 3 < ts.size := (Array.getElem?_eq_some_iff.mp t3).1
    have d' := Obj.data_mapFields t2 (·.setIfInBounds 3 Value.none)
    have t' := Heap.get?_update_self (Obj.mapFields (·.setIfInBounds 3 Value.none)) t1 (Obj.isFreed_of_fields d')
    refine wpAny_setField t1 t2 tz (q _ ?_)
    have J := I.write (x := T) (e := T) (o := .ext (tbO T)) (t' := s.toks) (h' := s.heap.update T (Obj.mapFields (·.setIfInBounds 3 Value.none))) (by rw [e5]; exact True.intro) (.inl rfl) (fun b u n e => (Heap.get?_update_other _ _ (Ne.symm n)).trans e) ⟨_, t'⟩ ⟨⟨_, _, t', d', by simp [tz]⟩, ⟨_, t'⟩, tbO_stay⟩
    have eH : upd H T (.ext (tbO T)) = H := by
      funext b
      by_cases z : b = T
      · rw [z, upd_same, e5]
      · rw [upd_ne z]
    rw [eH] at J
    exact J

section
variable {X : Cx} {tb : DTSX} {ts : DTS} {pos tp hp : Pos} {T n : Str} {U : Addr} {body suite : List Stmt} {b₀ : Stmt}
def xcatch (K : PySem.W.Frag) (mg : Str → Option Value) (T : Str) (j : Nat) (ts : DTS) (D : DEnds) (ρ : DEnv) (x : Dt) : Prop := match x with
  | .exc c ns ds => Under K mg c T ∧ ts { nx := fun ρ2 => D.nx (ρ2.set j none), rt := fun _ => False } (ρ.set j (some (.is (.exc c ns ds))))
  | _ => False
def dTry (K : PySem.W.Frag) (mg : Str → Option Value) (T : Str) (j : Nat) (tb : DTSX) (ts : DTS) : DTSX := fun D ρ => tb ⟨D.d, xcatch K mg T j ts D.d⟩ ρ
theorem dsx_try (j : Nat) (u : XU X.K X.mg T U) (hN : X.N.Nodup) (hb : ∀ W pn, DSsX (X.body W pn) body tb) (hs : ∀ a, DSs (X.suite a) (b₀ :: suite) ts) (hst : X.stack = X.env :: X.outer := by rfl) (hfr : X.env.frame = some X.env.locals := by rfl) (hj : X.N[j]? = some n := by rfl) (hk : X.env.scope.names.lookup n = some .local := by rfl) (hg : Gl X T := by rfl)
    (hd : (T == ("__debug__" : Str)) = false := by decide) : DSX X (.Try body [.ExceptHandler (some (.Name T tp)) (some n) (b₀ :: suite) hp] [] [] pos) (dTry X.K X.mg T j tb ts) where
  mono := fun {ρ D D'} hd h => (hb X.xe X.pn).mono (D := ⟨D.d, xcatch X.K X.mg T j ts D.d⟩) ⟨hd.d, fun ρ' x z => by
    revert z
    dsimp only
    unfold xcatch
    split
    · exact fun z => ⟨z.1, (hs 0).mono (D := { nx := fun ρ2 => D.d.nx (ρ2.set j none), rt := fun _ => False }) ⟨fun _ q => hd.d.nx _ q, fun _ q => q, fun _ q => q, fun _ q => q⟩ z.2⟩
    · exact fun z => z⟩ h
  ps := by
    rintro pins s σ H D I ⟨B, F, O, ρ, R, h⟩
    refine wpAny_Try_except ?_
    refine wpAny_mono ((hb (fun e s₁ => wpAny (model X.prog X.w) X.A (noteFrame e X.env) (fun _ s₂ => wpAny (model X.prog X.w) X.A (setFlight e none) (fun _ s₃ => wpAny (model X.prog X.w) X.A (handleBy e X.env [.ExceptHandler (some (.Name T tp)) (some n) (b₀ :: suite) hp]) (SP X pins D) X.xe s₃) X.xe s₂) X.xe s₁) (X.pn ++ pins)).ps [] s σ H D (I.body _) ⟨B, F, O, ρ, R, (hb X.xe X.pn).mono (D := ⟨(lDX X B F D).d, xcatch X.K X.mg T j ts (lDX X B F D).d⟩) ⟨⟨fun _ q => q, fun _ q => q, fun _ q => q, fun _ q => q⟩, fun ρ' x z => ?_⟩ h⟩) (fun f s1 q => ?_) fun e s1 q => q
    · revert z
      dsimp only
      unfold xcatch
      split
      · rintro ⟨un, z⟩ O' σ' a H' R' rp pins' s1 I1 fl ex
        have I2 : Inv X pins σ' H' s1 := I1.unbody
        obtain ⟨a', C, U', dx, vs, ea, h1, xc, h2, h3, h4, h5⟩ := rp_exc.mp rp
        obtain rfl : a = a' := V.ref.inj ea
        refine lands I2 hst hfr fl ex fun H2 s2 sm I3 fl2 => ?_
        refine wpAny_handleBy_cons (codeAny_handlers_test (ld_glob (X := X.suite a) (E := fun x s₁ => _) (I3.suite a) hg u.gl ?_ hd)) (by intro q; cases q)
        have eU : U' = U := by
          have := (un C U' h1 xc).symm.trans u.gl
          injection this with this
          injection this
        subst eU
        have h2' := I3.hok a _ (sm _ _ (mask_le _ _ h2))
        obtain ⟨⟨oe, _, k1, k2, _⟩, _, _⟩ := h2'
        refine xmatch I3.kIn xc u k1 k2 ?_
        refine codeAny_handlers_suite_as (calmed I3 fl2 fun s3 I4 => ?_)
        refine store_ok (X := X.suite a) (v := .ref a) (I4.suite a) hN hj (.inl hk) rfl (fun s4 I5 => ?_) (.inr hk)
        have R2 := (R'.same sm).set j (rp.mono sm.mask)
        refine wpAny_mono ((hs a).ps pins s4 _ H2 { nx := fun σ5 H5 => D.nx (σ5.set j none) H5, rt := fun _ _ => False } I5 ⟨B, F, O', _, R2, (hs a).mono (D := { nx := fun ρ2 => (lDX X B F D).d.nx (ρ2.set j none), rt := fun _ => False }) ⟨fun ρ5 q O5 σ5 H5 R5 => q O5 _ H5 (R5.unset j), fun _ q => q.elim, fun _ q => q.elim, fun _ q => q.elim⟩ z⟩) (fun f s5 q => ?_) fun _ _ z => z.elim
        cases f with
        | next =>
          obtain ⟨σ5, H5, I6, q⟩ := q
          exact unbind_ok (I6.unsuite I.ok.hd) hN hj hk fun s6 I7 => ⟨_, H5, I7, q⟩
        | brk => obtain ⟨_, _, _, q⟩ := q; exact q.elim
        | cont => obtain ⟨_, _, _, q⟩ := q; exact q.elim
        | ret u => obtain ⟨_, _, _, _, _, q⟩ := q; exact q.elim
      · exact fun z => z.elim
    · cases f with
      | next =>
        obtain ⟨σ', H', I', q⟩ := q
        exact wpAny_execs_nil ⟨σ', H', I'.unbody, q⟩
      | brk => obtain ⟨σ', H', I', q⟩ := q; exact ⟨σ', H', I'.unbody, q⟩
      | cont => obtain ⟨σ', H', I', q⟩ := q; exact ⟨σ', H', I'.unbody, q⟩
      | ret u => obtain ⟨v, σ', H', I', r, q⟩ := q; exact ⟨v, σ', H', I'.unbody, r, q⟩
end
end L2

namespace L2
open PySem PySem.Spec PyProof.Rows PySem.SeqAt

def SubX (K : PySem.W.Frag) (c : Str) (A : Addr) (b : Bool) : Prop := ∀ C, PySem.W.nsIn K mainGlobals c = some (some (.ref C)) → PySem.W.kitOne K (.ref C) (.ref A) = some b
def SubXs (K : PySem.W.Frag) (c : Str) (As : List Addr) (b : Bool) : Prop := ∀ C, PySem.W.nsIn K mainGlobals c = some (some (.ref C)) → PySem.W.kitAny K (.ref C) (As.map .ref) = some b
def NoAt (K : PySem.W.Frag) (c f : Str) : Prop := ∀ C, PySem.W.nsIn K mainGlobals c = some (some (.ref C)) → PySem.W.findIn K (.ref C) f = some none
theorem SubXs.nil {K : PySem.W.Frag} {c : Str} : SubXs K c [] false := fun _ _ => rfl
theorem SubXs.cons {K : PySem.W.Frag} {c : Str} {A : Addr} {As : List Addr} (h : SubX K c A false) (r : SubXs K c As false) : SubXs K c (A :: As) false := fun C e => by
  show PySem.W.kitAny K (.ref C) (.ref A :: As.map .ref) = some false
  unfold PySem.W.kitAny
  rw [h C e]
  exact r C e
theorem refs_of : ∀ {As : List Addr} {its : List Value}, Vals (As.map V.ref) its → its = As.map .ref
  | [], _, rv => by cases rv; rfl
  | A :: As, _, rv => by
    cases rv with
    | cons z1 z2 => rw [refs_of z2]; rw [show _ = Value.ref A from z1]; rfl
theorem XC.inst {X : Cx} {pins : List (Addr × Obj)} {σ : St} {H : Hp} {s : Shared} {a C dx : Addr} {fs : List (Str × V)} (I : Inv X pins σ H s) (h1 : H a = some (.ext (exO a C dx))) (h2 : H dx = some (.xd fs)) :
    ∃ (ox od : Obj) (mA : Str → Option Value), PySem.W.InstAt s.heap a ox C (some od) ∧ (∀ name, PySem.W.lookIn name od = some (mA name)) ∧ ∀ f, RelO (fs.lookup f) (mA f) := by
  obtain ⟨⟨o, vs, e1, e2, e3, e4, _⟩, _, _⟩ := I.hok a _ h1
  obtain ⟨mA, n, r⟩ := (show ObjOk X.prog X.w H s.heap dx (.xd fs) from I.hok dx _ h2)
  obtain ⟨od, e5, e6⟩ := lookIn_ns n
  exact ⟨o, od, mA, ⟨e1, e2, by unfold PySem.W.notCls; rw [e4], by rw [e3]; exact e5⟩, e6, r⟩
section
variable {X : Cx} {a b c e : Expr} {es : List Expr} {ta tb te : DTE} {tl : DTA} {pos : Pos}
theorem call_isx : CallR X (.builtin "isinstance") (fun xs H Q => ∃ c ns ds x A v, xs = [x, .ref A] ∧ Rp X.K H (.exc c ns ds) x ∧ SubX X.K c A v ∧ Q (.bl v) H) := by
  intro pins s σ H xs us Q I r ⟨c, ns, ds, x, A, v, e, rp, sx, q⟩
  subst e
  obtain ⟨u, u2, rfl, r1, r2⟩ := vals2 r
  cases (show u2 = .ref A from r2)
  obtain ⟨a, C, U, dx, vs, rfl, h1, xc, h2, h3, _, _⟩ := rp_exc.mp rp
  cases (show u = .ref a from r1)
  obtain ⟨ox, od, mA, J, _, _⟩ := XC.inst I h2 h3
  exact PySem.W.kia_one (xkit xc) I.kIn ⟨ox, od, J⟩ (sx C h1) (fun z => nomatch z) fun tk => ⟨.bl _, H, I.tok tk, rfl, q⟩
theorem call_isxs : CallR X (.builtin "isinstance") (fun xs H Q => ∃ c ns ds x t As v, xs = [x, .ref t] ∧ Rp X.K H (.exc c ns ds) x ∧ SqT X.K H t (As.map .ref) ∧ SubXs X.K c As v ∧ Q (.bl v) H) := by
  intro pins s σ H xs us Q I r ⟨c, ns, ds, x, t, As, v, e, rp, ht, sx, q⟩
  subst e
  obtain ⟨u, u2, rfl, r1, r2⟩ := vals2 r
  cases (show u2 = .ref t from r2)
  obtain ⟨a, C, U, dx, vs, rfl, h1, xc, h2, h3, _, _⟩ := rp_exc.mp rp
  cases (show u = .ref a from r1)
  obtain ⟨ox, od, mA, J, _, _⟩ := XC.inst I h2 h3
  obtain ⟨its, rv, ⟨o, k1, k2, n, k3⟩, _⟩ := I.tuple ht
  have ei : its = As.map .ref := refs_of rv
  subst ei
  obtain ⟨oc, odd, dt, osl⟩ := o
  cases k2
  cases k3
  exact PySem.W.kia_tup (xkit xc) I.kIn ⟨ox, od, J⟩ k1 (by simpa using sx C h1) (fun z => nomatch z) fun tk => ⟨.bl _, H, I.tok tk, rfl, q⟩

def dIsx (K : PySem.W.Frag) : DL := fun ds Q => match ds with
  | [.exc c _ _, .fn A] => ∃ v, SubX K c A v ∧ Q (.bl v)
  | _ => False
theorem sem_isx {K : PySem.W.Frag} : SemL K (fun xs H Q => ∃ c ns ds x A v, xs = [x, .ref A] ∧ Rp K H (.exc c ns ds) x ∧ SubX K c A v ∧ Q (.bl v) H) (dIsx K) where
  mono := fun hq h => by
    unfold dIsx at h ⊢
    split at h
    · exact let ⟨v, h1, h2⟩ := h; ⟨v, h1, hq _ h2⟩
    · exact h.elim
  ok := fun O H ds xs Q _ r h => by
    unfold dIsx at h
    split at h
    · obtain ⟨v, h1, h2⟩ := h
      obtain ⟨x, xr, rfl, r1, r2⟩ := rpl_cons.mp r
      obtain ⟨y, yr, rfl, r3, r4⟩ := rpl_cons.mp r2
      rw [rpl_nil.mp r4, rp_fn.mp r3]
      exact ⟨_, _, _, x, _, v, rfl, r1.mono mask_le, h1, h2 _ H (Same.refl H) (rp_bl.mpr rfl)⟩
    · exact h.elim
def dIsxs (K : PySem.W.Frag) : DL := fun ds Q => match ds with
  | [.exc c _ _, .tup es] => ∃ As v, es = As.map .fn ∧ SubXs K c As v ∧ Q (.bl v)
  | _ => False
theorem fns_of {K : PySem.W.Frag} {H : Hp} : ∀ {As : List Addr} {vs : List V}, RpL K H (As.map Dt.fn) vs → vs = As.map .ref
  | [], _, h => rpl_nil.mp h
  | A :: As, _, h => by
    obtain ⟨v, r, rfl, h1, h2⟩ := rpl_cons.mp h
    rw [fns_of h2, rp_fn.mp h1]; rfl
theorem sem_isxs {K : PySem.W.Frag} : SemL K (fun xs H Q => ∃ c ns ds x t As v, xs = [x, .ref t] ∧ Rp K H (.exc c ns ds) x ∧ SqT K H t (As.map .ref) ∧ SubXs K c As v ∧ Q (.bl v) H) (dIsxs K) where
  mono := fun hq h => by
    unfold dIsxs at h ⊢
    split at h
    · exact let ⟨As, v, h0, h1, h2⟩ := h; ⟨As, v, h0, h1, hq _ h2⟩
    · exact h.elim
  ok := fun O H ds xs Q _ r h => by
    unfold dIsxs at h
    split at h
    · obtain ⟨As, v, rfl, h1, h2⟩ := h
      obtain ⟨x, xr, rfl, r1, r2⟩ := rpl_cons.mp r
      obtain ⟨y, yr, rfl, r3, r4⟩ := rpl_cons.mp r2
      obtain ⟨t, ys, rfl, q1, q2⟩ := rp_tup.mp r3
      rw [rpl_nil.mp r4]
      rw [fns_of q2] at q1
      exact ⟨_, _, _, x, t, As, v, rfl, r1.mono mask_le, mask_le.seqT q1, h1, h2 _ H (Same.refl H) (rp_bl.mpr rfl)⟩
    · exact h.elim
theorem de_isx {p : Pos} (hm : X.mg "isinstance" = none) (ha : DA X [a, b] tl) (hg : Gl X "isinstance" := by rfl) (hv : bootBuiltins "isinstance" = some (.builtin "isinstance") := by rfl) (he : starEach [a, b] X.env = (false, eval a X.env) :: starEach [b] X.env := by rfl)
    (hpl : (backTo pos (starEach [b] X.env)).any (·.1) = false := by rfl) : DE X (.Call (.Name "isinstance" p) [a, b] [] pos) (dCB (dIsx X.K) tl) := de_cb call_isx sem_isx hg hm hv ha (he := he) (hpl := hpl)
theorem de_isxs {p : Pos} (hm : X.mg "isinstance" = none) (ha : DA X [a, b] tl) (hg : Gl X "isinstance" := by rfl) (hv : bootBuiltins "isinstance" = some (.builtin "isinstance") := by rfl) (he : starEach [a, b] X.env = (false, eval a X.env) :: starEach [b] X.env := by rfl)
    (hpl : (backTo pos (starEach [b] X.env)).any (·.1) = false := by rfl) : DE X (.Call (.Name "isinstance" p) [a, b] [] pos) (dCB (dIsxs X.K) tl) := de_cb call_isxs sem_isxs hg hm hv ha (he := he) (hpl := hpl)
theorem de_class {x : Str} {A : Addr} {pos : Pos} (hm : X.mg x = some (.ref A)) (hg : Gl X x := by rfl) (hd : (x == ("__debug__" : Str)) = false := by decide) : DE X (.Name x pos) (dC (.fn A)) := de_glob (v := .ref A) hg hm rfl (fun _ => rp_fn.mpr rfl) hd

theorem XC.value {K : PySem.W.Frag} {C U : Addr} (c : XC K C U) : PySem.W.kitOne K (.ref C) (.type "ValueError") = some true := by
  unfold PySem.W.kitOne
  rw [if_neg (by simp)]
  show (if PySem.W.kitMeta "ValueError" = true then PySem.W.mroIn K C (.type "ValueError") else none) = some true
  rw [if_pos (by decide +kernel), c.sub]
  simp
theorem call_isv : CallR X (.builtin "isinstance") (fun xs H Q => ∃ c ns ds x, xs = [x, .ty "ValueError"] ∧ Rp X.K H (.exc c ns ds) x ∧ Q (.bl true) H) := by
  intro pins s σ H xs us Q I r ⟨c, ns, ds, x, e, rp, q⟩
  subst e
  obtain ⟨u, u2, rfl, r1, r2⟩ := vals2 r
  cases (show u2 = .type "ValueError" from r2)
  obtain ⟨a, C, U, dx, vs, rfl, h1, xc, h2, h3, _, _⟩ := rp_exc.mp rp
  cases (show u = .ref a from r1)
  obtain ⟨ox, od, mA, J, _, _⟩ := XC.inst I h2 h3
  exact PySem.W.kia_one (xkit xc) I.kIn ⟨ox, od, J⟩ xc.value (fun z => nomatch z) fun tk => ⟨.bl _, H, I.tok tk, rfl, q⟩
def dIsv (ta : DTE) : DTE := fun ρ Q => ta ρ fun d => match d with
  | .exc _ _ _ => Q (.bl true)
  | _ => False
theorem de_isv {p p2 : Pos} (hm : X.mg "isinstance" = none) (hmT : X.mg "ValueError" = none) (ha : DE X a ta) (hg : Gl X "isinstance" := by rfl) (hgT : Gl X "ValueError" := by rfl) (hv : bootBuiltins "isinstance" = some (.builtin "isinstance") := by rfl)
    (hvT : bootBuiltins "ValueError" = some (.type "ValueError") := by rfl)
    (hs1 : starEach [a, .Name "ValueError" p2] X.env = (false, eval a X.env) :: starEach [.Name "ValueError" p2] X.env := by rfl) (hs2 : starEach [.Name "ValueError" p2] X.env = (false, eval (.Name "ValueError" p2) X.env) :: starEach [] X.env := by rfl)
    (hpl : (backTo pos (starEach [.Name "ValueError" p2] X.env)).any (·.1) = false := by rfl) : DE X (.Call (.Name "isinstance" p) [a, .Name "ValueError" p2] [] pos) (dIsv ta) where
  mono := fun hq h => ha.mono (fun d h => by
    split at h
    · exact hq _ h
    · exact h.elim) h
  pe := (pe_callB call_isv hg hm hv (pa_cons ha.pe (pa_cons (pe_bltn (v := .ty "ValueError") hgT hmT hvT rfl (by decide) (by decide)) pa_nil hs2) hs1) (he := hs1) (hpl := hpl)).imp fun σ H Q ⟨B, F, O, ρ, R, h⟩ =>
    ⟨B, F, O, ρ, R, ha.mono (fun d h v H1 s1 r1 => by
      split at h
      · exact ⟨_, _, _, v, rfl, r1.mono mask_le, h _ H1 s1 (rp_bl.mpr rfl)⟩
      · exact h.elim) h⟩

def tXfld (K : PySem.W.Frag) (ta : TE) (f : Str) : TE := fun σ H Q => ta σ H fun x H1 => ∃ a C U dx fs v, x = .ref a ∧ XC K C U ∧ PySem.W.findIn K (.ref C) f = some none ∧ H1 a = some (.ext (exO a C dx)) ∧ H1 dx = some (.xd fs) ∧ fs.lookup f = some v ∧ Q v H1
theorem pe_xfld {f : Str} {ta : TE} (he : PE X e ta) (hb : attributeBase e f X.env (eval e X.env) = eval e X.env := by rfl) : PE X (.Attribute e f pos) (tXfld X.K ta f) := by
  intro pins s σ H Q I h
  refine attr_of hb (thn (he pins s σ H _ I h) fun u s1 ⟨x, H1, I1, rx, a, C, U, dx, fs, v, ex, xc, nf, h1, h2, l, q⟩ => ?_)
  subst ex
  obtain rfl : u = Value.ref a := rx
  obtain ⟨ox, od, mA, J, lk, r⟩ := XC.inst I1 h1 h2
  obtain ⟨cd, hc, _, hd⟩ := xc.cls
  have rf := r f
  rw [l] at rf
  obtain ⟨y, e1, e2⟩ := RelO.some_of rf
  exact xget I1.kIn xc J (PySem.W.findObj_own (by unfold PySem.W.hasDictIn; rw [hc]; exact hd) nf rfl (by rw [lk, e1])) (handed_of e2) ⟨v, H1, I1.tok _, e2, q⟩
theorem zip_get {K : PySem.W.Frag} {H : Hp} {f : Str} {d : Dt} : ∀ {ns : List Str} {ds : List Dt} {vs : List V}, RpL K H ds vs → (ns.zip ds).lookup f = some d → ∃ v, (ns.zip vs).lookup f = some v ∧ Rp K H d v
  | [], _, _, _, h => by simp at h
  | _ :: _, [], _, _, h => by simp at h
  | n :: ns, x :: ds, _, r, h => by
    obtain ⟨v, vr, rfl, r1, r2⟩ := rpl_cons.mp r
    rw [List.zip_cons_cons] at h ⊢
    by_cases q : f = n
    · have hb : (f == n) = true := beq_iff_eq.mpr q
      simp only [List.lookup, hb] at h ⊢
      cases h; exact ⟨v, rfl, r1⟩
    · have hb : (f == n) = false := beq_eq_false_iff_ne.mpr q
      simp only [List.lookup, hb] at h ⊢
      exact zip_get r2 h
def dXfld (K : PySem.W.Frag) (te : DTE) (f : Str) : DTE := fun ρ Q => te ρ fun d => match d with
  | .exc c ns ds => NoAt K c f ∧ ∃ v, (ns.zip ds).lookup f = some v ∧ Q v
  | _ => False
theorem de_xfld {f : Str} (h : DE X e te) (hb : attributeBase e f X.env (eval e X.env) = eval e X.env := by rfl) : DE X (.Attribute e f pos) (dXfld X.K te f) where
  mono := fun hq z => h.mono (fun d z => by
    split at z
    · exact let ⟨a, v, b, c⟩ := z; ⟨a, v, b, hq _ c⟩
    · exact z.elim) z
  pe := (pe_xfld h.pe hb).imp fun σ H Q ⟨B, F, O, ρ, R, z⟩ => ⟨B, F, O, ρ, R, h.mono (fun d z v H1 s1 r1 => by
    split at z
    · obtain ⟨na, y, ly, q⟩ := z
      obtain ⟨a, C, U, dx, vs, rfl, h1, xc, h2, h3, _, h5⟩ := rp_exc.mp r1
      obtain ⟨v, lv, rv⟩ := zip_get h5 ly
      exact ⟨a, C, U, dx, _, v, rfl, xc, na C h1, mask_le _ _ h2, mask_le _ _ h3, lv, q v H1 s1 rv⟩
    · exact z.elim) z⟩
def dCalm (t : DTSX) : DTS := fun D ρ => t ⟨D, fun _ _ => False⟩ ρ
theorem ds_calm {st : Stmt} {t : DTSX} (h : DSX X st t) : DS X st (dCalm t) where
  mono := fun {ρ D D'} hd z => h.mono (D := ⟨D, fun _ _ => False⟩) ⟨hd, fun _ _ q => q⟩ z
  ps := h.ps.imp fun D σ H ⟨B, F, O, ρ, R, z⟩ => ⟨B, F, O, ρ, R, h.mono (D := ⟨lD X.K B F D, fun _ _ => False⟩) ⟨⟨fun _ q => q, fun _ q => q, fun _ q => q, fun _ q => q⟩, fun _ _ q => q.elim⟩ z⟩
end
end L2

namespace L2
open PySem PySem.Spec PyProof.Rows PySem.SeqAt

structure XRT (K : PySem.W.Frag) (mg : Str → Option Value) (c : Str) (ns : List Str) (qual : Str) (st : Stmt) (C U fI : Addr) (fd : FuncData) (ps : List Str) : Prop where
  at_ : PySem.W.nsIn K mainGlobals c = some (some (.ref C))
  gl : mg c = some (.ref C)
  kp : PySem.W.keepIn K (.ref C) = true
  xc : XC K C U
  hi : PySem.W.findIn K (.ref C) "__init__" = some (some (.ref fI))
  hf : PySem.W.typeIn K (.ref fI) = some (.type "function")
  bd : Binds K fd ps []
  ln : ps.length = ns.length + 1
  fn : Fun K "__init__" qual st fI fd
  tk : ∀ f ∈ ns, PySem.W.takerIn K C f = some none
theorem XRT.mk1 {P : Program} {w : World} {K : PySem.W.Frag} {mg : Str → Option Value} {base : Heap} {k : Nat} {c qual : Str} {ns : List Str} {st : Stmt} {C U fI : Addr} {fd : FuncData} {ps : List Str} (R : XRT K mg c ns qual st C U fI fd ps)
    (h : FnOk P w K mg base CX0 k fI fd ps (spIni C ns)) : XR P w K mg base k c ns C U fI fd ps := ⟨R.at_, R.gl, R.kp, R.xc, R.hi, R.hf, R.bd, R.ln, h⟩
section
variable {K : PySem.W.Frag} {mg : Str → Option Value} {c T f : Str} {C U A : Addr} {cd : ClassData}
theorem SubX.self (h : PySem.W.nsIn K mainGlobals c = some (some (.ref C))) : SubX K c C true := fun C' e => by
  rw [h] at e; cases e
  unfold PySem.W.kitOne
  rw [if_pos (by simp)]
theorem SubX.no (h : PySem.W.nsIn K mainGlobals c = some (some (.ref C))) (x : XC K C U) (z : PySem.W.clsIn K A = some cd) (t : PySem.W.typeIn K (.ref A) = some (.type "type")) (m : PySem.W.mroIn K C (.ref A) = some false) : SubX K c A false := fun C' e => by
  rw [h] at e; cases e
  have ne : C ≠ A := fun q => by
    subst q
    rw [x.sub] at m
    simp at m
  unfold PySem.W.kitOne
  rw [if_neg (by simp [ne])]
  show (if ((PySem.W.clsIn K A).isSome && PySem.W.typeIn K (.ref A) == some (.type "type")) = true then PySem.W.mroIn K C (.ref A) else none) = some false
  rw [if_pos (by rw [z, t]; simp), m]
theorem Under.mk (h : PySem.W.nsIn K mainGlobals c = some (some (.ref C))) (x : XC K C U) (m : mg T = some (.ref U)) : Under K mg c T := fun C' U' e y => by
  rw [h] at e; cases e
  rw [x.uniq y] at m
  exact m
theorem NoAt.mk (h : PySem.W.nsIn K mainGlobals c = some (some (.ref C))) (n : PySem.W.findIn K (.ref C) f = some none) : NoAt K c f := fun C' e => by
  rw [h] at e; cases e
  exact n
end
end L2

namespace L2
open PySem PySem.Spec PyProof.Rows PySem.SeqAt

theorem mask_updIn {O : List Addr} {H : Hp} {a : Addr} {o : HO} (h : a ∈ O) : mask O (upd H a o) = mask O H := by
  funext b
  by_cases q : b ∈ O
  · rw [mask_in q, mask_in q]
  · rw [mask_out q, mask_out q, upd_ne (a := a) (fun z => q (by rw [z]; exact h))]
theorem mask_new {F O : List Addr} {H : Hp} {p : Addr} {o : HO} (h : H p = none) : mask (F ++ (p :: O)) (upd H p o) = mask (F ++ O) H := by
  funext b
  by_cases e : b = p
  · subst e
    rw [mask_in (List.mem_append_right _ List.mem_cons_self)]
    by_cases q : b ∈ F ++ O
    · rw [mask_in q]
    · rw [mask_out q, h]
  · by_cases q : b ∈ F ++ O
    · rw [mask_in q, mask_in]
      rcases List.mem_append.mp q with q | q
      · exact List.mem_append_left _ q
      · exact List.mem_append_right _ (List.mem_cons_of_mem _ q)
    · rw [mask_out q, mask_out, upd_ne e]
      intro z
      rcases List.mem_append.mp z with z | z
      · exact q (List.mem_append_left _ z)
      · rcases List.mem_cons.mp z with z | z
        · exact e z
        · exact q (List.mem_append_right _ z)
section
variable {K : PySem.W.Frag} {B : Hp} {F O : List Addr} {H : Hp} {σ : St} {ρ : DEnv}
theorem Rep.newOwn (r : Rep K B F O H σ ρ) (i : Nat) {p : Addr} {ds : List Dt} {xs : List V} (hp : H p = none) (h : RpL K (mask (F ++ O) H) ds xs) : Rep K B F (p :: O) (upd H p (.lst xs)) (σ.set i (some (.ref p))) (ρ.set i (some (.own ds))) := by
  have hl := r.len
  have nF : p ∉ F := fun z => r.th p (List.mem_append_left _ z) hp
  have nO : p ∉ O := fun z => r.th p (List.mem_append_right _ z) hp
  have em := mask_new (F := F) (O := O) (o := .lst xs) hp
  refine ⟨by simpa using hl, r.base.trans (Same.upd hp), fun a h => ?_, fun a h e => ?_, fun j d q => ?_, fun j es q => ?_, fun j k es es' a h1 h2 h3 h4 => ?_⟩
  · rcases List.mem_cons.mp h with rfl | h
    · cases q : B a with
      | none => rfl
      | some o => rw [r.base a o q] at hp; cases hp
    · exact r.fr a h
  · by_cases z : a = p
    · rw [z, upd_same] at e; cases e
    · rw [upd_ne z] at e
      refine r.th a ?_ e
      rcases List.mem_append.mp h with h | h
      · exact List.mem_append_left _ h
      · exact List.mem_append_right _ ((List.mem_cons.mp h).resolve_left z)
  · by_cases hj : j = i
    · subst hj
      by_cases hk : j < ρ.length
      · rw [List.getElem?_set_self hk] at q; cases q
      · rw [List.getElem?_eq_none (by simpa using hk)] at q; cases q
    · rw [List.getElem?_set_ne (Ne.symm hj)] at q ⊢
      rw [em]; exact r.is j d q
  · by_cases hj : j = i
    · subst hj
      by_cases hk : j < ρ.length
      · rw [List.getElem?_set_self hk] at q; cases q
        exact ⟨p, xs, List.getElem?_set_self (by omega), List.mem_cons_self, nF, upd_same, by rw [em]; exact h⟩
      · rw [List.getElem?_eq_none (by simpa using hk)] at q; cases q
    · rw [List.getElem?_set_ne (Ne.symm hj)] at q ⊢
      obtain ⟨a, ys, h1, h2, h3, h4, h5⟩ := r.own j es q
      exact ⟨a, ys, h1, List.mem_cons_of_mem _ h2, h3, by rw [upd_ne (a := p) (fun z => nO (by rw [← z]; exact h2))]; exact h4, by rw [em]; exact h5⟩
  · have other : ∀ (m : Nat) es, m ≠ i → (ρ.set i (some (.own ds)))[m]? = some (some (.own es)) → (σ.set i (some (.ref p)))[m]? = some (some (.ref p)) → False := fun m es hm q1 q2 => by
      rw [List.getElem?_set_ne (Ne.symm hm)] at q1 q2
      obtain ⟨b, _, e1, e2, _⟩ := r.own m es q1
      rw [e1] at q2
      cases q2
      exact nO e2
    by_cases hj : j = i
    · by_cases hk : k = i
      · rw [hj, hk]
      · subst hj
        have : a = p := by
          rw [List.getElem?_set_self (by
            have := (List.getElem?_eq_some_iff.mp h1).1
            simp at this; omega)] at h3
          cases h3; rfl
        subst this
        exact (other k es' hk h2 h4).elim
    · by_cases hk : k = i
      · subst hk
        have : a = p := by
          rw [List.getElem?_set_self (by
            have := (List.getElem?_eq_some_iff.mp h2).1
            simp at this; omega)] at h4
          cases h4; rfl
        subst this
        exact (other j es hj h1 h3).elim
      · rw [List.getElem?_set_ne (Ne.symm hj)] at h1 h3
        rw [List.getElem?_set_ne (Ne.symm hk)] at h2 h4
        exact r.inj j k es es' a h1 h2 h3 h4
theorem Rep.putOwn (r : Rep K B F O H σ ρ) {i : Nat} {a : Addr} {ds es : List Dt} {xs ys : List V} (hi : ρ[i]? = some (some (.own ds))) (hs : σ[i]? = some (some (.ref a))) (ha : a ∈ O) (hH : H a = some (.lst xs)) (h : RpL K (mask (F ++ O) H) es ys) :
    Rep K B F O (upd H a (.lst ys)) σ (ρ.set i (some (.own es))) := by
  have em : mask (F ++ O) (upd H a (.lst ys)) = mask (F ++ O) H := mask_updIn (List.mem_append_right _ ha)
  have hk : i < ρ.length := (List.getElem?_eq_some_iff.mp hi).1
  refine ⟨by simpa using r.len, fun b o e => ?_, r.fr, fun b hb e => ?_, fun j d q => ?_, fun j ks q => ?_, fun j k es' es'' b h1 h2 h3 h4 => ?_⟩
  · rw [upd_ne fun z => by rw [z, r.fr a ha] at e; cases e]; exact r.base b o e
  · by_cases z : b = a
    · rw [z, upd_same] at e; cases e
    · rw [upd_ne z] at e; exact r.th b hb e
  · have hj : j ≠ i := fun z => by subst z; rw [List.getElem?_set_self hk] at q; cases q
    rw [List.getElem?_set_ne (Ne.symm hj)] at q
    rw [em]; exact r.is j d q
  · by_cases hj : j = i
    · subst hj
      rw [List.getElem?_set_self hk] at q; cases q
      obtain ⟨b, _, e1, e2, e3, _⟩ := r.own j ds hi
      rw [hs] at e1; cases e1
      exact ⟨a, ys, hs, ha, e3, upd_same, by rw [em]; exact h⟩
    · rw [List.getElem?_set_ne (Ne.symm hj)] at q
      obtain ⟨b, zs, e1, e2, e3, e4, e5⟩ := r.own j ks q
      have nb : b ≠ a := fun z => by subst z; exact hj (r.inj j i ks ds b q hi e1 hs)
      exact ⟨b, zs, e1, e2, e3, by rw [upd_ne nb]; exact e4, by rw [em]; exact e5⟩
  · have back : ∀ (m : Nat) ks, (ρ.set i (some (.own es)))[m]? = some (some (.own ks)) → ∃ ks', ρ[m]? = some (some (.own ks')) := fun m ks q => by
      by_cases hm : m = i
      · subst hm; exact ⟨ds, hi⟩
      · rw [List.getElem?_set_ne (Ne.symm hm)] at q; exact ⟨ks, q⟩
    obtain ⟨_, q1⟩ := back j es' h1
    obtain ⟨_, q2⟩ := back k es'' h2
    exact r.inj j k _ _ b q1 q2 h3 h4
theorem Rep.freeze (r : Rep K B F O H σ ρ) {i : Nat} {ds : List Dt} (hi : ρ[i]? = some (some (.own ds))) : ∃ O', Rep K B F O' H σ (ρ.set i (some (.is (.lst ds)))) := by
  obtain ⟨a, xs, h1, h2, h3, h4, h5⟩ := r.own i ds hi
  have hk : i < ρ.length := (List.getElem?_eq_some_iff.mp hi).1
  have sub : ∀ b ∈ F ++ O.filter (fun b => decide (b ≠ a)), b ∈ F ++ O := fun b hb => by
    rcases List.mem_append.mp hb with hb | hb
    · exact List.mem_append_left _ hb
    · exact List.mem_append_right _ (List.mem_filter.mp hb).1
  have na : a ∉ F ++ O.filter (fun b => decide (b ≠ a)) := fun z => by
    rcases List.mem_append.mp z with z | z
    · exact h3 z
    · exact of_decide_eq_true (List.mem_filter.mp z).2 rfl
  refine ⟨O.filter fun b => decide (b ≠ a), by simpa using r.len, r.base, fun b hb => r.fr b (List.mem_filter.mp hb).1, fun b hb => r.th b (sub b hb), fun j d q => ?_, fun j es q => ?_, fun j k es es' b q1 q2 q3 q4 => ?_⟩
  · by_cases hj : j = i
    · subst hj
      rw [List.getElem?_set_self hk] at q; cases q
      exact ⟨.ref a, h1, rp_lstI ⟨a, xs, rfl, (by rw [mask_out na]; exact h4), h5.mono (mask_sub sub)⟩⟩
    · rw [List.getElem?_set_ne (Ne.symm hj)] at q
      obtain ⟨v, e1, e2⟩ := r.is j d q
      exact ⟨v, e1, e2.mono (mask_sub sub)⟩
  · have hj : j ≠ i := fun z => by subst z; rw [List.getElem?_set_self hk] at q; cases q
    rw [List.getElem?_set_ne (Ne.symm hj)] at q
    obtain ⟨b, ys, e1, e2, e3, e4, e5⟩ := r.own j es q
    have nb : b ≠ a := fun z => by subst z; exact hj (r.inj j i es ds b q hi e1 h1)
    exact ⟨b, ys, e1, List.mem_filter.mpr ⟨e2, decide_eq_true nb⟩, e3, e4, e5.mono (mask_sub sub)⟩
  · have nj : ∀ (m : Nat) ks, (ρ.set i (some (.is (.lst ds))))[m]? = some (some (.own ks)) → ρ[m]? = some (some (.own ks)) := fun m ks q => by
      have hm : m ≠ i := fun z => by subst z; rw [List.getElem?_set_self hk] at q; cases q
      rw [List.getElem?_set_ne (Ne.symm hm)] at q; exact q
    exact r.inj j k es es' b (nj j es q1) (nj k es' q2) q3 q4
end
section
variable {X : Cx} {a b c e : Expr} {es : List Expr} {st : Stmt} {ta tb te : DTE} {tl : DTA} {t : DTS} {pos : Pos}
def dOwn (i : Nat) (tl : DTA) : DTS := fun D ρ => tl ρ fun ds => ds.length ≤ sizeLine ∧ D.nx (ρ.set i (some (.own ds)))
theorem ds_own (i : Nat) {x : Str} {pos' lp : Pos} (hN : X.N.Nodup) (ha : DA X es tl) (hi : X.N[i]? = some x := by rfl) (hx : Loc X.env.scope x := by first | exact Or.inl rfl | exact Or.inr rfl) (hs : swapsWith (.List es lp) (some (.Name x pos')) pos.line X.env = pure false := by rfl)
    (hf : X.fn x = true ∨ X.env.scope.names.lookup x = some .local := by first | exact .inl rfl | exact .inr rfl | assumption) : DS X (.Assign [.Name x pos'] (.List es lp) pos) (dOwn i tl) where
  mono := fun hd h => ha.mono (fun ds ⟨h1, h2⟩ => ⟨h1, hd.nx _ h2⟩) h
  ps := (ps_set hN hi hx (pe_lst ha.pa) hs hf).imp fun D σ H ⟨B, F, O, ρ, R, h⟩ => ⟨B, F, O, ρ, R, ha.mono (fun ds ⟨h1, h2⟩ vs H1 s1 r1 => ⟨by rw [r1.len]; exact h1, fun p hp => h2 (p :: O) _ _ ((R.same s1).newOwn i hp r1)⟩) h⟩
def ownAt (ρ : DEnv) (j : Nat) (k : List Dt → Prop) : Prop := match ρ[j]? with
  | some (some (.own ds)) => k ds
  | _ => False
theorem ownAt.mono {ρ : DEnv} {j : Nat} {k k' : List Dt → Prop} (hk : ∀ ds, k ds → k' ds) (h : ownAt ρ j k) : ownAt ρ j k' := by
  unfold ownAt at h ⊢
  split at h
  · exact hk _ h
  · exact h.elim
theorem ownAt.get {ρ : DEnv} {j : Nat} {k : List Dt → Prop} (h : ownAt ρ j k) : ∃ ds, ρ[j]? = some (some (.own ds)) ∧ k ds := by
  unfold ownAt at h
  split at h
  · rename_i ds e; exact ⟨ds, e, h⟩
  · exact h.elim
def dIxO (j : Nat) (tb : DTE) : DTE := fun ρ Q => ownAt ρ j fun ds => tb ρ fun k => match k with
  | .int i => match ixL i ds with
    | some v => Q v
    | none => False
  | _ => False
theorem de_ixo (j : Nat) {x : Str} {px : Pos} (hb : DE X b tb) (hN : X.N[j]? = some x := by rfl) (hv : Vis X.env.scope x := by first | exact Or.inl rfl | exact Or.inr (Or.inl rfl) | exact Or.inr (Or.inr rfl)) (hd : (x == ("__debug__" : Str)) = false := by decide)
    (hcd : (x == ("__classdict__" : Str)) = false := by decide) (hs : PlainIx b := by exact fun _ _ => rfl) : DE X (.Subscript (.Name x px) b pos) (dIxO j tb) where
  mono := fun hq h => h.mono fun ds h => hb.mono (fun d h => by
    split at h
    · split at h
      · exact hq _ h
      · exact h.elim
    · exact h.elim) h
  pe := (pe_ix ix_list (pe_var hN hv hd hcd) hb.pe hs).imp fun σ H Q ⟨B, F, O, ρ, R, h⟩ => by
    obtain ⟨ds, e1, h⟩ := h.get
    obtain ⟨a, xs, h1, h2, h3, h4, h5⟩ := R.own j ds e1
    refine ⟨_, h1, B, F, O, ρ, R, hb.mono (fun d h v H1 s1 r1 => ?_) h⟩
    split at h
    · split at h
      · rename_i i _ w e2
        obtain ⟨z, e3, e4⟩ : ∃ z, atI xs i = some z ∧ Rp X.K (mask (F ++ O) H) w z := by
          have e5 := ixL_at e2
          unfold atI at e5 ⊢
          obtain ⟨m, e6, e7⟩ := Option.bind_eq_some_iff.mp e5
          obtain ⟨z, e8, e9⟩ := h5.get e7
          exact ⟨z, by rw [h5.len, e6]; exact e8, e9⟩
        exact ⟨a, xs, i, z, rfl, rp_int.mp r1, SqL.of (s1 _ _ h4), e3, h z H1 s1 (e4.mono s1.mask)⟩
      · exact h.elim
    · exact h.elim
def dSetO (j : Nat) (te tb : DTE) : DTS := fun D ρ => te ρ fun d => ownAt ρ j fun ds => tb ρ fun k => match k with
  | .int i => (0 ≤ i ∧ i < ds.length) ∧ D.nx (ρ.set j (some (.own (ds.set i.toNat d))))
  | _ => False
theorem RpL.put {K : PySem.W.Frag} {H : Hp} {d : Dt} {v : V} : ∀ {ds : List Dt} {vs : List V} (n : Nat), RpL K H ds vs → Rp K H d v → RpL K H (ds.set n d) (vs.set n v)
  | [], _, _, h, _ => by rw [rpl_nil.mp h]; exact RpL.nil
  | x :: ds, _, 0, h, r => by
    obtain ⟨u, w, rfl, _, p⟩ := rpl_cons.mp h
    exact .cons r p
  | x :: ds, _, n + 1, h, r => by
    obtain ⟨u, w, rfl, q, p⟩ := rpl_cons.mp h
    exact .cons q (RpL.put n p r)
def dAppO (j : Nat) (te : DTE) : DTS := fun D ρ => ownAt ρ j fun ds => te ρ fun d => ds.length < sizeLine ∧ D.nx (ρ.set j (some (.own (ds ++ [d]))))
theorem ds_app (j : Nat) {x : Str} {px ap cp : Pos} (he : DE X e te) (hN : X.N[j]? = some x := by rfl) (hv : Vis X.env.scope x := by first | exact Or.inl rfl | exact Or.inr (Or.inl rfl) | exact Or.inr (Or.inr rfl)) (hd : (x == ("__debug__" : Str)) = false := by decide)
    (hcd : (x == ("__classdict__" : Str)) = false := by decide) (hbase : attributeBase (.Name x px) "append" X.env (eval (.Name x px) X.env) = eval (.Name x px) X.env := by rfl)
    (hfew : ((backTo cp (starEach [e] X.env)).all (fun x => !x.1) && (backToKw cp (keywordEach [] X.env)).all (fun x => x.1.isSome) && decide ([e].length + ([] : List Keyword).length + (if ([] : List Keyword).isEmpty then 0 else 1) < 30)) = true := by rfl)
    (hline : (ap.endLine == cp.line) = true := by rfl) (hst : starEach [e] X.env = (false, eval e X.env) :: starEach [] X.env := by rfl) (hplain : (backTo cp (starEach [] X.env)).any (·.1) = false := by rfl)
    (hs : swapsWith (.Call (.Attribute (.Name x px) "append" ap) [e] [] cp) none pos.line X.env = pure false := by rfl) : DS X (.Expr (.Call (.Attribute (.Name x px) "append" ap) [e] [] cp) pos) (dAppO j te) where
  mono := fun hd h => h.mono fun ds h => he.mono (fun d h => ⟨h.1, hd.nx _ h.2⟩) h
  ps := (ps_expr (pe_bm PySem.F.plainAttrs_list PySem.F.slot_list_append PySem.F.type_list_append mt_append (pe_var hN hv hd hcd) (pa_cons he.pe pa_nil hst) hbase hfew hline hst hplain) hs).imp fun D σ H ⟨B, F, O, ρ, R, h⟩ => by
    obtain ⟨ds, e1, h⟩ := h.get
    obtain ⟨a, xs, h1, h2, h3, h4, h5⟩ := R.own j ds e1
    refine ⟨_, h1, .inl ⟨rfl, _, SqL.of h4⟩, B, F, O, ρ, R, he.mono (fun d h v H1 s1 r1 => ?_) h⟩
    exact ⟨a, xs, v, rfl, rfl, s1 _ _ h4, by rw [h5.len]; exact h.1, h.2 O σ _ ((R.same s1).putOwn e1 h1 h2 (s1 _ _ h4) ((h5.mono s1.mask).append (.cons r1 .nil)))⟩
def dFrz (j : Nat) (t : DTS) : DTS := fun D ρ => ownAt ρ j fun ds => t D (ρ.set j (some (.is (.lst ds))))
theorem ds_frz (j : Nat) (h : DS X st t) : DS X st (dFrz j t) where
  mono := fun hd z => z.mono fun ds z => h.mono hd z
  ps := h.ps.imp fun D σ H ⟨B, F, O, ρ, R, z⟩ => by
    obtain ⟨ds, e1, z⟩ := z.get
    obtain ⟨O', R'⟩ := R.freeze e1
    exact ⟨B, F, O', _, R', z⟩
def dLenO (j : Nat) : DTE := fun ρ Q => ownAt ρ j fun ds => Q (.int ds.length)
def dCatT : D2 := fun a b Q => match a with
  | .tup xs => match b with
    | .tup ys => (xs ≠ [] ∧ xs.length + ys.length ≤ sizeLine) ∧ Q (.tup (xs ++ ys))
    | _ => False
  | _ => False
end
end L2

namespace L2
open PySem PySem.Spec PyProof.Rows
section chain3
variable {X : Cx} {a b c e : Expr} {ta tb tc te : TE} {pos : Pos}
end chain3
def dChain3 (t t' t2 : D2) (ta tb tc te : DTE) : DTT := fun ρ Q => ta ρ fun a => tb ρ fun b => t a b fun z => match z with
  | .bl k => if k = true then tc ρ fun c => t' b c fun z => match z with
    | .bl k => if k = true then te ρ fun e => t2 c e fun z => match z with
      | .bl k => Q k
      | _ => False
      else Q false
    | _ => False
    else Q false
  | _ => False
section
variable {X : Cx} {a b c e : Expr} {ta tb tc te : DTE} {pos : Pos}
end
end L2

namespace L2
open PySem PySem.Spec PyProof.Rows PySem.W
theorem weight_mem {n : Int} : ∀ {ns : List Int}, n ∈ ns → WData.weight (.int n) ≤ WData.weightAll (ns.map WData.int)
  | [], h => nomatch h
  | m :: ns, h => by
    rw [List.map_cons, WData.weightAll]
    rcases List.mem_cons.mp h with e | e
    · subst e; omega
    · have := weight_mem e; omega
theorem long_of {ns : List Int} (h : WData.layableAll [WData.list (ns.map WData.int)] = true) : ∀ n ∈ ns, Bt 1048576 n := fun n hn => by
  have h1 : WData.weight (WData.list (ns.map WData.int)) ≤ 2 ^ 20 := by
    simp only [WData.layableAll, List.all_cons, List.all_nil, Bool.and_true, WData.layable, Bool.and_eq_true, decide_eq_true_eq] at h
    exact h.2
  rw [WData.weight] at h1
  have h2 := weight_mem hn
  rw [WData.weight] at h2
  refine intBits_le_iff.mp ?_
  have e : Builtin.Int.intBits n = if n == 0 then 0 else n.natAbs.log2 + 1 := rfl
  rw [e]
  omega
theorem attach_callB {l : OpenLaw} {n : Nat} {q : Program} {loose : List Str} {XP : (Str → Option Value) → Heap → Prop} {YP : World → Heap → Prop} {d : DefRec}
    (hn : l.most = some n) (hdf : d.params.defaults = [])
    (call : ∀ (w : World) (s₀ s₁ : Shared) (mg mb : Str → Option Value) (fa : Addr) (o : Obj) (pm cd doc : Value) (a : Addr) (vs : List Value) (ns : List Int),
      Ground q loose [] XP w s₀ mg mb s₁.heap → YP w s₁.heap → mg d.name = some (.ref fa) →
      s₁.heap.get? a = some { cls := .type "list", data := .seq vs.toArray } → IntsAre vs ns → ns.length ≤ n → (∀ n ∈ ns, Bt 1048576 n) → s₁.gens = #[] →
      codeAny (model l.prog w) callerA (.call (.ref fa) ⟨[.ref a], []⟩) (fun r s' => r = .ok (.ret (.bool true)) ∧ OldK s₁.heap s'.heap ∧ s'.os = s₁.os ∧ AllBare s'.gens) s₁) :
    WalkO q loose XP YP l.row.toRowW d [] (fun f vs => PySem.call f vs) := by
  intro w s₀ s₁ mg mb G Y fa o pm cd doc dV kV ho hd hcd hD hmg hg args vals as hpre hlay hrd hwl hlo
  obtain rfl : dV = .none := Dflts.none hD hdf
  obtain rfl : kV = .none := Dflts.noKw hD
  obtain ⟨a, vs, ns, rfl, rfl, hobj, hints, hlen⟩ := Att.script_of hn hpre hwl
  refine enter_call (codeAny_mono (call w s₀ s₁ mg mb fa o pm cd doc a vs ns G Y hmg hobj hints hlen (long_of hlay) hg) fun r s' hq => ?_)
  obtain ⟨rfl, h2, h3, h4⟩ := hq
  exact ⟨.inl ⟨.bool true, .bool true, [], rfl, fun _ => rfl, .bool true, Att.post_true l _, fun _ => ⟨List.Pairwise.nil, fun _ hm => (nomatch hm)⟩⟩, h2, h3, h4⟩
def spLawB : DSp := spec (fun ns : List Int => [.lst (ns.map Dt.int)]) (fun ns => ns.length ≤ 63 ∧ ∀ n ∈ ns, Bt 1048576 n) fun _ d => d = .bl true
theorem law_startB {K : PySem.W.Frag} {H : Hp} {a : Addr} {ns : List Int} {E : XK} (hl : ns.length ≤ 63) (hb : ∀ n ∈ ns, Bt 1048576 n) (hS : SqL K H a (ns.map V.int)) : lSp K spLawB [.ref a] H (fun v _ => v = .bl true) E := by
  have h0 : ∀ a ∈ ([] : List Addr), H a ≠ none := fun a h => absurd h (by simp)
  refine ⟨[], [.lst (ns.map Dt.int)], h0, ?_, ns, rfl, ⟨hl, hb⟩, fun d e v H' _ r => ?_⟩
  · rw [mask_nil]
    exact RpL.cons (rp_ints hS (RpL.ints ns)) RpL.nil
  · subst e
    exact rp_bl.mp r
theorem walk_ofB {l : PySem.W.OpenLaw} {k : Nat} {q : Program} {loose : List Str} {XP : (Str → Option Value) → Heap → Prop} {YP : World → Heap → Prop} {d : DefRec} {K : Params → PySem.W.Frag} {x : Str}
    (hn : l.most = some 63) (hdf : d.params.defaults = []) (hr : Room k callerA)
    (hY : ∀ (w : World) (h : Heap), YP w h → (K w.params).In h)
    (F : ∀ (w : World) (mg : Str → Option Value) (fa : Addr) (h : Heap), (K w.params).In h → h.Ns mainGlobals mg → mg d.name = some (.ref fa) →
      ∃ fd : FuncData, (∀ (s : Shared) (u : Value), BindsTo s fd ⟨[u], []⟩ [(x, u)]) ∧
        ∀ base : Heap, (K w.params).In base → base.Ns mainGlobals mg → FnOk l.prog w (K w.params) mg base CX0 k fa fd [x] (lSp (K w.params) spLawB)) :
    PySem.W.WalkO q loose XP YP l.row.toRowW d [] (fun f vs => PySem.call f vs) := by
  refine attach_callB hn hdf fun w s₀ s₁ mg mb fa o pm cd doc a vs ns G Y hmg hobj hints hlen hlong hg => ?_
  have KX := hY w _ Y
  obtain ⟨fd, hb, hF⟩ := F w mg fa _ KX G.T.g hmg
  exact law_call KX G.T.g G.T.b G.T.builtins G.T.nolimit hg hobj hints (Nat.le_trans hlen (by decide)) hr hF hb (fun H hO hS => law_startB hlen hlong hS) fun _ _ _ z => z
end L2

namespace L2
open PySem PySem.Spec PyProof.Rows
variable {X : Cx} {a b : Expr} {ta tb : DTE} {pos : Pos}
def dIn : D2 := fun a b Q => ∃ (i : Int) (ns : List Int), a = .int i ∧ b = .lst (ns.map Dt.int) ∧ Q (.bl (decide (i ∈ ns)))
def dAugI (i : Nat) (te : DTE) : DTS := fun D ρ => match ρ[i]? with
  | some (some (.is (.int a))) => te ρ fun d => match d with
    | .int b => D.nx (ρ.set i (some (.is (.int (a + b)))))
    | _ => False
  | _ => False
def dPar3 (i j k : Nat) (tl : DTA) : DTS := fun D ρ => tl ρ fun ds => match ds with
  | [d, e, f] => D.nx (((ρ.set i (some (.is d))).set j (some (.is e))).set k (some (.is f)))
  | _ => False
theorem dFor_open {ti : DTI} {g : DTG} {tb : DTS} {D : DEnds} {ρ : DEnv} (h : ti ρ fun items => dFor (fun _ R => R items) g tb D ρ) : dFor ti g tb D ρ := h
end L2

namespace L2
open PySem PySem.Spec PyProof.Rows PySem.SeqAt

mutual
def Dt.noL : Nat → Dt → Bool
  | _, .non => true
  | _, .bl _ => true
  | _, .int _ => true
  | _, .str _ => true
  | 0, _ => false
  | n + 1, .tup ds => Dt.noLs n ds
  | _, _ => false
def Dt.noLs : Nat → List Dt → Bool
  | _, [] => true
  | n, d :: ds => Dt.noL n d && Dt.noLs n ds
end
theorem noLs_c {n : Nat} {d : Dt} {r : List Dt} : Dt.noLs n (d :: r) = (Dt.noL n d && Dt.noLs n r) := by rw [Dt.noLs]
theorem noL_t {n : Nat} {r : List Dt} : Dt.noL (n + 1) (.tup r) = Dt.noLs n r := by rw [Dt.noL]
def Keep (M M' : Hp) : Prop := ∀ b o, M b = some o → (∀ xs, o ≠ .lst xs) → M' b = some o
mutual
theorem rp_noL {K : PySem.W.Frag} {M M' : Hp} (k : Keep M M') : ∀ (n : Nat) (d : Dt) (v : V), d.noL n = true → Rp K M d v → Rp K M' d v
  | _, .non, _, _, r => by rw [rp_non] at r ⊢; exact r
  | _, .bl _, _, _, r => by rw [rp_bl] at r ⊢; exact r
  | _, .int _, _, _, r => by rw [rp_int] at r ⊢; exact r
  | _, .str _, _, _, r => by rw [rp_str] at r ⊢; exact r
  | 0, .tup _, _, h, _ => by simp [Dt.noL] at h
  | n + 1, .tup ds, _, h, r => by
    rw [noL_t] at h
    obtain ⟨a, xs, e, q, r⟩ := rp_tup.mp r
    refine rp_tup.mpr ⟨a, xs, e, ?_, rpl_noL k n ds xs h r⟩
    rcases q with (q | ⟨o, q⟩) | q
    · exact .inl (.inl (k _ _ q fun _ => by simp))
    · exact .inl (.inr ⟨o, k _ _ q fun _ => by simp⟩)
    · exact .inr q
  | 0, .lst _, _, h, _ => by simp [Dt.noL] at h
  | _ + 1, .lst _, _, h, _ => by simp [Dt.noL] at h
  | 0, .fn _, _, h, _ => by simp [Dt.noL] at h
  | _ + 1, .fn _, _, h, _ => by simp [Dt.noL] at h
  | 0, .exc _ _ _, _, h, _ => by simp [Dt.noL] at h
  | _ + 1, .exc _ _ _, _, h, _ => by simp [Dt.noL] at h
  | 0, .obj _ _ _, _, h, _ => by simp [Dt.noL] at h
  | _ + 1, .obj _ _ _, _, h, _ => by simp [Dt.noL] at h
theorem rpl_noL {K : PySem.W.Frag} {M M' : Hp} (k : Keep M M') : ∀ (n : Nat) (ds : List Dt) (vs : List V), Dt.noLs n ds = true → RpL K M ds vs → RpL K M' ds vs
  | _, [], _, _, r => by rw [rpl_nil] at r ⊢; exact r
  | n, d :: ds, _, h, r => by
    rw [noLs_c, Bool.and_eq_true] at h
    obtain ⟨v, w, rfl, r1, r2⟩ := rpl_cons.mp r
    exact rpl_cons.mpr ⟨v, w, rfl, rp_noL k n d v h.1 r1, rpl_noL k n ds w h.2 r2⟩
end
def isLst : Option HO → Bool
  | some (.lst _) => true
  | _ => false
def lists (H : Hp) (n : Nat) : List Addr := (List.range n).filter fun a => isLst (H a)
section
variable {X : Cx} {a b c e : Expr} {es : List Expr} {st : Stmt} {ta tb te : DTE} {tl : DTA} {tA : DTT} {t : DTS} {pos : Pos}
def dFresh (i : Nat) (sp : DSp) (tl : DTA) : DTS := fun D ρ => tl ρ fun ds => Dt.noLs 4 ds = true ∧ sp ds fun d => ∃ ks, d = .lst ks ∧ (∃ r, Dt.tup r ∈ ks) ∧ Dt.noLs 4 ks = true ∧ D.nx (ρ.set i (some (.own ks)))
def dLendT (j : Nat) (t : DTT) : DTT := fun ρ Q => ownAt ρ j fun ds => t (ρ.set j (some (.is (.lst ds)))) Q
def dCopyO (j : Nat) : DTE := fun ρ Q => ownAt ρ j fun ds => Q (.lst ds)
end
end L2

namespace L2
open PySem PySem.Spec PyProof.Rows PySem.W PySem.Builtin PySem.Builtin.ObjectAttr

section
variable {prog : Program} {w : World} {A : Around} {E : Value → Shared → Prop} {s : Shared} {K : PySem.W.Frag} {C U x dx : Addr} {name : Str} {v : Value}
theorem xset1 {Q : Unit → Shared → Prop} {vs : Array Value} {sl : Array (Option Value)} {m : Str → Option Value} {ns : List Str} (X : K.In s.heap) (c : XC K C U) (ht : takerIn K C name = some none) (hx : s.heap.get? x = some ⟨.ref C, some dx, .fields vs, sl⟩)
    (hn : s.heap.Ns1 dx m) (wi : PySem.Within m ns) (hl : ns.length ≤ 1000)
    (h : ∀ h' tk', h'.Ns1 dx (fun y => if y = name then some v else m y) → (∀ b o, b ≠ dx → s.heap.get? b = some o → h'.get? b = some o) → Q () { s with heap := h', toks := tk' }) :
    wpAny (model prog w) A (setAttr (.ref x) name v) Q E s := by
  obtain ⟨oD0, es0, ep0, ho0, rest0⟩ := id hn
  have I : InstAt s.heap x ⟨.ref C, some dx, .fields vs, sl⟩ C (some oD0) := ⟨hx, rfl, rfl, ho0⟩
  refine set_plain X I c.sa (xstore (s := { s with toks := s.toks + 1 }) X c I ht fun b => ?_)
  obtain ⟨cd, hc, hm, hd⟩ := c.cls
  refine wpAny_bind (wpAny_pure (wpAny_bind ?_))
  show wpAny _ _ (instanceDict x true) _ _ _
  unfold instanceDict
  refine wpAny_bind (wpAny_loadPart hx ?_)
  dsimp only
  refine wpAny_bind ((looks_clsIn X hc).here (s := { s with toks := s.toks + 1 }) ?_)
  rw [hd]
  refine wpAny_pure ?_
  show wpAny _ _ (storeInDict dx (.str name _) name v) _ _ _
  unfold storeInDict newKeyGuard
  refine wpAny_bind (wpAny_pure (wpAny_bind (wpAny_nsSet1 (s := { s with toks := s.toks + 1 }) hn fun h' hn' hs => ?_)))
  obtain ⟨oD, esD, epD, hoD, hdD, hcD⟩ := hn'.count (Within.cons name v wi)
  refine wpAny_bind (wpAny_lookBehind hoD (by rw [hdD]; exact pastItsLine_dict (Nat.le_trans hcD (by rw [List.length_cons, sizeLine_eq]; omega))) ?_)
  exact wpAny_pure (h h' _ hn' fun b o nb hb => (hs.2 b nb).trans hb)
end
section
variable {X : Cx} {pins : List (Addr × Obj)} {σ : St} {H : Hp} {s : Shared} {h' : Heap} {a dx C U f fI : Addr}
theorem Inv.putXd {fs fs' : List (Str × V)} {t' : Nat} (I : Inv X pins σ H s) (Hd : H dx = some (.xd fs)) (k : ∀ b u, b ≠ dx → s.heap.get? b = some u → h'.get? b = some u) (hd : ∃ u, h'.get? dx = some u)
    (n : ObjOk X.prog X.w (upd H dx (.xd fs')) h' dx (.xd fs')) : Inv X pins σ (upd H dx (.xd fs')) { s with heap := h', toks := t' } := by
  have keepH : ∀ b u, H b = some u → b ≠ dx → upd H dx (.xd fs') b = some u := fun b u e n => by rw [upd_ne n]; exact e
  have nt : ∀ b u, H b = none → s.heap.get? b = some u → b ≠ dx := fun b u n _ z => by rw [z, Hd] at n; cases n
  refine I.un ⟨fun b u e n _ _ => k b u (nt b u n e) e, fun b u e n _ _ => ⟨u.slots, k b u (nt b u n e) e⟩, fun b u e n _ => ?_, fun b u e _ => ?_, fun b xs e => keepH b _ e fun z => (by rw [z, Hd] at e; cases e), fun b o u e => keepH b _ e fun z => (by rw [z, Hd] at e; cases e), fun b ps e => ⟨#[], by rw [keepH b _ e fun z => by rw [z, Hd] at e; cases e]; simp⟩⟩ ?_
  · rw [upd_ne (nt b u n e)]; exact n
  · by_cases z : b = dx
    · rw [z]; exact hd
    · exact ⟨u, k b u z e⟩
  · intro b u e
    by_cases z : b = dx
    · subst z; rw [upd_same] at e; cases e; exact n
    · rw [upd_ne z] at e
      refine (I.hok b u e).stay (fun c v hc q => k c v ?_ q) (fun c q => keepH c _ q fun w => by rw [w, Hd] at q; cases q) fun c xs q => keepH c _ q fun w => by rw [w, Hd] at q; cases q
      rcases hc with rfl | hc
      · exact z
      · rintro rfl; rw [Hd] at hc; cases hc
def sX2 (C : Addr) (ta tv : TE) (f : Str) : TS := fun D σ H => tv σ H fun y H1 => ta σ H1 fun x H2 => ∃ a dx fs, x = .ref a ∧ H2 a = some (.ext (exF a C dx)) ∧ H2 dx = some (.xd fs) ∧ fs.length ≤ 1000 ∧ fs.lookup f = none ∧ D.nx σ (upd H2 dx (.xd (fs ++ [(f, y)])))
theorem lookup_app {f g : Str} {y : V} : ∀ {fs : List (Str × V)}, fs.lookup f = none → (fs ++ [(f, y)]).lookup g = if g = f then some y else fs.lookup g
  | [], _ => by
    by_cases q : g = f
    · rw [if_pos q]; simp [List.lookup, q]
    · rw [if_neg q]; simp [List.lookup, beq_eq_false_iff_ne.mpr q]
  | (k, z) :: fs, h => by
    have nk : (f == k) = false := by
      cases e : f == k with
      | false => rfl
      | true => simp [List.lookup, e] at h
    have h2 : fs.lookup f = none := by simpa [List.lookup, nk] using h
    have ih := lookup_app (g := g) (y := y) h2
    cases e : g == k with
    | true =>
      have : ¬ g = f := fun q => by
        rw [q, nk] at e
        cases e
      rw [if_neg this]
      simp [List.lookup, e]
    | false =>
      simp only [List.cons_append, List.lookup, e]
      exact ih
theorem lookup_mem {g : Str} : ∀ {fs : List (Str × V)}, fs.lookup g ≠ none → g ∈ fs.map (·.1)
  | [], h => absurd rfl h
  | (k, z) :: fs, h => by
    cases e : g == k with
    | true => rw [List.map_cons, beq_iff_eq.mp e]; exact List.mem_cons_self
    | false =>
      have : fs.lookup g ≠ none := by simpa [List.lookup, e] using h
      rw [List.map_cons]
      exact List.mem_cons_of_mem _ (lookup_mem this)
theorem ps_x2 {o value : Expr} {f : Str} {pos pos' : Pos} {ta tv : TE} (c : XC X.K C U) (ht : PySem.W.takerIn X.K C f = some none) (ha : PE X o ta) (hv : PE X value tv) (hs : swapsWith value (some (.Attribute o f pos')) pos.line X.env = pure false := by rfl) :
    PS X (.Assign [.Attribute o f pos'] value pos) (sX2 C ta tv f) := by
  intro pins s σ H D I h
  refine plainObj_wpAny_Assign_Attribute (thn (hv pins s σ H _ I h) fun u s1 ⟨y, H1, I1, ry, q⟩ => thn (ha pins s1 σ H1 _ I1 q) fun ov s2 ⟨x, H2, I2, rx, a, dx, fs, ex, ea, ed, fl, fn, q2⟩ => ?_) hs
  subst ex
  obtain rfl : ov = Value.ref a := rx
  obtain ⟨⟨vs, sl, hx, h1, nx⟩, _, _⟩ := I2.hok a _ ea
  obtain ⟨mA, hn, hm⟩ := (show ObjOk X.prog X.w H2 s2.heap dx (.xd fs) from I2.hok dx _ ed)
  have wi : PySem.Within mA (fs.map (·.1)) := fun g hg => lookup_mem fun z => hg (by
    have := hm g
    rw [z] at this
    cases q : mA g with
    | none => rfl
    | some w => rw [q] at this; exact this.elim)
  refine xset1 I2.kIn c ht hx hn wi (by rw [List.length_map]; exact fl) fun h' tk' x1 x2 => ⟨σ, _, I2.putXd (fs' := fs ++ [(f, y)]) (t' := tk') ed x2 (let ⟨o, _, _, e, _⟩ := x1; ⟨o, e⟩) ⟨_, x1, fun g => ?_⟩, q2⟩
  rw [lookup_app fn]
  show RelO _ (if g = f then some u else mA g)
  by_cases q : g = f
  · rw [if_pos q, if_pos q]; exact ry
  · rw [if_neg q, if_neg q]; exact hm g
theorem upd_swap {H : Hp} {a dx : Addr} {o u v : HO} (n : dx ≠ a) : upd (upd (upd H dx o) a u) dx v = upd (upd H dx v) a u := by
  funext b
  by_cases h1 : b = dx
  · subst h1; rw [upd_same, upd_ne n, upd_same]
  · by_cases h2 : b = a
    · subst h2; rw [upd_ne h1, upd_same, upd_same]
    · rw [upd_ne h1, upd_ne h2, upd_ne h1, upd_ne h2, upd_ne h1]
end
end L2
namespace L2
open PySem PySem.Spec PyProof.Rows PySem.SeqAt

abbrev DTAX := DEnv → (List Dt → Prop) → (Dt → Prop) → Prop
def lAX (X : Cx) (t : DTAX) : TA := fun σ H Q => ∃ B F O ρ, Rep X.K B F O H σ ρ ∧ t ρ (fun ds => ∀ vs H', Same H H' → RpL X.K (mask (F ++ O) H') ds vs → Q vs H') (fun x => ∀ a H', Same H H' → Rp X.K (mask (F ++ O) H') x (.ref a) → Wish X σ a H')
structure DAX (X : Cx) (es : List Expr) (t : DTAX) : Prop where
  mono : ∀ {ρ Q Q' E E'}, (∀ d, Q d → Q' d) → (∀ d, E d → E' d) → t ρ Q E → t ρ Q' E'
  pa : PA X es (lAX X t)
section
variable {X : Cx} {e : Expr} {es : List Expr} {te : DTEX} {tl : DTA} {tx : DTAX} {pos : Pos}
def dConsX (te : DTEX) (tl : DTA) : DTAX := fun ρ Q E => te ρ (fun d => tl ρ fun ds => Q (d :: ds)) E
theorem dax_cons (ha : DEX X e te) (hr : DA X es tl) (hs : starEach (e :: es) X.env = (false, eval e X.env) :: starEach es X.env := by rfl) : DAX X (e :: es) (dConsX te tl) where
  mono := fun hq hx h => ha.mono (fun d h => hr.mono (fun ds h => hq _ h) h) hx h
  pa := (pa_cons ha.pe hr.pa hs).imp fun σ H Q ⟨B, F, O, ρ, R, q⟩ => ⟨B, F, O, ρ, R, ha.mono (fun d h v H1 s1 r1 => ⟨B, F, O, ρ, R.same s1, hr.mono (fun ds h vs H2 s2 r2 =>
    h (v :: vs) H2 (s1.trans s2) (RpL.cons (r1.mono s2.mask) r2)) h⟩) (fun x h => h) q⟩
def dCallA (sp : DSp) (tx : DTAX) : DTEX := fun ρ Q E => tx ρ (fun ds => sp ds Q) E
theorem dex_callA {k : Nat} {ps : List Str} {sp : DSp} {x : Str} {stx : Stmt} {p : Pos} (m : MonoSp sp) (G : Pm X.prog X.w X.K X.mg X.base k x stx ps sp) (hr : Room k X.A) (hg : Gl X x)
    (ha : DAX X (e :: es) tx) (hdb : (x == ("__debug__" : Str)) = false := by decide)
    (he : starEach (e :: es) X.env = (false, eval e X.env) :: starEach es X.env := by rfl) (hpl : (backTo pos (starEach es X.env)).any (·.1) = false := by rfl) : DEX X (.Call (.Name x p) (e :: es) [] pos) (dCallA sp tx) := by
  obtain ⟨f, fd, F, G⟩ := G
  refine ⟨fun hq hx h => ha.mono (fun ds h => m ds _ _ hq h) hx h, (pe_call G hr hg F.mg F.fn.kp F.bd .nil pass0 ha.pa hdb he hpl).imp fun σ H Q ⟨B, F, O, ρ, R, h⟩ => ⟨B, F, O, ρ, R, ha.mono (fun ds z vs H1 s1 r1 => by
    show lSp X.K sp (vs ++ []) H1 Q E0
    rw [List.append_nil]
    exact ⟨F ++ O, ds, (R.same s1).th, r1, m _ _ _ (fun d q v H2 s2 r2 => q v H2 (s1.trans s2) r2) z⟩) (fun x h => h) h⟩⟩
theorem dss_never {sts : List Stmt} : DSs X sts dNever := ⟨fun _ h => h.elim, fun pins s σ H D I ⟨_, _, _, _, _, h⟩ => h.elim⟩
end
end L2

namespace My
open PySem L2
abbrev sp_law : DSp := spLaw
abbrev I4 := Int × Int × Int × Int
abbrev I2 := Int × Int
abbrev t4 (p : I4) : Dt := T4 p.1 p.2.1 p.2.2.1 p.2.2.2
abbrev t2 (p : I2) : Dt := T2 p.1 p.2
def B4 (n : Nat) (p : I4) : Prop := Bt n p.1 ∧ Bt n p.2.1 ∧ Bt n p.2.2.1 ∧ Bt n p.2.2.2
def B2 (n : Nat) (p : I2) : Prop := Bt n p.1 ∧ Bt n p.2
def det (p : I4) : Int := p.1 * p.2.2.2 - p.2.1 * p.2.2.1
def thenV (a b : I4) : I4 := (a.1 * b.1 + a.2.1 * b.2.2.1, a.1 * b.2.1 + a.2.1 * b.2.2.2, a.2.2.1 * b.1 + a.2.2.2 * b.2.2.1, a.2.2.1 * b.2.1 + a.2.2.2 * b.2.2.2)
def backV (t : I4) : I4 := (t.2.2.2, -t.2.1, -t.2.2.1, t.1)
theorem B4.le {n m : Nat} {t : I4} (h : B4 n t) (l : n ≤ m) : B4 m t := ⟨h.1.le l, h.2.1.le l, h.2.2.1.le l, h.2.2.2.le l⟩
theorem B2.le {n m : Nat} {t : I2} (h : B2 n t) (l : n ≤ m) : B2 m t := ⟨h.1.le l, h.2.le l⟩
theorem B4.back {n : Nat} {t : I4} (h : B4 n t) : B4 n (backV t) := ⟨h.2.2.2, h.2.1.neg, h.2.2.1.neg, h.1⟩
theorem B4.then {n m : Nat} {t u : I4} (h : B4 n t) (q : B4 m u) : B4 (n + m + 1) (thenV t u) :=
  ⟨((h.1.mul q.1).add (h.2.1.mul q.2.2.1)).le (by omega), ((h.1.mul q.2.1).add (h.2.1.mul q.2.2.2)).le (by omega), ((h.2.2.1.mul q.1).add (h.2.2.2.mul q.2.2.1)).le (by omega), ((h.2.2.1.mul q.2.1).add (h.2.2.2.mul q.2.2.2)).le (by omega)⟩
theorem det_back {t : I4} : det (backV t) = det t := by obtain ⟨a, b, c, d⟩ := t; simp only [det, backV]; grind
theorem then_back {t : I4} (h : det t = 1) : thenV t (backV t) = (1, 0, 0, 1) := by
  obtain ⟨a, b, c, d⟩ := t
  simp only [det, thenV, backV, Prod.mk.injEq] at *
  refine ⟨?_, ?_, ?_, ?_⟩ <;> grind
abbrev I3 := Int × Int × Int
abbrev t3 (p : I3) : Dt := T3 p.1 p.2.1 p.2.2
def B3 (n : Nat) (p : I3) : Prop := Bt n p.1 ∧ Bt n p.2.1 ∧ Bt n p.2.2
theorem B3.le {n m : Nat} {t : I3} (h : B3 n t) (l : n ≤ m) : B3 m t := ⟨h.1.le l, h.2.1.le l, h.2.2.le l⟩
def meas (f : I3) : Int := f.2.1 * f.2.1 - 4 * f.1 * f.2.2
def val (f : I3) (p : I2) : Int := f.1 * p.1 * p.1 + f.2.1 * p.1 * p.2 + f.2.2 * p.2 * p.2
def mid (f : I3) (l r : I2) : Int := 2 * f.1 * l.1 * r.1 + f.2.1 * (l.1 * r.2 + r.1 * l.2) + 2 * f.2.2 * l.2 * r.2
def mov (f : I3) (t : I4) : I3 := (val f (t.1, t.2.2.1), mid f (t.1, t.2.2.1) (t.2.1, t.2.2.2), val f (t.2.1, t.2.2.2))
theorem meas_mov {f : I3} {t : I4} (h : det t = 1) : meas (mov f t) = meas f := by
  obtain ⟨a, b, c⟩ := f; obtain ⟨e, g, i, j⟩ := t
  simp only [det] at h
  have e1 : meas (mov (a, b, c) (e, g, i, j)) = (e * j - g * i) * (e * j - g * i) * meas (a, b, c) := by simp only [meas, mov, val, mid]; grind
  rw [e1, h]; simp
theorem mov_then {f : I3} {t u : I4} : mov (mov f t) u = mov f (thenV t u) := by
  obtain ⟨a, b, c⟩ := f; obtain ⟨e, g, i, j⟩ := t; obtain ⟨k, l, m, n⟩ := u
  simp only [mov, val, mid, thenV, Prod.mk.injEq]
  refine ⟨?_, ?_, ?_⟩ <;> grind
theorem mov_same {f : I3} : mov f (1, 0, 0, 1) = f := by
  obtain ⟨a, b, c⟩ := f
  simp only [mov, val, mid, Prod.mk.injEq]
  refine ⟨?_, ?_, ?_⟩ <;> grind
theorem B3.mov {f : I3} {t : I4} {n m : Nat} (hf : B3 n f) (ht : B4 m t) : B3 (n + m + m + 5) (mov f t) := by
  obtain ⟨a, b, c⟩ := f; obtain ⟨e, g, i, j⟩ := t
  obtain ⟨ha, hb, hc⟩ := hf
  obtain ⟨he, hg, hi, hj⟩ := ht
  have h2 : Bt 2 2 := Bt.of_abs (by decide)
  refine ⟨?_, ?_, ?_⟩
  · exact ((((ha.mul he).mul he).add ((hb.mul he).mul hi)).add ((hc.mul hi).mul hi)).le (by omega)
  · exact (((((h2.mul ha).mul he).mul hg).add (hb.mul ((he.mul hj).add (hg.mul hi)))).add (((h2.mul hc).mul hi).mul hj)).le (by omega)
  · exact ((((ha.mul hg).mul hg).add ((hb.mul hg).mul hj)).add ((hc.mul hj).mul hj)).le (by omega)
def Sq (n r : Int) : Prop := 0 ≤ r ∧ r * r ≤ n ∧ n < (r + 1) * (r + 1)
theorem Sq.uniq {n r s : Int} (a : Sq n r) (b : Sq n s) : r = s := by
  obtain ⟨a0, a1, a2⟩ := a
  obtain ⟨b0, b1, b2⟩ := b
  rcases Int.lt_trichotomy r s with h | h | h
  · have := Int.mul_le_mul (show r + 1 ≤ s by omega) (show r + 1 ≤ s by omega) (by omega) b0
    omega
  · exact h
  · have := Int.mul_le_mul (show s + 1 ≤ r by omega) (show s + 1 ≤ r by omega) (by omega) a0
    omega
theorem newton_up {n g : Int} (hn : 0 ≤ n) (hg : 0 < g) : n < ((g + n / g) / 2 + 1) * ((g + n / g) / 2 + 1) := by
  have h1 : n < g * (n / g) + g := Int.lt_mul_ediv_self_add hg
  have h0 : 0 ≤ n / g := Int.ediv_nonneg hn (by omega)
  generalize n / g = q at *
  have hb : g + q ≤ 2 * ((g + q) / 2) + 1 := by omega
  have hb0 : 0 ≤ (g + q) / 2 := by omega
  generalize (g + q) / 2 = b at *
  have z1 : 0 ≤ (g - q - 1) * (g - q - 1) := by
    rcases Int.le_total 0 (g - q - 1) with h | h
    · exact Int.mul_nonneg h h
    · exact Int.mul_nonneg_of_nonpos_of_nonpos h h
  have z2 : (g + q + 1) * (g + q + 1) = (g - q - 1) * (g - q - 1) + 4 * (g * q + g) := by grind
  have z3 : (g + q + 1) * (g + q + 1) ≤ (2 * (b + 1)) * (2 * (b + 1)) := Int.mul_le_mul (by omega) (by omega) (by omega) (by omega)
  have z4 : (2 * (b + 1)) * (2 * (b + 1)) = 4 * ((b + 1) * (b + 1)) := by grind
  omega
theorem newton_end {n g : Int} (hg : 0 < g) (h : g ≤ (g + n / g) / 2) : g * g ≤ n := by
  have h1 : g * (n / g) ≤ n := Int.mul_ediv_self_le (by omega)
  have h2 : g ≤ n / g := by omega
  have := Int.mul_le_mul_of_nonneg_left h2 (show 0 ≤ g by omega)
  omega
theorem newton_down {n g : Int} (hg : 0 < g) (h : n < g * g) : (g + n / g) / 2 < g := by
  have h2 : n / g < g := Int.ediv_lt_of_lt_mul hg (by rw [Int.mul_comm] at h; exact h)
  omega
theorem newton_pos {n g : Int} (hn : 1 ≤ n) (hg : 0 < g) : 0 < (g + n / g) / 2 := by
  have h0 : 0 ≤ n / g := Int.ediv_nonneg (by omega) (by omega)
  rcases Int.lt_or_le g 2 with h | h
  · have : g = 1 := by omega
    subst this
    rw [Int.ediv_one]; omega
  · omega
theorem start_up {n : Int} (hn : 0 ≤ n) : n < (1 * 2 ^ ((((Builtin.Int.intBits n : Nat) : Int) + 1).fdiv 2).toNat + 1) * (1 * 2 ^ ((((Builtin.Int.intBits n : Nat) : Int) + 1).fdiv 2).toNat + 1) := by
  have h1 : n.natAbs < 2 ^ Builtin.Int.intBits n := intBits_le_iff.mp (Nat.le_refl _)
  generalize Builtin.Int.intBits n = b at *
  have e : ((((b : Nat) : Int) + 1).fdiv 2).toNat = (b + 1) / 2 := by
    rw [Int.fdiv_eq_ediv_of_nonneg _ (by decide)]; omega
  rw [e]
  generalize hk : (b + 1) / 2 = k
  have h2 : 2 ^ b ≤ 2 ^ k * 2 ^ k := by rw [← Nat.pow_add]; exact Nat.pow_le_pow_right (by decide) (by omega)
  have h3 : n < ((2 ^ k * 2 ^ k : Nat) : Int) := by omega
  have h4 : ((2 ^ k * 2 ^ k : Nat) : Int) = (2 ^ k : Int) * 2 ^ k := by push_cast; rfl
  rw [h4] at h3
  have h5 : (0 : Int) ≤ 2 ^ k := Int.pow_nonneg (by decide)
  generalize (2 ^ k : Int) = z at *
  have : (1 * z + 1) * (1 * z + 1) = z * z + 2 * z + 1 := by grind
  omega
theorem start_small {n : Int} (h : Bt 4000 n) : CPow 1 ((((Builtin.Int.intBits n : Nat) : Int) + 1).fdiv 2) ∧ Bt 2001 (1 * 2 ^ ((((Builtin.Int.intBits n : Nat) : Int) + 1).fdiv 2).toNat) ∧ 0 < (1 * 2 ^ ((((Builtin.Int.intBits n : Nat) : Int) + 1).fdiv 2).toNat : Int) := by
  have hb : Builtin.Int.intBits n ≤ 4000 := intBits_le_iff.mpr h
  generalize Builtin.Int.intBits n = b at *
  rw [Int.fdiv_eq_ediv_of_nonneg _ (by decide)]
  refine ⟨⟨by omega, by omega, by decide⟩, ?_, ?_⟩
  · have e : (((b : Int) + 1) / 2).toNat ≤ 2000 := by omega
    generalize (((b : Int) + 1) / 2).toNat = k at *
    unfold Bt
    rw [Int.one_mul, Int.natAbs_pow]
    exact Nat.pow_lt_pow_right (by decide) (by omega)
  · rw [Int.one_mul]
    exact Int.pow_pos (by decide)
theorem near_eq {n g : Int} (hg : 0 < g) : (g + n.fdiv g).fdiv 2 = (g + n / g) / 2 := by
  rw [Int.fdiv_eq_ediv_of_nonneg _ (by decide), Int.fdiv_eq_ediv_of_nonneg _ (by omega)]
def isSq (n : Int) : Prop := ∃ r : Int, r * r = n
theorem isSq_iff {n r : Int} (h : Sq n r) : isSq n ↔ r * r = n := by
  refine ⟨fun ⟨s, e⟩ => ?_, fun e => ⟨r, e⟩⟩
  have hs : Sq n (s.natAbs : Int) := by
    have e2 : (s.natAbs : Int) * (s.natAbs : Int) = n := (Int.natAbs_mul_self' s).trans e
    refine ⟨by omega, by omega, ?_⟩
    have : ((s.natAbs : Int) + 1) * ((s.natAbs : Int) + 1) = (s.natAbs : Int) * (s.natAbs : Int) + 2 * (s.natAbs : Int) + 1 := by grind
    omega
  rw [h.uniq hs]
  exact (Int.natAbs_mul_self' s).trans e
theorem isSq_neg {n : Int} (h : n < 0) : ¬ isSq n := fun ⟨r, e⟩ => by
  have : 0 ≤ r * r := by
    rcases Int.le_total 0 r with h | h
    · exact Int.mul_nonneg h h
    · exact Int.mul_nonneg_of_nonpos_of_nonpos h h
  omega
abbrev sp_root : DSp := spec (fun n : Int => [.int n]) (fun n => 0 ≤ n ∧ Bt 4000 n) fun n d => ∃ r, d = .int r ∧ Sq n r ∧ Bt 2001 r
abbrev sp_is_square : DSp := spec (fun n : Int => [.int n]) (fun n => Bt 4000 n) fun n d => ∃ b : Bool, d = .bl b ∧ (b = true ↔ isSq n)
def g3 (f : I3) : Nat := Int.gcd ((Int.gcd f.1 f.2.1 : Nat) : Int) f.2.2
def Pt (x y : Int) : Prop := ¬ (x = 0 ∧ y = 0)
structure Least (f : I3) : Prop where
  pos : 0 < f.1
  lo : -f.1 ≤ f.2.1
  hi : f.2.1 ≤ f.1
  ac : f.1 ≤ f.2.2
  edge : f.2.1 = -f.1 ∨ f.1 = f.2.2 → 0 ≤ f.2.1
theorem sq_pos {x : Int} (h : x ≠ 0) : 1 ≤ x * x := by
  rcases Int.lt_or_lt_of_ne h with h | h
  · have := Int.mul_le_mul_of_nonneg_left (show 1 ≤ -x by omega) (show 0 ≤ -x by omega)
    have e : (-x) * (-x) = x * x := by grind
    omega
  · have := Int.mul_le_mul_of_nonneg_left (show 1 ≤ x by omega) (show 0 ≤ x by omega)
    omega
theorem val_off {a b c x y : Int} (ha : 0 < a) (h1 : -a ≤ b) (h2 : b ≤ a) (hc : a ≤ c) (hx : x ≠ 0) (hy : y ≠ 0) : c ≤ val (a, b, c) (x, y) := by
  have key : ∀ X Y B : Int, 1 ≤ X → 1 ≤ Y → 0 ≤ B → B ≤ a → a + c - B ≤ a * (X * X) - B * (X * Y) + c * (Y * Y) := fun X Y B hX hY hB0 hB => by
    have sX : 1 ≤ X * X := sq_pos (by omega)
    have sY : 1 ≤ Y * Y := sq_pos (by omega)
    rcases Int.le_total Y X with h | h
    · have z1 : X * Y ≤ X * X := Int.mul_le_mul_of_nonneg_left h (by omega)
      have z2 : B * (X * Y) ≤ B * (X * X) := Int.mul_le_mul_of_nonneg_left z1 hB0
      have z3 : (a - B) * 1 ≤ (a - B) * (X * X) := Int.mul_le_mul_of_nonneg_left sX (by omega)
      have z4 : c * 1 ≤ c * (Y * Y) := Int.mul_le_mul_of_nonneg_left sY (by omega)
      have z5 : (a - B) * (X * X) = a * (X * X) - B * (X * X) := by grind
      omega
    · have z1 : X * Y ≤ Y * Y := Int.mul_le_mul_of_nonneg_right h (by omega)
      have z2 : B * (X * Y) ≤ B * (Y * Y) := Int.mul_le_mul_of_nonneg_left z1 hB0
      have z3 : (c - B) * 1 ≤ (c - B) * (Y * Y) := Int.mul_le_mul_of_nonneg_left sY (by omega)
      have z4 : a * 1 ≤ a * (X * X) := Int.mul_le_mul_of_nonneg_left sX (by omega)
      have z5 : (c - B) * (Y * Y) = c * (Y * Y) - B * (Y * Y) := by grind
      omega
  have hX : 1 ≤ (x.natAbs : Int) := by omega
  have hY : 1 ≤ (y.natAbs : Int) := by omega
  have k := key x.natAbs y.natAbs b.natAbs hX hY (by omega) (by omega)
  have e1 : (x.natAbs : Int) * x.natAbs = x * x := Int.natAbs_mul_self' x
  have e2 : (y.natAbs : Int) * y.natAbs = y * y := Int.natAbs_mul_self' y
  have e3 : -((b.natAbs : Int) * ((x.natAbs : Int) * y.natAbs)) ≤ b * (x * y) := by
    have : ((b.natAbs : Int) * ((x.natAbs : Int) * y.natAbs)) = ((b * (x * y)).natAbs : Int) := by rw [Int.natAbs_mul, Int.natAbs_mul]; push_cast; rfl
    rw [this]; omega
  rw [e1, e2] at k
  have e4 : val (a, b, c) (x, y) = a * (x * x) + b * (x * y) + c * (y * y) := by simp only [val]; grind
  rw [e4]
  omega
theorem val_ax {a b c x : Int} : val (a, b, c) (x, 0) = a * (x * x) := by simp only [val]; grind
theorem val_ay {a b c y : Int} : val (a, b, c) (0, y) = c * (y * y) := by simp only [val]; grind
theorem Least.min {f : I3} (L : Least f) {x y : Int} (h : Pt x y) : f.1 ≤ val f (x, y) := by
  obtain ⟨a, b, c⟩ := f
  obtain ⟨h0, h1, h2, h3, _⟩ := L
  simp only at h0 h1 h2 h3 ⊢
  by_cases hy : y = 0
  · subst hy
    have hx : x ≠ 0 := fun z => h ⟨z, rfl⟩
    rw [val_ax]
    have := Int.mul_le_mul_of_nonneg_left (sq_pos hx) (show 0 ≤ a by omega)
    omega
  · by_cases hx : x = 0
    · subst hx
      rw [val_ay]
      have := Int.mul_le_mul_of_nonneg_left (sq_pos hy) (show 0 ≤ c by omega)
      omega
    · have := val_off h0 h1 h2 h3 hx hy
      omega
theorem Least.low {f : I3} (L : Least f) {x y : Int} (h : val f (x, y) < f.2.2) : y = 0 := by
  obtain ⟨a, b, c⟩ := f
  obtain ⟨h0, h1, h2, h3, _⟩ := L
  simp only at h0 h1 h2 h3 h ⊢
  by_cases hy : y = 0
  · exact hy
  · exfalso
    by_cases hx : x = 0
    · subst hx
      rw [val_ay] at h
      have := Int.mul_le_mul_of_nonneg_left (sq_pos hy) (show 0 ≤ c by omega)
      omega
    · have := val_off h0 h1 h2 h3 hx hy
      omega
theorem pt_col {t : I4} (h : det t = 1) : Pt t.1 t.2.2.1 := fun ⟨h1, h2⟩ => by
  obtain ⟨p, q, r, s⟩ := t
  simp only [det] at h h1 h2
  rw [h1, h2] at h
  simp at h
theorem mov_back {f : I3} {t : I4} (h : det t = 1) : mov (mov f t) (backV t) = f := by rw [mov_then, then_back h, mov_same]
theorem one_of_sq {x : Int} (h : x * x = 1) : x = 1 ∨ x = -1 := by
  rcases Int.lt_or_le x 0 with z | z
  · have : (-x) * (-x) = 1 := by grind
    rcases Int.lt_or_le (-x) 2 with w | w
    · exact .inr (by omega)
    · have := Int.mul_le_mul w w (by decide) (by omega)
      omega
  · rcases Int.lt_or_le x 2 with w | w
    · rcases Int.lt_or_le x 1 with v | v
      · have : x = 0 := by omega
        rw [this] at h; simp at h
      · exact .inl (by omega)
    · have := Int.mul_le_mul w w (by decide) z
      omega
theorem Least.fix {f : I3} {t : I4} (L : Least f) (M : Least (mov f t)) (h : det t = 1) (ha : (mov f t).1 = f.1) (hc : f.1 < f.2.2) : t = (1, 0, 0, 1) ∨ t = (-1, 0, 0, -1) := by
  obtain ⟨a, b, c⟩ := f
  obtain ⟨p, q, r, s⟩ := t
  have e1 : (mov (a, b, c) (p, q, r, s)).1 = val (a, b, c) (p, r) := rfl
  have hr : r = 0 := L.low (x := p) (by rw [← e1, ha]; exact hc)
  subst hr
  rw [e1, val_ax] at ha
  have h0 : 0 < a := L.pos
  simp only at ha
  have hpp : p * p = 1 := by
    have : a * (p * p) = a * 1 := by rw [ha]; omega
    exact Int.eq_of_mul_eq_mul_left (by omega) this
  have hps : p * s = 1 := by simp only [det] at h; omega
  have hb : (mov (a, b, c) (p, q, 0, s)).2.1 = 2 * (a * (p * q)) + b := by
    show 2 * a * p * q + b * (p * s + q * 0) + 2 * c * 0 * s = _
    rw [hps]; grind
  have m1 : -a ≤ 2 * (a * (p * q)) + b := by
    have := M.lo
    rw [hb, e1, val_ax, hpp] at this
    omega
  have m2 : 2 * (a * (p * q)) + b ≤ a := by
    have := M.hi
    rw [hb, e1, val_ax, hpp] at this
    omega
  have m3 : 2 * (a * (p * q)) + b = -a → 0 ≤ 2 * (a * (p * q)) + b := fun z => by
    have := M.edge (.inl (by rw [hb, e1, val_ax, hpp]; omega))
    rw [hb] at this
    exact this
  have l1 : -a ≤ b := L.lo
  have l2 : b ≤ a := L.hi
  have l3 : b = -a → 0 ≤ b := fun z => L.edge (.inl z)
  have hq : p * q = 0 := by
    generalize p * q = k at *
    rcases Int.lt_trichotomy k 0 with z | z | z
    · have := Int.mul_le_mul_of_nonneg_left (show k ≤ -1 by omega) (show 0 ≤ a by omega)
      omega
    · exact z
    · have := Int.mul_le_mul_of_nonneg_left (show 1 ≤ k by omega) (show 0 ≤ a by omega)
      omega
  rcases one_of_sq hpp with rfl | rfl
  · have h1 : q = 0 := by omega
    have h2 : s = 1 := by omega
    rw [h1, h2]; exact .inl rfl
  · have h1 : q = 0 := by omega
    have h2 : s = -1 := by omega
    rw [h1, h2]; exact .inr rfl
theorem Least.one {f : I3} {t : I4} (L : Least f) (M : Least (mov f t)) (h : det t = 1) : mov f t = f := by
  have d1 : f.1 ≤ (mov f t).1 := by
    have e1 : (mov f t).1 = val f (t.1, t.2.2.1) := rfl
    rw [e1]; exact L.min (pt_col h)
  have hk : det (backV t) = 1 := det_back.trans h
  have d2 : (mov f t).1 ≤ f.1 := by
    have := M.min (pt_col hk)
    have e1 : (mov (mov f t) (backV t)).1 = val (mov f t) ((backV t).1, (backV t).2.2.1) := rfl
    rw [← e1, mov_back h] at this
    exact this
  have ha : (mov f t).1 = f.1 := by omega
  have hm := meas_mov (f := f) h
  by_cases hc : f.1 < f.2.2
  · rcases L.fix M h ha hc with e | e
    · rw [e, mov_same]
    · rw [e]
      obtain ⟨a, b, c⟩ := f
      simp only [mov, val, mid, Prod.mk.injEq]
      refine ⟨?_, ?_, ?_⟩ <;> grind
  · by_cases hc' : (mov f t).1 < (mov f t).2.2
    · exfalso
      have L' : Least (mov (mov f t) (backV t)) := by rw [mov_back h]; exact L
      have ha' : (mov (mov f t) (backV t)).1 = (mov f t).1 := by rw [mov_back h]; exact ha.symm
      rcases M.fix L' hk ha' hc' with e | e
      · have : f = mov f t := by
          have z := mov_back (f := f) h
          rw [e, mov_same] at z
          exact z.symm
        rw [← this] at hc'
        exact hc hc'
      · have : f = mov f t := by
          have z := mov_back (f := f) h
          rw [e] at z
          have z2 : mov (mov f t) (-1, 0, 0, -1) = mov f t := by
            obtain ⟨a, b, c⟩ := mov f t
            simp only [mov, val, mid, Prod.mk.injEq]
            refine ⟨?_, ?_, ?_⟩ <;> grind
          rw [z2] at z
          exact z.symm
        rw [← this] at hc'
        exact hc hc'
    · have l3 := L.ac
      have m3 := M.ac
      have l5 := L.edge (.inr (by omega))
      have m5 := M.edge (.inr (by omega))
      have l0 := L.pos
      have e2 : f.2.2 = f.1 := by omega
      have e3 : (mov f t).2.2 = f.1 := by omega
      generalize mov f t = g at *
      obtain ⟨a, b, c⟩ := f
      obtain ⟨a', b', c'⟩ := g
      simp only at *
      subst ha e2 e3
      simp only [meas] at hm
      have hbb : b' * b' = b * b := by omega
      have : b' = b := by
        rcases Int.lt_trichotomy b' b with z | z | z
        · have z1 : b' * b' ≤ b' * b := Int.mul_le_mul_of_nonneg_left (by omega) m5
          have z2 : b' * b < b * b := Int.mul_lt_mul_of_pos_right z (by omega)
          omega
        · exact z
        · have z1 : b * b ≤ b * b' := Int.mul_le_mul_of_nonneg_left (by omega) l5
          have z2 : b * b' < b' * b' := Int.mul_lt_mul_of_pos_right z (by omega)
          omega
      rw [this]
theorem ix_any {ds : List Dt} {k : Int} (h0 : 0 ≤ k) (h1 : k < ds.length) : ∃ d, ixD k (.lst ds) = some d ∧ ixL k ds = some d ∧ ds[k.toNat]? = some d := by
  obtain ⟨j, rfl⟩ := Int.eq_ofNat_of_zero_le h0
  have hj : j < ds.length := by omega
  have e : ds[j]? = some ds[j] := by simp [hj]
  exact ⟨_, e, e, e⟩
theorem fm_range (x : Int) {m : Int} (h : 0 < m) : 0 ≤ x.fmod m ∧ x.fmod m < m := ⟨Int.fmod_nonneg_of_pos x h, Int.fmod_lt_of_pos x h⟩
theorem cut_mem (ns : List Int) (lo hi : Option Int) : ∃ cs : List Int, cutD (ns.map Dt.int) lo hi = cs.map Dt.int ∧ cs.length ≤ ns.length ∧ ∀ n ∈ cs, n ∈ ns := by
  refine ⟨(ns.drop (HT.sIx (ns.map Dt.int).length 0 lo)).take (HT.sIx (ns.map Dt.int).length (ns.map Dt.int).length hi - HT.sIx (ns.map Dt.int).length 0 lo), by unfold cutD; rw [List.map_take, List.map_drop], ?_, fun n h => List.mem_of_mem_drop (List.mem_of_mem_take h)⟩
  rw [List.length_take, List.length_drop]; omega
end My

namespace My
open PySem L2
def rowN (n f : Int) (r : I3) : I3 := (r.2.2 * r.2.1 - r.1, (n - (r.2.2 * r.2.1 - r.1) * (r.2.2 * r.2.1 - r.1)).fdiv r.2.1, (f + (r.2.2 * r.2.1 - r.1)).fdiv ((n - (r.2.2 * r.2.1 - r.1) * (r.2.2 * r.2.1 - r.1)).fdiv r.2.1))
def rowAt (n f : Int) : Nat → I3
  | 0 => (0, 1, f)
  | i + 1 => rowN n f (rowAt n f i)
structure RowOk (n f : Int) (r s : I3) : Prop where
  p : s.1 = r.2.2 * r.2.1 - r.1
  q : r.2.1 * s.2.1 = n - s.1 * s.1
  a : s.2.2 * s.2.1 ≤ f + s.1
  b : f + s.1 < (s.2.2 + 1) * s.2.1
  p0 : 0 < s.1
  pf : s.1 ≤ f
  q1 : 1 ≤ s.2.1
  a1 : 1 ≤ s.2.2
  w : f < s.1 + s.2.1
  q2 : s.2.1 ≤ 2 * f
  v : f < s.1 + r.2.1
def chk (n f : Nat) : Nat → Nat → Nat → Nat → Bool
  | 0, _, _, _ => false
  | k + 1, p, q, a =>
    (fun p' => (fun q' => (fun a' =>
    (Nat.ble p (a * q) && (Nat.ble (p' * p') n && (Nat.beq (q * q') (n - p' * p') && (Nat.ble 1 p' && (Nat.ble p' f && (Nat.ble 1 q' && (Nat.ble 1 a' && (Nat.ble (f + 1) (p' + q') && (Nat.ble q' (2 * f) && Nat.ble (f + 1) (p' + q')))))))))) &&
      (Nat.beq q' 1 || chk n f k p' q' a'))
      ((f + p') / q')) ((n - p' * p') / q)) (a * q - p)
def chkD (f : Nat) : Nat → Bool
  | 0 => true
  | d + 1 => chk (f * f + (d + 1)) f 90 0 1 f && chkD f d
def chkF : Nat → Bool
  | 0 => true
  | f + 1 => chkD (f + 1) (2 * (f + 1)) && chkF f
theorem chk_all : chkF 31 = true := by decide +kernel
theorem chkD_at {f : Nat} : ∀ {d k : Nat}, chkD f d = true → 1 ≤ k → k ≤ d → chk (f * f + k) f 90 0 1 f = true
  | 0, k, _, h1, h2 => by omega
  | d + 1, k, h, h1, h2 => by
    unfold chkD at h
    rw [Bool.and_eq_true] at h
    rcases Nat.lt_or_ge k (d + 1) with z | z
    · exact chkD_at h.2 h1 (by omega)
    · have : k = d + 1 := by omega
      subst this
      exact h.1
theorem chkF_at : ∀ {F f : Nat}, chkF F = true → 1 ≤ f → f ≤ F → chkD f (2 * f) = true
  | 0, f, _, h1, h2 => by omega
  | F + 1, f, h, h1, h2 => by
    unfold chkF at h
    rw [Bool.and_eq_true] at h
    rcases Nat.lt_or_ge f (F + 1) with z | z
    · exact chkF_at h.2 h1 (by omega)
    · have : f = F + 1 := by omega
      subst this
      exact h.1
theorem chk_at {f d : Nat} (h1 : 1 ≤ f) (h2 : f ≤ 31) (h3 : 1 ≤ d) (h4 : d ≤ 2 * f) : chk (f * f + d) f 90 0 1 f = true := chkD_at (chkF_at chk_all h1 h2) h3 h4
theorem rowN_nat {n f p q a : Nat} (h1 : p ≤ a * q) (h2 : (a * q - p) * (a * q - p) ≤ n) : rowN n f ((p : Int), (q : Int), (a : Int)) = (((a * q - p : Nat) : Int), (((n - (a * q - p) * (a * q - p)) / q : Nat) : Int), (((f + (a * q - p)) / ((n - (a * q - p) * (a * q - p)) / q) : Nat) : Int)) := by
  have e1 : (a : Int) * q - p = ((a * q - p : Nat) : Int) := by push_cast [h1]; omega
  unfold rowN
  dsimp only
  rw [e1]
  generalize a * q - p = p' at *
  have e2 : ((n : Int) - p' * p').fdiv q = (((n - p' * p') / q : Nat) : Int) := by
    have : (n : Int) - p' * p' = ((n - p' * p' : Nat) : Int) := by
      have := Int.natCast_mul p' p'
      omega
    rw [this, Int.fdiv_eq_ediv_of_nonneg _ (by omega)]
    exact (Int.natCast_ediv _ _).symm
  rw [e2]
  have e3 : ((f : Int) + p').fdiv (((n - p' * p') / q : Nat) : Int) = (((f + p') / ((n - p' * p') / q) : Nat) : Int) := by
    rw [Int.fdiv_eq_ediv_of_nonneg _ (Int.natCast_nonneg _)]
    have : (f : Int) + p' = ((f + p' : Nat) : Int) := by omega
    rw [this]
    exact (Int.natCast_ediv _ _).symm
  rw [e3]
theorem chk_ok {n f : Nat} : ∀ (k i p q a : Nat), rowAt n f i = ((p : Int), (q : Int), (a : Int)) → f < a * q - p + q → chk n f k p q a = true →
    ∃ L, i < L ∧ L ≤ i + k ∧ (rowAt n f L).2.1 = 1 ∧ (∀ j, i < j → j < L → (rowAt n f j).2.1 ≠ 1) ∧ ∀ j, i ≤ j → j < L → RowOk n f (rowAt n f j) (rowAt n f (j + 1))
  | 0, i, p, q, a, _, _, h => by cases h
  | k + 1, i, p, q, a, e, hv, h => by
    unfold chk at h
    simp only [Bool.and_eq_true, Bool.or_eq_true, Nat.ble_eq, Nat.beq_eq] at h
    obtain ⟨⟨h1, h2, h3, h4, h5, h6, h7, h8, h9, _⟩, h10⟩ := h
    have en : rowAt n f (i + 1) = rowN n f (rowAt n f i) := rfl
    rw [e, rowN_nat h1 h2] at en
    have ep : (((a * q - p : Nat) : Int)) = (a : Int) * q - p := by
      have := Int.natCast_mul a q
      omega
    have hR : RowOk n f (rowAt n f i) (rowAt n f (i + 1)) := by
      rw [en, e]
      have hd := Nat.div_add_mod (f + (a * q - p)) ((n - (a * q - p) * (a * q - p)) / q)
      have hm := Nat.mod_lt (f + (a * q - p)) (show (n - (a * q - p) * (a * q - p)) / q > 0 by omega)
      have hc := Nat.mul_comm ((n - (a * q - p) * (a * q - p)) / q) ((f + (a * q - p)) / ((n - (a * q - p) * (a * q - p)) / q))
      generalize hq : (n - (a * q - p) * (a * q - p)) / q = q' at *
      generalize ha : (f + (a * q - p)) / q' = a' at *
      generalize hp : a * q - p = p' at *
      have c1 := Int.natCast_mul p' p'
      have c2 := Int.natCast_mul q q'
      have c3 := Int.natCast_mul a' q'
      refine ⟨ep, ?_, ?_, ?_, ?_, ?_, ?_, ?_, ?_, ?_, ?_⟩ <;> dsimp only
      · omega
      · omega
      · have : ((a' : Int) + 1) * q' = a' * q' + q' := by rw [Int.add_mul, Int.one_mul]
        omega
      · omega
      · omega
      · omega
      · omega
      · omega
      · omega
      · omega
    by_cases hz : (n - (a * q - p) * (a * q - p)) / q = 1
    · refine ⟨i + 1, by omega, by omega, by rw [en]; dsimp only; rw [hz]; rfl, fun j h1 h2 => by omega, fun j h1 h2 => ?_⟩
      have : j = i := by omega
      subst this
      exact hR
    · have h11 := h10.resolve_left hz
      have hv' : f < (f + (a * q - p)) / ((n - (a * q - p) * (a * q - p)) / q) * ((n - (a * q - p) * (a * q - p)) / q) - (a * q - p) + ((n - (a * q - p) * (a * q - p)) / q) := by
        have hd := Nat.div_add_mod (f + (a * q - p)) ((n - (a * q - p) * (a * q - p)) / q)
        have hm := Nat.mod_lt (f + (a * q - p)) (show (n - (a * q - p) * (a * q - p)) / q > 0 by omega)
        have hc := Nat.mul_comm ((n - (a * q - p) * (a * q - p)) / q) ((f + (a * q - p)) / ((n - (a * q - p) * (a * q - p)) / q))
        omega
      obtain ⟨L, l1, l2, l3, l4, l5⟩ := chk_ok k (i + 1) _ _ _ en hv' h11
      refine ⟨L, by omega, by omega, l3, fun j h1 h2 => ?_, fun j h1 h2 => ?_⟩
      · rcases Nat.lt_or_ge (i + 1) j with z | z
        · exact l4 j z h2
        · have : j = i + 1 := by omega
          subst this
          rw [en]
          dsimp only
          omega
      · rcases Nat.lt_or_ge i j with z | z
        · exact l5 j z h2
        · have : j = i := by omega
          subst this
          exact hR
structure ChainOf (n f : Int) (L : Nat) : Prop where
  r : Sq n f
  f1 : 1 ≤ f
  f31 : f ≤ 31
  ne : f * f ≠ n
  l0 : 0 < L
  lm : L ≤ 90
  e : (rowAt n f L).2.1 = 1
  l : ∀ j, 0 < j → j < L → (rowAt n f j).2.1 ≠ 1
  ok : ∀ j, RowOk n f (rowAt n f j) (rowAt n f (j + 1))
  per : ∀ j, rowAt n f (L + 1 + j) = rowAt n f (1 + j)
theorem chain_closes {n f : Int} (h : Sq n f) (h2 : 2 ≤ n) (hm : n ≤ 1000) (hs : f * f ≠ n) : ∃ L, ChainOf n f L := by
  obtain ⟨h0, h1, h3⟩ := h
  have f1 : 1 ≤ f := by
    rcases Int.lt_or_le f 1 with z | z
    · have : f = 0 := by omega
      subst this
      omega
    · exact z
  have f31 : f ≤ 31 := by
    rcases Int.lt_or_le 31 f with z | z
    · have := Int.mul_le_mul (show 32 ≤ f by omega) (show 32 ≤ f by omega) (by decide) (by omega)
      omega
    · exact z
  obtain ⟨F, rfl⟩ := Int.eq_ofNat_of_zero_le h0
  have e1 : ((F : Int) + 1) * ((F : Int) + 1) = F * F + 2 * F + 1 := by grind
  obtain ⟨d, hd⟩ := Int.eq_ofNat_of_zero_le (show 0 ≤ n - (F : Int) * F by omega)
  have en : n = ((F * F + d : Nat) : Int) := by
    have := Int.natCast_mul F F
    omega
  subst en
  have hc := chk_at (f := F) (d := d) (by omega) (by omega) (by omega) (by omega)
  obtain ⟨L, l1, l2, l3, l4, l5⟩ := chk_ok (n := F * F + d) (f := F) 90 0 0 1 F rfl (by omega) hc
  have hl := l5 (L - 1) (by omega) (by omega)
  rw [show L - 1 + 1 = L by omega] at hl
  have eL : rowAt ((F * F + d : Nat) : Int) F L = ((F : Int), 1, 2 * (F : Int)) := by
    have h1 := hl.pf
    have h2 := hl.w
    have h3 := hl.a
    have h4 := hl.b
    generalize rowAt ((F * F + d : Nat) : Int) F L = s at *
    obtain ⟨a, b, c⟩ := s
    dsimp only at *
    subst l3
    refine Prod.ext ?_ (Prod.ext rfl ?_) <;> dsimp only <;> omega
  have per0 : rowAt ((F * F + d : Nat) : Int) F (L + 1) = rowAt ((F * F + d : Nat) : Int) F 1 := by
    show rowN _ _ (rowAt _ _ L) = rowN _ _ (0, 1, (F : Int))
    rw [eL]
    have e : 2 * (F : Int) * 1 - F = (F : Int) * 1 - 0 := by omega
    unfold rowN
    dsimp only
    rw [e]
  have per : ∀ j, rowAt ((F * F + d : Nat) : Int) F (L + 1 + j) = rowAt ((F * F + d : Nat) : Int) F (1 + j) := fun j => by
    induction j with
    | zero => exact per0
    | succ j ih =>
      show rowN _ _ (rowAt _ _ (L + 1 + j)) = rowN _ _ (rowAt _ _ (1 + j))
      rw [ih]
  have okp : ∀ k j, j < k → RowOk ((F * F + d : Nat) : Int) F (rowAt _ F j) (rowAt _ F (j + 1)) := fun k => by
    induction k with
    | zero => intro j h; omega
    | succ k ih =>
      intro j hj
      rcases Nat.lt_or_ge j L with z | z
      · exact l5 j (by omega) z
      · rcases Nat.lt_or_ge L j with y | y
        · have := ih (j - L) (by omega)
          have e1 : rowAt ((F * F + d : Nat) : Int) F j = rowAt ((F * F + d : Nat) : Int) F (j - L) := by
            have := per (j - L - 1)
            rw [show L + 1 + (j - L - 1) = j by omega, show 1 + (j - L - 1) = j - L by omega] at this
            exact this
          have e2 : rowAt ((F * F + d : Nat) : Int) F (j + 1) = rowAt ((F * F + d : Nat) : Int) F (j - L + 1) := by
            have := per (j - L)
            rw [show L + 1 + (j - L) = j + 1 by omega, show 1 + (j - L) = j - L + 1 by omega] at this
            exact this
          rw [e1, e2]
          exact this
        · have : j = L := by omega
          subst this
          have h0 : RowOk ((F * F + d : Nat) : Int) F (rowAt _ F 0) (rowAt _ F 1) := l5 0 (by omega) (by omega)
          rw [per0]
          rw [eL]
          have e0 : rowAt ((F * F + d : Nat) : Int) F 0 = (0, 1, (F : Int)) := rfl
          rw [e0] at h0
          obtain ⟨a1, a2, a3, a4, a5, a6, a7, a8, a9, a10, a11⟩ := h0
          dsimp only at a1 a2 a11
          exact ⟨by dsimp only; omega, a2, a3, a4, a5, a6, a7, a8, a9, a10, a11⟩
  exact ⟨L, ⟨by omega, h1, h3⟩, by omega, by omega, hs, l1, by omega, l3, fun j a b => l4 j a b, fun j => okp (j + 1) j (by omega), per⟩
theorem ChainOf.last {n f : Int} {L : Nat} (C : ChainOf n f L) : rowAt n f L = (f, 1, 2 * f) := by
  have hl := C.ok (L - 1)
  have h0 := C.l0
  rw [show L - 1 + 1 = L by omega] at hl
  have h1 := hl.pf
  have h2 := hl.w
  have h3 := hl.a
  have h4 := hl.b
  have l3 := C.e
  generalize rowAt n f L = s at *
  obtain ⟨a, b, c⟩ := s
  dsimp only at *
  subst l3
  refine Prod.ext ?_ (Prod.ext rfl ?_) <;> dsimp only <;> omega
theorem ChainOf.round {n f : Int} {L : Nat} (C : ChainOf n f L) : ∀ m j, rowAt n f (1 + (j + m * L)) = rowAt n f (1 + j)
  | 0, j => by rw [Nat.zero_mul, Nat.add_zero]
  | m + 1, j => by
    have := C.per (j + m * L)
    rw [show L + 1 + (j + m * L) = 1 + (j + (m + 1) * L) by rw [Nat.succ_mul]; omega] at this
    rw [this, C.round m j]
theorem ChainOf.mod {n f : Int} {L : Nat} (C : ChainOf n f L) (k : Nat) (h : 0 < k) : rowAt n f k = rowAt n f (1 + (k - 1) % L) := by
  have := C.round ((k - 1) / L) ((k - 1) % L)
  rw [show 1 + ((k - 1) % L + (k - 1) / L * L) = k by have := Nat.mod_add_div (k - 1) L; rw [Nat.mul_comm]; omega] at this
  exact this
theorem ChainOf.small {n f : Int} {L : Nat} (C : ChainOf n f L) (j : Nat) : 0 ≤ (rowAt n f j).1 ∧ (rowAt n f j).1 ≤ 31 ∧ 1 ≤ (rowAt n f j).2.1 ∧ (rowAt n f j).2.1 ≤ 62 ∧ 1 ≤ (rowAt n f j).2.2 ∧ (rowAt n f j).2.2 ≤ 62 := by
  have h1 := C.f1
  have h31 := C.f31
  match j with
  | 0 =>
    have e0 : rowAt n f 0 = (0, 1, f) := rfl
    rw [e0]
    dsimp only
    omega
  | j + 1 =>
    have h := C.ok j
    obtain ⟨a1, a2, a3, a4, a5, a6, a7, a8, a9, a10, a11⟩ := h
    generalize rowAt n f (j + 1) = s at *
    obtain ⟨x, y, z⟩ := s
    dsimp only at *
    refine ⟨by omega, by omega, by omega, by omega, by omega, ?_⟩
    have := Int.mul_le_mul_of_nonneg_left a7 (show 0 ≤ z by omega)
    omega
end My

namespace My
open PySem L2
def prB (p : I2 × I2) (a : Int) : I2 × I2 := (p.2, (a * p.2.1 + p.1.1, a * p.2.2 + p.1.2))
def prAt (n f : Int) : Nat → I2 × I2
  | 0 => ((1, 0), (f, 1))
  | k + 1 => prB (prAt n f k) (rowAt n f (k + 1)).2.2
def sg : Nat → Int
  | 0 => 1
  | k + 1 => -sg k
theorem sg_cases (k : Nat) : sg k = 1 ∨ sg k = -1 := by
  induction k with
  | zero => exact .inl rfl
  | succ k ih => unfold sg; omega
structure FrOk (n s : Int) (r t : I3) (x' y' x y : Int) : Prop where
  a : x * x - n * (y * y) = -s * t.2.1
  b : x' * x' - n * (y' * y') = s * r.2.1
  c : x * x' - n * (y * y') = s * t.1
  d : x * y' - x' * y = -s
  x0 : 1 ≤ x
  y0 : 1 ≤ y
  x1 : 1 ≤ x'
  y1 : 0 ≤ y'
  yy : y' ≤ y
theorem ChainOf.fr {n f : Int} {L : Nat} (C : ChainOf n f L) : ∀ k, FrOk n (sg k) (rowAt n f k) (rowAt n f (k + 1)) (prAt n f k).1.1 (prAt n f k).1.2 (prAt n f k).2.1 (prAt n f k).2.2
  | 0 => by
    have h := (C.ok 0)
    have h1 := h.p
    have h2 := h.q
    have hf := C.f1
    have e0 : rowAt n f 0 = (0, 1, f) := rfl
    rw [e0] at h1 h2
    dsimp only at h1 h2
    have e1 : (rowAt n f (0 + 1)).1 = f := by omega
    rw [e1] at h2
    refine ⟨?_, ?_, ?_, ?_, ?_, ?_, ?_, ?_, ?_⟩ <;> simp only [prAt, sg, e0, e1] <;> omega
  | k + 1 => by
    obtain ⟨a, b, c, d, x0, y0, x1, y1, yy⟩ := C.fr k
    have h := C.ok (k + 1)
    have hp := h.p
    have hq := h.q
    have g := C.ok k
    have gq := g.q
    have g1 := g.q1
    have a1 := g.a1
    show FrOk n (sg (k + 1)) (rowAt n f (k + 1)) (rowAt n f (k + 1 + 1)) (prAt n f k).2.1 (prAt n f k).2.2 ((rowAt n f (k + 1)).2.2 * (prAt n f k).2.1 + (prAt n f k).1.1) ((rowAt n f (k + 1)).2.2 * (prAt n f k).2.2 + (prAt n f k).1.2)
    show FrOk n (-sg k) _ _ _ _ _ _
    generalize sg k = s at *
    generalize prAt n f k = pr at *
    generalize rowAt n f (k + 1 + 1) = t at *
    generalize rowAt n f (k + 1) = u at *
    generalize rowAt n f k = r at *
    obtain ⟨⟨x', y'⟩, x, y⟩ := pr
    obtain ⟨r1, r2, r3⟩ := r
    obtain ⟨u1, u2, u3⟩ := u
    obtain ⟨t1, t2, t3⟩ := t
    dsimp only at *
    have hx := Int.mul_le_mul a1 x0 (by decide) (by omega)
    have hy := Int.mul_le_mul a1 y0 (by decide) (by omega)
    have hy' := Int.mul_le_mul_of_nonneg_right a1 (show 0 ≤ y by omega)
    refine ⟨?_, ?_, ?_, ?_, ?_, ?_, ?_, ?_, ?_⟩ <;> (try dsimp only)
    · have e : (u3 * x + x') * (u3 * x + x') - n * ((u3 * y + y') * (u3 * y + y')) = s * (-(u3 * u3 * u2) + 2 * u3 * u1 + r2) := by
        have z : (u3 * x + x') * (u3 * x + x') - n * ((u3 * y + y') * (u3 * y + y')) = u3 * u3 * (x * x - n * (y * y)) + 2 * u3 * (x * x' - n * (y * y')) + (x' * x' - n * (y' * y')) := by grind
        rw [z, a, b, c]
        grind
      rw [e]
      have e2 : -(u3 * u3 * u2) + 2 * u3 * u1 + r2 = t2 := by
        have : u2 * (-(u3 * u3 * u2) + 2 * u3 * u1 + r2) = u2 * t2 := by
          rw [hq, hp]
          grind
        exact Int.eq_of_mul_eq_mul_left (by omega) this
      rw [e2]
      grind
    · rw [a]
    · have z : (u3 * x + x') * x - n * ((u3 * y + y') * y) = u3 * (x * x - n * (y * y)) + (x * x' - n * (y * y')) := by grind
      rw [z, a, c, hp]
      grind
    · have z : (u3 * x + x') * y - x * (u3 * y + y') = -(x * y' - x' * y) := by grind
      rw [z, d]
    · omega
    · omega
    · omega
    · omega
    · omega
theorem ChainOf.sizes {n f : Int} {L : Nat} (C : ChainOf n f L) : ∀ k, (prAt n f k).2.1 ≤ 32 * (prAt n f k).2.2 ∧ (prAt n f k).1.1 ≤ 32 * (prAt n f k).1.2 + 1 ∧ (k : Int) ≤ (prAt n f k).2.2 ∧ (0 < k → (prAt n f k).1.1 ≤ 32 * (prAt n f k).1.2 ∧ 1 ≤ (prAt n f k).1.2)
  | 0 => by
    have := C.f31
    refine ⟨?_, ?_, ?_, ?_⟩ <;> simp only [prAt] <;> omega
  | k + 1 => by
    obtain ⟨h1, h2, h3, h4⟩ := C.sizes k
    have F := C.fr k
    have y0 := F.y0
    have g := (C.ok k).a1
    have f31 := C.f31
    have gg := C.small (k + 1)
    show (rowAt n f (k + 1)).2.2 * (prAt n f k).2.1 + (prAt n f k).1.1 ≤ 32 * ((rowAt n f (k + 1)).2.2 * (prAt n f k).2.2 + (prAt n f k).1.2) ∧ (prAt n f k).2.1 ≤ 32 * (prAt n f k).2.2 + 1 ∧ ((k + 1 : Nat) : Int) ≤ (rowAt n f (k + 1)).2.2 * (prAt n f k).2.2 + (prAt n f k).1.2 ∧ (0 < k + 1 → (prAt n f k).2.1 ≤ 32 * (prAt n f k).2.2 ∧ 1 ≤ (prAt n f k).2.2)
    have m1 := Int.mul_le_mul_of_nonneg_left h1 (show 0 ≤ (rowAt n f (k + 1)).2.2 by omega)
    have m2 := Int.mul_le_mul_of_nonneg_right g (show 0 ≤ (prAt n f k).2.2 by omega)
    have e : (rowAt n f (k + 1)).2.2 * (32 * (prAt n f k).2.2) = 32 * ((rowAt n f (k + 1)).2.2 * (prAt n f k).2.2) := by grind
    refine ⟨?_, by omega, ?_, fun _ => ⟨h1, y0⟩⟩
    · rcases Nat.eq_zero_or_pos k with z | z
      · subst z
        have e1 : prAt n f 0 = ((1, 0), (f, 1)) := rfl
        rw [e1] at *
        dsimp only at *
        have := Int.mul_le_mul_of_nonneg_left f31 (show 0 ≤ (rowAt n f (0 + 1)).2.2 by omega)
        omega
      · have := h4 z
        omega
    · rcases Nat.eq_zero_or_pos k with z | z
      · subst z
        have e1 : prAt n f 0 = ((1, 0), (f, 1)) := rfl
        rw [e1] at *
        dsimp only at *
        omega
      · have := h4 z
        omega
theorem ChainOf.ybt {n f : Int} {L : Nat} (C : ChainOf n f L) : ∀ k, (prAt n f k).2.2 ≤ 2 ^ (6 * k)
  | 0 => by show (1 : Int) ≤ 2 ^ 0; decide
  | k + 1 => by
    have h := C.ybt k
    have F := C.fr k
    have y0 := F.y0
    have yy := F.yy
    have g := C.small (k + 1)
    show (rowAt n f (k + 1)).2.2 * (prAt n f k).2.2 + (prAt n f k).1.2 ≤ _
    have m := Int.mul_le_mul_of_nonneg_right (show (rowAt n f (k + 1)).2.2 ≤ 62 by omega) (show 0 ≤ (prAt n f k).2.2 by omega)
    have e : (2 : Int) ^ (6 * (k + 1)) = 64 * 2 ^ (6 * k) := by rw [show 6 * (k + 1) = 6 * k + 6 by omega, Int.pow_add]; omega
    omega
theorem bt_of_le {m : Nat} {x : Int} (h0 : 0 ≤ x) (h : x ≤ 2 ^ m) : Bt (m + 1) x := by
  unfold Bt
  obtain ⟨X, rfl⟩ := Int.eq_ofNat_of_zero_le h0
  have e : ((2 : Int) ^ m) = ((2 ^ m : Nat) : Int) := by push_cast; rfl
  rw [e] at h
  rw [Int.natAbs_natCast, Nat.pow_succ]
  have : 0 < 2 ^ m := Nat.pow_pos (by decide)
  omega
theorem ChainOf.bty {n f : Int} {L : Nat} (C : ChainOf n f L) (k : Nat) : Bt (6 * k + 1) (prAt n f k).2.2 := bt_of_le (by have := (C.fr k).y0; omega) (C.ybt k)
theorem ChainOf.btx {n f : Int} {L : Nat} (C : ChainOf n f L) (k : Nat) : Bt (6 * k + 6) (prAt n f k).2.1 := by
  have h := C.ybt k
  have h1 := (C.sizes k).1
  refine bt_of_le (by have := (C.fr k).x0; omega) ?_
  have e : (2 : Int) ^ (6 * k + 5) = 32 * 2 ^ (6 * k) := by rw [Int.pow_add]; omega
  omega
structure Nb (n most x1 y1 x2 y2 : Int) : Prop where
  a1 : 0 ≤ x1
  b1 : 1 ≤ y1
  a2 : 0 ≤ x2
  b2 : 1 ≤ y2
  m1 : y1 ≤ most
  m2 : y2 ≤ most
  m : most < y1 + y2
  lo : x1 * x1 < n * (y1 * y1)
  hi : n * (y2 * y2) < x2 * x2
  d : x2 * y1 - x1 * y2 = 1
theorem beside_aux {n f s most x' y' x y t : Int} {r u : I3} (F : FrOk n s r u x' y' x y) (g : RowOk n f r u) (hs : s = 1 ∨ s = -1) (fr : Sq n f) (fne : f * f ≠ n) (h1 : y ≤ most) (h2 : most < u.2.2 * y + y') (ft : t = (most - y') / y) (hy : 1 ≤ y' ∨ y = 1) :
    (s = 1 ∧ Nb n most x y (t * x + x') (t * y + y')) ∨ (s = -1 ∧ Nb n most (t * x + x') (t * y + y') x y) := by
  obtain ⟨a, b, c, d, x0, y0, x1', y1', yy⟩ := F
  have gq := g.q
  have gq1 := g.q1
  have ga := g.a
  have gp := g.p0
  have gf := g.pf
  have eq := Int.mul_ediv_self_le (x := most - y') (k := y) (by omega)
  have el := Int.lt_mul_ediv_self_add (x := most - y') (k := y) (by omega)
  rw [← ft] at eq el
  have t0 : 0 ≤ t := by rw [ft]; exact Int.ediv_nonneg (by omega) (by omega)
  obtain ⟨r1, r2, r3⟩ := r
  obtain ⟨u1, u2, u3⟩ := u
  dsimp only at *
  have tc : t * y = y * t := Int.mul_comm _ _
  have ta : t ≤ u3 := by
    rcases Int.lt_or_le u3 t with z | z
    · have := Int.mul_le_mul_of_nonneg_right (Int.le_of_lt z) (show 0 ≤ y by omega)
      omega
    · exact z
  have y2p : 1 ≤ t * y + y' := by
    rcases hy with z | z
    · have := Int.mul_nonneg t0 (show 0 ≤ y by omega)
      omega
    · subst z
      omega
  have x2p : 0 ≤ t * x + x' := by
    have := Int.mul_nonneg t0 (show 0 ≤ x by omega)
    omega
  obtain ⟨f0, f1, f2⟩ := fr
  have gg : 0 < -(t * t * u2) + 2 * t * u1 + r2 := by
    have e : u2 * (-(t * t * u2) + 2 * t * u1 + r2) = n - (t * u2 - u1) * (t * u2 - u1) := by
      have : n = r2 * u2 + u1 * u1 := by omega
      rw [this]
      grind
    have l1 : t * u2 - u1 ≤ f := by
      have := Int.mul_le_mul_of_nonneg_right ta (show 0 ≤ u2 by omega)
      omega
    have l2 : -f ≤ t * u2 - u1 := by
      have := Int.mul_nonneg t0 (show 0 ≤ u2 by omega)
      omega
    have l3 : (t * u2 - u1) * (t * u2 - u1) ≤ f * f := by
      have := Int.mul_nonneg (show 0 ≤ f - (t * u2 - u1) by omega) (show 0 ≤ f + (t * u2 - u1) by omega)
      have e : (f - (t * u2 - u1)) * (f + (t * u2 - u1)) = f * f - (t * u2 - u1) * (t * u2 - u1) := by grind
      omega
    have l4 : 0 < u2 * (-(t * t * u2) + 2 * t * u1 + r2) := by omega
    exact Int.pos_of_mul_pos_right l4 (by omega)
  have ev : (t * x + x') * (t * x + x') - n * ((t * y + y') * (t * y + y')) = s * (-(t * t * u2) + 2 * t * u1 + r2) := by
    have z : (t * x + x') * (t * x + x') - n * ((t * y + y') * (t * y + y')) = t * t * (x * x - n * (y * y)) + 2 * t * (x * x' - n * (y * y')) + (x' * x' - n * (y' * y')) := by grind
    rw [z, a, b, c]
    grind
  have ed : (t * x + x') * y - x * (t * y + y') = s := by
    have z : (t * x + x') * y - x * (t * y + y') = -(x * y' - x' * y) := by grind
    rw [z, d]
    omega
  rcases hs with hs | hs
  · subst hs
    exact .inl ⟨rfl, by omega, by omega, x2p, y2p, h1, by omega, by omega, by omega, by omega, by omega⟩
  · subst hs
    have : x * (t * y + y') - (t * x + x') * y = 1 := by omega
    exact .inr ⟨rfl, x2p, y2p, by omega, by omega, by omega, h1, by omega, by omega, by omega, this⟩
theorem ChainOf.beside {n f : Int} {L : Nat} (C : ChainOf n f L) {k : Nat} {most t : Int} (h1 : (prAt n f k).2.2 ≤ most) (h2 : most < (prAt n f (k + 1)).2.2) (ft : t = (most - (prAt n f k).1.2).fdiv (prAt n f k).2.2) :
    (sg k = 1 ∧ Nb n most (prAt n f k).2.1 (prAt n f k).2.2 (prB (prAt n f k) t).2.1 (prB (prAt n f k) t).2.2) ∨ (sg k = -1 ∧ Nb n most (prB (prAt n f k) t).2.1 (prB (prAt n f k) t).2.2 (prAt n f k).2.1 (prAt n f k).2.2) := by
  have F := C.fr k
  refine beside_aux F (C.ok k) (sg_cases k) C.r C.ne h1 h2 (ft.trans (Int.fdiv_eq_ediv_of_nonneg _ (by have := F.y0; omega))) ?_
  rcases Nat.eq_zero_or_pos k with z | z
  · subst z
    exact .inr rfl
  · exact .inl ((C.sizes k).2.2.2 z).2
theorem Nb.none {n most x1 y1 x2 y2 x y : Int} (h : Nb n most x1 y1 x2 y2) (hy : y ≤ most) : x * y1 ≤ x1 * y ∨ x2 * y ≤ x * y2 := by
  obtain ⟨a1, b1, a2, b2, m1, m2, m, lo, hi, d⟩ := h
  rcases Int.lt_or_le (x1 * y) (x * y1) with z | z
  · rcases Int.lt_or_le (x * y2) (x2 * y) with w | w
    · exfalso
      have e : y = y1 * (x2 * y - x * y2) + y2 * (x * y1 - x1 * y) := by
        have : y1 * (x2 * y - x * y2) + y2 * (x * y1 - x1 * y) = y * (x2 * y1 - x1 * y2) := by grind
        rw [this, d, Int.mul_one]
      have p1 := Int.mul_le_mul_of_nonneg_left (show 1 ≤ x2 * y - x * y2 by omega) (show 0 ≤ y1 by omega)
      have p2 := Int.mul_le_mul_of_nonneg_left (show 1 ≤ x * y1 - x1 * y by omega) (show 0 ≤ y2 by omega)
      omega
    · exact .inr w
  · exact .inl z
def above (n x1 y1 x2 y2 : Int) : Prop := (x1 * y2 + x2 * y1) * (x1 * y2 + x2 * y1) < n * (2 * y1 * y2) * (2 * y1 * y2)
theorem sq_lt {a b : Int} (ha : 0 ≤ a) (h : a < b) : a * a < b * b := by
  have h1 := Int.mul_le_mul_of_nonneg_left (Int.le_of_lt h) ha
  have h2 := Int.mul_lt_mul_of_pos_right h (show 0 < b by omega)
  omega
theorem sq_le {a b : Int} (ha : 0 ≤ a) (h : a ≤ b) : a * a ≤ b * b := Int.mul_le_mul h h ha (by omega)
theorem Nb.low {n most x1 y1 x2 y2 x y : Int} (h : Nb n most x1 y1 x2 y2) (hm : ¬ above n x1 y1 x2 y2) (hx : 0 ≤ x) (hy : 1 ≤ y) (hy' : y ≤ most) (hne : x * y1 ≠ y * x1) : above n x1 y1 x y ↔ x * y1 < x1 * y := by
  have H := h.none (x := x) hy'
  obtain ⟨a1, b1, a2, b2, m1, m2, m, lo, hi, d⟩ := h
  have c1 : y * x1 = x1 * y := Int.mul_comm _ _
  have py1 : 0 < y1 * y1 := Int.mul_pos (by omega) (by omega)
  have pyy : 0 < y * y := Int.mul_pos (by omega) (by omega)
  have py2 : 0 < y2 * y2 := Int.mul_pos (by omega) (by omega)
  have q1 : 0 ≤ x1 * y := Int.mul_nonneg a1 (by omega)
  have q2 : 0 ≤ x * y1 := Int.mul_nonneg hx (by omega)
  unfold above at *
  constructor
  · intro hab
    rcases Int.lt_or_le (x * y1) (x1 * y) with z | z
    · exact z
    · exfalso
      rcases H with H | H
      · omega
      · apply hm
        have e1 : y * (x1 * y2 + x2 * y1) ≤ y2 * (x1 * y + x * y1) := by
          have := Int.mul_le_mul_of_nonneg_right H (show 0 ≤ y1 by omega)
          have e : y2 * (x1 * y + x * y1) - y * (x1 * y2 + x2 * y1) = x * y2 * y1 - x2 * y * y1 := by grind
          omega
        have q3 : 0 ≤ y * (x1 * y2 + x2 * y1) := Int.mul_nonneg (by omega) (by have := Int.mul_nonneg a1 (show 0 ≤ y2 by omega); have := Int.mul_nonneg a2 (show 0 ≤ y1 by omega); omega)
        have e2 := sq_le q3 e1
        have e3 : y2 * (x1 * y + x * y1) * (y2 * (x1 * y + x * y1)) < y2 * y2 * (n * (2 * y1 * y) * (2 * y1 * y)) := by
          have := Int.mul_lt_mul_of_pos_left hab py2
          have e : y2 * (x1 * y + x * y1) * (y2 * (x1 * y + x * y1)) = y2 * y2 * ((x1 * y + x * y1) * (x1 * y + x * y1)) := by grind
          omega
        have e4 : y * y * ((x1 * y2 + x2 * y1) * (x1 * y2 + x2 * y1)) < y * y * (n * (2 * y1 * y2) * (2 * y1 * y2)) := by
          have e5 : y * y * ((x1 * y2 + x2 * y1) * (x1 * y2 + x2 * y1)) = y * (x1 * y2 + x2 * y1) * (y * (x1 * y2 + x2 * y1)) := by grind
          have e6 : y * y * (n * (2 * y1 * y2) * (2 * y1 * y2)) = y2 * y2 * (n * (2 * y1 * y) * (2 * y1 * y)) := by grind
          omega
        exact Int.lt_of_mul_lt_mul_left e4 (by omega)
  · intro z
    have e1 := sq_lt (a := x1 * y + x * y1) (b := 2 * (x1 * y)) (by omega) (by omega)
    have e2 := Int.mul_lt_mul_of_pos_right lo pyy
    have e3 : 2 * (x1 * y) * (2 * (x1 * y)) = 4 * (x1 * x1 * (y * y)) := by grind
    have e4 : n * (2 * y1 * y) * (2 * y1 * y) = 4 * (n * (y1 * y1) * (y * y)) := by grind
    omega
end My




namespace My
open PySem L2
/-! the reading of a body over data, by computation -/
local macro_rules | `(tactic| walk_at "rd1") => `(tactic| dsimp only [dRet, dRetN, dSeq, dNext, dIf, dNever, dDrop, dAsg, dgName, dgTup, dgLst, dSetC, dgNil, dgCons, dPar2, dPar3, dAugI, dIn, dOp, dUn, dVar, dC, dIx, ixt0, ixt1, ixt2, ixt3, ixl0, ixl1, ixl2, ixl3, dAdd, dSub, dMul, dMod, dDiv, dPow, dShl, dShr, dI, dI0, dB0, dLt, dLe, dGt, dGe, dEq, dNe, dIs, dNot, dAnd, dOr, dNeg, dTst, dTNot, dTAnd, dTOr, dIfE, dNil, dCons, dTup, dLst, dCall, dCB, dLen, dAbs, dMax, dMin, dInt1, dIsi, dSlice, dNoPart, dPart, dChain, dChain3, dTrue, inner, diSeq, diTup, diRng1, diRng2, diRng3, dBits, dOf, dLstF, dSliceF, dCatF, dCallV, dQuiet, dNextX, dSeqX, dIfX, dDropX, dRetX, dAsgX, dCallX, dRaise, dTry, xcatch, dIsx, dIsxs, dIsv, dXfld, dCalm, dOwn, dIxO, dSetO, dAppO, dFrz, dLenO, ownAt, dCatT, dFresh, dLendT, dCopyO, dConsX, dCallA,
  List.length_cons, List.length_nil, List.getElem?_cons_zero, List.getElem?_cons_succ, List.set_cons_zero, List.set_cons_succ, Nat.reduceAdd, List.map_cons, List.map_nil, Option.join_some])
local macro_rules | `(tactic| walk_at "rd2") => `(tactic| simp only [isB_t, isB_f, isB_i, isB_n, isB_tu, isB_l, isN_n, isN_i, isN_b, isN_t, isN_l, nf_i, nf_b, nf_n, nf_t, nf_l, nf_s, isT_tt, isT_ll, isT_ii, isT_bi, isT_ib, isT_bb, isT_tn, isT_in, isT_it, isT_bt, eq_ii, eq_bb, eq_ss, eq_nn, eq_ni, eq_nt, eq_tn, eq_tt, eq_ll, eqs_nn, eqs_cc, eqs_nc, eqs_cn, flat_i, flat_b, flat_n, flat_t8, flat_l8, flat_t7, flat_l7, flat_t6, flats_n, flats_c, if_true, if_false, Bool.and_true, Bool.true_and, Bool.false_and, Bool.and_false, Bool.not_true, Bool.not_false, Bool.false_eq_true, true_and, and_true, ite_true, ite_false, List.length_map])
local macro_rules | `(tactic| walk_at "rd") => `(tactic| ((try walk_at "rd1"); (try walk_at "rd2")))
local macro_rules | `(tactic| walk_at "go") => `(tactic| ((try simp only [dstart_c, dstart_n, dstart_e]); walk_at "rd"))
/-! sizes -/
local macro_rules | `(tactic| walk_at "bts") => `(tactic| first | assumption | (with_reducible apply Bt.mul <;> walk_at "bts") | (with_reducible apply Bt.add <;> walk_at "bts") | (with_reducible apply Bt.sub <;> walk_at "bts") | (with_reducible apply Bt.neg <;> walk_at "bts") | exact Bt.of_abs (n := 1) (by decide) | exact Bt.of_abs (n := 8) (by decide) | exact Bt.of_abs (n := 400) (by decide))
local macro_rules | `(tactic| walk_at "bt") => `(tactic| exact Bt.le (by walk_at "bts") (by decide))
local macro_rules | `(tactic| walk_at "mul") => `(tactic| exact Bt.mulOk (by walk_at "bts") (by walk_at "bts") (by decide) (by decide))
local macro_rules | `(tactic| walk_at "muls") => `(tactic| repeat (refine ⟨by first | walk_at "mul" | exact size_ok (by decide) | decide | exact ⟨by decide, by decide⟩, ?_⟩))

def top (i : Nat) : Stmt := PySem.Challenge.pw_formcycle_k69_no_chain.main.body.getD i (.Pass ⟨0, 0, 0, 0⟩)
abbrev s_root : Stmt := top 14
theorem sc_root : FnScope ["number", "guess", "better"] ["number"] (defScope s_root) := ⟨rfl, rfl, rfl, by decide +kernel, rfl, by decide +kernel, by decide +kernel⟩
abbrev s_is_square : Stmt := top 15
theorem sc_is_square : FnScope ["number", "side"] ["number"] (defScope s_is_square) := ⟨rfl, rfl, rfl, by decide +kernel, rfl, by decide +kernel, by decide +kernel⟩
abbrev s_check_at_most : Stmt := top 16
theorem sc_check_at_most : FnScope ["number", "most"] ["number", "most"] (defScope s_check_at_most) := ⟨rfl, rfl, rfl, by decide +kernel, rfl, by decide +kernel, by decide +kernel⟩
abbrev s_check_number : Stmt := top 20
theorem sc_check_number : FnScope ["number"] ["number"] (defScope s_check_number) := ⟨rfl, rfl, rfl, by decide +kernel, rfl, by decide +kernel, by decide +kernel⟩
abbrev s_chain : Stmt := top 21
theorem sc_chain : FnScope ["number", "far", "rows"] ["number"] (defScope s_chain) := ⟨rfl, rfl, rfl, by decide +kernel, rfl, by decide +kernel, by decide +kernel⟩
abbrev s_row_behind : Stmt := top 22
theorem sc_row_behind : FnScope ["row", "number", "far", "p", "q"] ["row", "number", "far"] (defScope s_row_behind) := ⟨rfl, rfl, rfl, by decide +kernel, rfl, by decide +kernel, by decide +kernel⟩
abbrev s_part : Stmt := top 23
theorem sc_part : FnScope ["number", "k"] ["number", "k"] (defScope s_part) := ⟨rfl, rfl, rfl, by decide +kernel, rfl, by decide +kernel, by decide +kernel⟩
abbrev s_part_of : Stmt := top 24
theorem sc_part_of : FnScope ["rows", "k"] ["rows", "k"] (defScope s_part_of) := ⟨rfl, rfl, rfl, by decide +kernel, rfl, by decide +kernel, by decide +kernel⟩
abbrev s_fraction : Stmt := top 25
theorem sc_fraction : FnScope ["number", "k", "rows"] ["number", "k"] (defScope s_fraction) := ⟨rfl, rfl, rfl, by decide +kernel, rfl, by decide +kernel, by decide +kernel⟩
abbrev s_fraction_of : Stmt := top 26
theorem sc_fraction_of : FnScope ["rows", "k", "pair", "place"] ["rows", "k"] (defScope s_fraction_of) := ⟨rfl, rfl, rfl, by decide +kernel, rfl, by decide +kernel, by decide +kernel⟩
abbrev s_first_pair : Stmt := top 27
theorem sc_first_pair : FnScope ["rows"] ["rows"] (defScope s_first_pair) := ⟨rfl, rfl, rfl, by decide +kernel, rfl, by decide +kernel, by decide +kernel⟩
abbrev s_pair_behind : Stmt := top 28
theorem sc_pair_behind : FnScope ["pair", "often", "ahead", "last"] ["pair", "often"] (defScope s_pair_behind) := ⟨rfl, rfl, rfl, by decide +kernel, rfl, by decide +kernel, by decide +kernel⟩
abbrev s_plus_one : Stmt := top 29
theorem sc_plus_one : FnScope ["number", "point"] ["number"] (defScope s_plus_one) := ⟨rfl, rfl, rfl, by decide +kernel, rfl, by decide +kernel, by decide +kernel⟩
abbrev s_minus_one : Stmt := top 30
theorem sc_minus_one : FnScope ["number", "point"] ["number"] (defScope s_minus_one) := ⟨rfl, rfl, rfl, by decide +kernel, rfl, by decide +kernel, by decide +kernel⟩
abbrev s_point_of_round : Stmt := top 31
theorem sc_point_of_round : FnScope ["rows"] ["rows"] (defScope s_point_of_round) := ⟨rfl, rfl, rfl, by decide +kernel, rfl, by decide +kernel, by decide +kernel⟩
abbrev s_nearest : Stmt := top 34
theorem sc_nearest : FnScope ["number", "most", "pair", "often"] ["number", "most"] (defScope s_nearest) := ⟨rfl, rfl, rfl, by decide +kernel, rfl, by decide +kernel, by decide +kernel⟩
abbrev s_last_pair_within : Stmt := top 35
theorem sc_last_pair_within : FnScope ["rows", "most", "pair", "place", "further"] ["rows", "most"] (defScope s_last_pair_within) := ⟨rfl, rfl, rfl, by decide +kernel, rfl, by decide +kernel, by decide +kernel⟩
abbrev s__law_wholes : Stmt := top 38
theorem sc__law_wholes : FnScope ["_law_found", "_law_many"] ["_law_found", "_law_many"] (defScope s__law_wholes) := ⟨rfl, rfl, rfl, by decide +kernel, rfl, by decide +kernel, by decide +kernel⟩
abbrev s__law_number : Stmt := top 39
theorem sc__law_number : FnScope ["_law_cell"] ["_law_cell"] (defScope s__law_number) := ⟨rfl, rfl, rfl, by decide +kernel, rfl, by decide +kernel, by decide +kernel⟩
abbrev s__law_due : Stmt := top 40
theorem sc__law_due : FnScope ["_law_number_here", "_law_near"] ["_law_number_here"] (defScope s__law_due) := ⟨rfl, rfl, rfl, by decide +kernel, rfl, by decide +kernel, by decide +kernel⟩
abbrev s__law_caught : Stmt := top 41
theorem sc__law_caught : FnScope ["_law_way", "_law_number_here", "_law_k", "_law_caught_here", "_law_e"] ["_law_way", "_law_number_here", "_law_k"] (defScope s__law_caught) := ⟨rfl, rfl, rfl, by decide +kernel, rfl, by decide +kernel, by decide +kernel⟩
abbrev s__law_refused : Stmt := top 42
theorem sc__law_refused : FnScope ["_law_e", "_law_due_here"] ["_law_e", "_law_due_here"] (defScope s__law_refused) := ⟨rfl, rfl, rfl, by decide +kernel, rfl, by decide +kernel, by decide +kernel⟩
abbrev s__law_good : Stmt := top 43
theorem sc__law_good : FnScope ["_law_number_here", "_law_k", "_law_start", "_law_due_here", "_law_way"] ["_law_number_here", "_law_k", "_law_start"] (defScope s__law_good) := ⟨rfl, rfl, rfl, by decide +kernel, rfl, by decide +kernel, by decide +kernel⟩
abbrev s_law : Stmt := top 44
theorem sc_law : FnScope ["_law_script", "_law_cell", "_law_k"] ["_law_script"] (defScope s_law) := ⟨rfl, rfl, rfl, by decide +kernel, rfl, by decide +kernel, by decide +kernel⟩
abbrev si_NoRoot : Stmt := inClass (top 5) 0
theorem sci_NoRoot : FnScope ["self", "number"] ["self", "number"] (defScope si_NoRoot) := ⟨rfl, rfl, rfl, by decide +kernel, rfl, by decide +kernel, by decide +kernel⟩
abbrev si_TooGreat : Stmt := inClass (top 4) 0
theorem sci_TooGreat : FnScope ["self", "number", "most"] ["self", "number", "most"] (defScope si_TooGreat) := ⟨rfl, rfl, rfl, by decide +kernel, rfl, by decide +kernel, by decide +kernel⟩
structure Txt (K : PySem.W.Frag) (mg : Str → Option Value) : Prop where
  x_NoRoot : ∃ C U fI fd, XRT K mg "NoRoot" ["number"] "NoRoot.__init__" si_NoRoot C U fI fd ["self", "number"]
  un_NoRoot_FormError : Under K mg "NoRoot" "FormError"
  nf_NoRoot_number : NoAt K "NoRoot" "number"
  x_TooGreat : ∃ C U fI fd, XRT K mg "TooGreat" ["number", "most"] "TooGreat.__init__" si_TooGreat C U fI fd ["self", "number", "most"]
  un_TooGreat_FormError : Under K mg "TooGreat" "FormError"
  nf_TooGreat_number : NoAt K "TooGreat" "number"
  nf_TooGreat_most : NoAt K "TooGreat" "most"
  u_FormError : ∃ U, XU K mg "FormError" U
  c_Apart : ∃ A, mg "Apart" = some (.ref A) ∧ SubX K "NoRoot" A false ∧ SubX K "TooGreat" A false
  c_NoAnswer : ∃ A, mg "NoAnswer" = some (.ref A) ∧ SubX K "NoRoot" A false ∧ SubX K "TooGreat" A false
  c_NoMeasure : ∃ A, mg "NoMeasure" = some (.ref A) ∧ SubX K "NoRoot" A false ∧ SubX K "TooGreat" A false
  c_NoShape : ∃ A, mg "NoShape" = some (.ref A) ∧ SubX K "NoRoot" A false ∧ SubX K "TooGreat" A false
  c_NoTurn : ∃ A, mg "NoTurn" = some (.ref A) ∧ SubX K "NoRoot" A false ∧ SubX K "TooGreat" A false
  c_NotLevel : ∃ A, mg "NotLevel" = some (.ref A) ∧ SubX K "NoRoot" A false ∧ SubX K "TooGreat" A false
  c_NotOwn : ∃ A, mg "NotOwn" = some (.ref A) ∧ SubX K "NoRoot" A false ∧ SubX K "TooGreat" A false
  c_NotPlain : ∃ A, mg "NotPlain" = some (.ref A) ∧ SubX K "NoRoot" A false ∧ SubX K "TooGreat" A false
  c_Nought : ∃ A, mg "Nought" = some (.ref A) ∧ SubX K "NoRoot" A false ∧ SubX K "TooGreat" A false
  c_NoRoot : ∃ A, mg "NoRoot" = some (.ref A) ∧ SubX K "NoRoot" A true ∧ SubX K "TooGreat" A false
  c_TooGreat : ∃ A, mg "TooGreat" = some (.ref A) ∧ SubX K "NoRoot" A false ∧ SubX K "TooGreat" A true
  z_ValueError : mg "ValueError" = none
  t_root : ∃ f fd, FnT K mg "root" s_root ["number"] f fd
  t_is_square : ∃ f fd, FnT K mg "is_square" s_is_square ["number"] f fd
  t_check_at_most : ∃ f fd, FnT K mg "check_at_most" s_check_at_most ["number", "most"] f fd
  t_check_number : ∃ f fd, FnT K mg "check_number" s_check_number ["number"] f fd
  t_chain : ∃ f fd, FnT K mg "chain" s_chain ["number"] f fd
  t_row_behind : ∃ f fd, FnT K mg "row_behind" s_row_behind ["row", "number", "far"] f fd
  t_part : ∃ f fd, FnT K mg "part" s_part ["number", "k"] f fd
  t_part_of : ∃ f fd, FnT K mg "part_of" s_part_of ["rows", "k"] f fd
  t_fraction : ∃ f fd, FnT K mg "fraction" s_fraction ["number", "k"] f fd
  t_fraction_of : ∃ f fd, FnT K mg "fraction_of" s_fraction_of ["rows", "k"] f fd
  t_first_pair : ∃ f fd, FnT K mg "first_pair" s_first_pair ["rows"] f fd
  t_pair_behind : ∃ f fd, FnT K mg "pair_behind" s_pair_behind ["pair", "often"] f fd
  t_plus_one : ∃ f fd, FnT K mg "plus_one" s_plus_one ["number"] f fd
  t_minus_one : ∃ f fd, FnT K mg "minus_one" s_minus_one ["number"] f fd
  t_point_of_round : ∃ f fd, FnT K mg "point_of_round" s_point_of_round ["rows"] f fd
  t_nearest : ∃ f fd, FnT K mg "nearest" s_nearest ["number", "most"] f fd
  t_last_pair_within : ∃ f fd, FnT K mg "last_pair_within" s_last_pair_within ["rows", "most"] f fd
  t__law_wholes : ∃ f fd, FnT K mg "_law_wholes" s__law_wholes ["_law_found", "_law_many"] f fd
  t__law_number : ∃ f fd, FnT K mg "_law_number" s__law_number ["_law_cell"] f fd
  t__law_due : ∃ f fd, FnT K mg "_law_due" s__law_due ["_law_number_here"] f fd
  t__law_caught : ∃ f fd, FnT K mg "_law_caught" s__law_caught ["_law_way", "_law_number_here", "_law_k"] f fd
  t__law_refused : ∃ f fd, FnT K mg "_law_refused" s__law_refused ["_law_e", "_law_due_here"] f fd
  t__law_good : ∃ f fd, FnT K mg "_law_good" s__law_good ["_law_number_here", "_law_k", "_law_start"] f fd
  t_law : ∃ f fd, FnT K mg "law" s_law ["_law_script"] f fd
  m_MOST_NUMBER : ∃ t, mg "MOST_NUMBER" = some (.int (1000) t)
  m_MOST_PLACE : ∃ t, mg "MOST_PLACE" = some (.int (300) t)
  z_bool : mg "bool" = none
  z_int : mg "int" = none
  z_isinstance : mg "isinstance" = none
  z_len : mg "len" = none
  z_range : mg "range" = none
  z_tuple : mg "tuple" = none
theorem r_NoRoot {P : Program} {w : World} {K : PySem.W.Frag} {mg : Str → Option Value} {base : Heap} (T : Txt K mg) : ∃ C U fI fd, XR P w K mg base 1 "NoRoot" ["number"] C U fI fd ["self", "number"] := by
  obtain ⟨C, U, fI, fd, R⟩ := T.x_NoRoot
  refine ⟨C, U, fI, fd, XRT.mk1 R (R.fn.ok sci_NoRoot (fun vs H Q E ⟨a, ys, e, l, _⟩ => by rw [e]; simpa using l) fun cdv A outer s H vs Q E hr ⟨a, ys, e, l, ha, q⟩ => ?_)⟩
  subst e
  obtain ⟨y, rfl⟩ : ∃ y, ys = [y] := List.length_eq_one_iff.mp l
  exact ⟨_, pss_one (ps_x1 R.xc (R.tk _ (by simp)) (pv 0) (pv 1)), y, rfl, .ref a, rfl, a, rfl, ha, fun dx h1 h2 => q dx h1 h2⟩
theorem r_TooGreat {P : Program} {w : World} {K : PySem.W.Frag} {mg : Str → Option Value} {base : Heap} (T : Txt K mg) : ∃ C U fI fd, XR P w K mg base 1 "TooGreat" ["number", "most"] C U fI fd ["self", "number", "most"] := by
  obtain ⟨C, U, fI, fd, R⟩ := T.x_TooGreat
  refine ⟨C, U, fI, fd, XRT.mk1 R (R.fn.ok sci_TooGreat (fun vs H Q E ⟨a, ys, e, l, _⟩ => by rw [e]; simpa using l) fun cdv A outer s H vs Q E hr ⟨a, ys, e, l, ha, q⟩ => ?_)⟩
  subst e
  match ys, l with
  | [y, z], _ => exact ⟨_, pss_cons (ps_x1 R.xc (R.tk _ (by simp)) (pv 0) (pv 1)) (pss_one (ps_x2 R.xc (R.tk _ (by simp)) (pv 0) (pv 2))), y, rfl, .ref a, rfl, a, rfl, ha, fun dx h1 h2 => ⟨z, rfl, .ref a, rfl, a, dx, _, rfl, upd_same, (by rw [upd_ne h2, upd_same]), (by show 1 ≤ 1000; decide), rfl, by rw [upd_swap h2]; exact q dx h1 h2⟩⟩
theorem ok_root {P : Program} {w : World} {K : PySem.W.Frag} {mg : Str → Option Value} {base : Heap} (T : Txt K mg)
    : Pm P w K mg base 1 "root" s_root ["number"] sp_root := by
  obtain ⟨f, fd, F⟩ := T.t_root
  refine ⟨f, fd, F, F.fn.okD sc_root (fun ds Q ⟨p, e, _⟩ => by rw [e]; rfl) fun cdv A outer s H E hr => ⟨_, (dss_cons (ds_if (dt_lt (dv 0) de_int) (dss_one ds_never) dss_nil) (dss_cons (ds_if (dt_eq hr.units (dv 0) de_int) (dss_one (ds_ret de_int)) dss_nil) (dss_cons (ds_set 1 sc_root.nd (de_shl de_int (de_div (de_add (de_bits (dv 0)) de_int) de_int))) (dss_cons (ds_set 2 sc_root.nd (de_div (de_add (dv 1) (de_div (dv 0) (dv 1))) de_int)) (dss_cons (ds_while PassesOwn.never (dt_lt (dv 2) (dv 1)) (dss_cons (ds_set 1 sc_root.nd (dv 2)) (dss_one (ds_set 2 sc_root.nd (de_div (de_add (dv 1) (de_div (dv 0) (dv 1))) de_int))))) (dss_one (ds_ret (dv 1)))))))), fun ds Q h => ?_⟩⟩
  obtain ⟨n, rfl, ⟨h0, hb⟩, q⟩ := h
  walk_at "go"
  refine iff' (decide_eq_false (by omega)) ?_
  by_cases hz : n = 0
  · subst hz
    exact ift rfl (q _ ⟨0, rfl, ⟨by omega, by omega, by omega⟩, Bt.zero.le (by decide)⟩)
  refine iff' (decide_eq_false hz) ?_
  obtain ⟨c1, c2, c3⟩ := start_small hb
  have hu := start_up h0
  refine ⟨⟨by decide, by decide⟩, c1, ?_⟩
  generalize (1 * 2 ^ ((((Builtin.Int.intBits n : Nat) : Int) + 1).fdiv 2).toNat : Int) = g at *
  refine ⟨Bt.divOk c2 (by omega), ⟨by decide, by decide⟩, ?_⟩
  rw [near_eq c3]
  refine while_of (fun m ρ => ∃ g : Int, ρ = [some (.is (.int n)), some (.is (.int g)), some (.is (.int ((g + n / g) / 2)))] ∧ 0 < g ∧ Bt 2001 g ∧ n < (g + 1) * (g + 1) ∧ m = g.toNat) _ ⟨g, rfl, c3, c2, hu, rfl⟩ ?_
  rintro m _ ⟨g, rfl, hg, hgb, hgu, rfl⟩
  walk_at "rd"
  refine ite2 (fun hw => ?_) (fun hw => ?_)
  · have hw := of_decide_eq_true hw
    have hp := newton_pos (show 1 ≤ n by omega) hg
    have hu' := newton_up h0 hg
    have hbb : Bt 2001 ((g + n / g) / 2) := by unfold Bt at *; omega
    generalize (g + n / g) / 2 = b at *
    refine ⟨Bt.divOk hbb (by omega), ⟨by decide, by decide⟩, ?_⟩
    rw [near_eq hp]
    exact ⟨_, by omega, b, rfl, hp, hbb, hu', rfl⟩
  · have hw : ¬ (g + n / g) / 2 < g := fun z => hw (decide_eq_true z)
    exact q _ ⟨g, rfl, ⟨by omega, newton_end hg (by omega), hgu⟩, hgb⟩
theorem ok_is_square {P : Program} {w : World} {K : PySem.W.Frag} {mg : Str → Option Value} {base : Heap} (T : Txt K mg)
    (G_root : Pm P w K mg base 1 "root" s_root ["number"] sp_root)
    : Pm P w K mg base 2 "is_square" s_is_square ["number"] sp_is_square := by
  obtain ⟨f, fd, F⟩ := T.t_is_square
  refine ⟨f, fd, F, F.fn.okD sc_is_square (fun ds Q ⟨p, e, _⟩ => by rw [e]; rfl) fun cdv A outer s H E hr => ⟨_, (dss_cons (ds_if (dt_lt (dv 0) de_int) (dss_one (ds_ret de_bl)) dss_nil) (dss_cons (ds_set 1 sc_is_square.nd (de_callP spec_mono G_root (hr.mono (by decide)) rfl (da_cons (dv 0) da_nil))) (dss_one (ds_ret (de_eq hr.units (de_mul (dv 1) (dv 1)) (dv 0)))))), fun ds Q h => ?_⟩⟩
  obtain ⟨n, rfl, hb, q⟩ := h
  walk_at "go"
  refine ite2 (fun hw => ?_) (fun hw => ?_)
  · have hw := of_decide_eq_true hw
    exact q _ ⟨false, rfl, by simp [isSq_neg hw]⟩
  · have hw : ¬ n < 0 := fun z => hw (decide_eq_true z)
    refine spec_of n ⟨by omega, hb⟩ ?_
    rintro _ ⟨r, rfl, hs, hr'⟩
    walk_at "rd"
    refine ⟨by walk_at "mul", q _ ⟨_, rfl, ?_⟩⟩
    rw [isSq_iff hs]; simp

theorem size_8k {n : Nat} (h : n ≤ 9000) : n < PySem.sizeLine := by unfold PySem.sizeLine; omega
abbrev rowD (n f : Int) (i : Nat) : Dt := t3 (rowAt n f i)
abbrev rowsD (n f : Int) (L : Nat) : Dt := .lst ((List.range (L + 1)).map (rowD n f))
def Num (n : Int) : Prop := 2 ≤ n ∧ n ≤ 1000 ∧ ¬ isSq n
theorem Num.bt {n : Int} (h : Num n) : Bt 11 n := Bt.of (by have := h.1; omega) (by have := h.2.1; omega)
theorem Num.chain {n f : Int} (h : Num n) (hr : Sq n f) : ∃ L, ChainOf n f L := chain_closes hr h.1 h.2.1 fun e => h.2.2 ⟨f, e⟩
theorem ChainOf.uniq {n f f' : Int} {L L' : Nat} (A : ChainOf n f L) (B : ChainOf n f' L') : f = f' ∧ L = L' := by
  have e := A.r.uniq B.r
  subst e
  refine ⟨rfl, ?_⟩
  have a0 := A.l0
  have b0 := B.l0
  rcases Nat.lt_trichotomy L L' with z | z | z
  · exact absurd A.e (B.l L a0 z)
  · exact z
  · exact absurd B.e (A.l L' b0 z)
theorem ChainOf.bt {n f : Int} {L : Nat} (C : ChainOf n f L) (j : Nat) : B3 7 (rowAt n f j) := by
  have ⟨h1, h2, h3, h4, h5, h6⟩ := C.small j
  exact ⟨Bt.of (by omega) (by omega), Bt.of (by omega) (by omega), Bt.of (by omega) (by omega)⟩
theorem ix_rows {n f : Int} {L : Nat} {k : Int} (h0 : 0 ≤ k) (h1 : k ≤ L) : ixD k (rowsD n f L) = some (rowD n f k.toNat) := by
  obtain ⟨d, e1, e2, e3⟩ := ix_any (ds := (List.range (L + 1)).map (rowD n f)) h0 (by rw [List.length_map, List.length_range]; omega)
  rw [e1, ← e3, List.getElem?_map, List.getElem?_range (by omega)]
  rfl

abbrev xRoot (n : Int) : Dt := .exc "NoRoot" ["number"] [.int n]
abbrev xGreat (n m : Int) : Dt := .exc "TooGreat" ["number", "most"] [.int n, .int m]
/-- n, and whether it is below 2 or a square -/
def Kd (p : Int × Bool) : Prop := Bt 300 p.1 ∧ (p.2 = true ↔ p.1 < 2 ∨ isSq p.1)
def xNum (p : Int × Bool) : Dt := if p.2 = true then xRoot p.1 else xGreat p.1 1000
theorem Kd.num {n : Int} {b : Bool} (h : Kd (n, b)) : Num n ↔ b = false ∧ n ≤ 1000 := by
  have h2 := h.2
  simp only at h2
  constructor
  · rintro ⟨h1, h3, h4⟩
    exact ⟨Bool.eq_false_iff.mpr fun z => (h2.mp z).elim (fun z => by omega) h4, h3⟩
  · rintro ⟨h1, h3⟩
    subst h1
    have h4 : ¬ (n < 2 ∨ isSq n) := fun z => by cases h2.mpr z
    exact ⟨by
      rcases Int.lt_or_le n 2 with z | z
      · exact absurd (.inl z) h4
      · exact z, h3, fun z => h4 (.inr z)⟩
theorem isSq_dec (n : Int) : ∃ b : Bool, b = true ↔ n < 2 ∨ isSq n := by
  rcases Classical.em (n < 2 ∨ isSq n) with h | h
  · exact ⟨true, by simp [h]⟩
  · exact ⟨false, by simp [h]⟩
abbrev spx_check_at_most : DSpX := specX (fun p : I2 => [.int p.1, .int p.2]) (fun _ => True) (fun p => p.1 ≤ p.2) (fun _ d => d = .non) fun p => xGreat p.1 p.2
abbrev spx_check_number : DSpX := specX (fun p : Int × Bool => [.int p.1]) Kd (fun p => Num p.1) (fun _ d => d = .non) xNum
abbrev spx_chain : DSpX := specX (fun p : Int × Bool => [.int p.1]) Kd (fun p => Num p.1) (fun p d => ∃ f L, ChainOf p.1 f L ∧ d = rowsD p.1 f L) xNum
theorem okx_check_at_most {P : Program} {w : World} {K : PySem.W.Frag} {mg : Str → Option Value} {base : Heap} (T : Txt K mg)
    : PmX P w K mg base 3 "check_at_most" s_check_at_most ["number", "most"] spx_check_at_most := by
  obtain ⟨f, fd, F⟩ := T.t_check_at_most
  obtain ⟨C_TooGreat, U_TooGreat, fI_TooGreat, fd_TooGreat, R_TooGreat⟩ := r_TooGreat (P := P) (w := w) (base := base) T
  refine ⟨f, fd, F, F.fn.okX sc_check_at_most (fun ds Q E ⟨p, e, _⟩ => by rw [e]; rfl) fun cdv A outer s H E hr => ⟨_, (dssx_one (dsx_if (dt_gt (dv 0) (dv 1)) (dssx_one (dsx_raise R_TooGreat (hr.mono (by decide)) rfl rfl (da_cons (dv 0) (da_cons (dv 1) da_nil)))) dssx_nil)), fun ds Q Ex h => ?_⟩⟩
  obtain ⟨⟨n, m⟩, rfl, _, q, x⟩ := h
  have q : n ≤ m → ∀ d, d = .non → Q d := q
  have x : ¬ n ≤ m → Ex (xGreat n m) := x
  walk_at "go"
  refine ite2 (fun hw => ?_) (fun hw => ?_)
  · have hw := of_decide_eq_true hw
    exact ⟨by decide, x (by omega)⟩
  · have hw : ¬ m < n := fun z => hw (decide_eq_true z)
    exact q (by omega) _ rfl
theorem okx_check_number {P : Program} {w : World} {K : PySem.W.Frag} {mg : Str → Option Value} {base : Heap} (T : Txt K mg)
    (GX_check_at_most : PmX P w K mg base 3 "check_at_most" s_check_at_most ["number", "most"] spx_check_at_most)
    (G_is_square : Pm P w K mg base 2 "is_square" s_is_square ["number"] sp_is_square)
    : PmX P w K mg base 4 "check_number" s_check_number ["number"] spx_check_number := by
  obtain ⟨f, fd, F⟩ := T.t_check_number
  obtain ⟨t_MOST_NUMBER, m_MOST_NUMBER⟩ := T.m_MOST_NUMBER
  obtain ⟨C_NoRoot, U_NoRoot, fI_NoRoot, fd_NoRoot, R_NoRoot⟩ := r_NoRoot (P := P) (w := w) (base := base) T
  refine ⟨f, fd, F, F.fn.okX sc_check_number (fun ds Q E ⟨p, e, _⟩ => by rw [e]; rfl) fun cdv A outer s H E hr => ⟨_, (dssx_cons (dsx_if (DW.dt (dw_or (dt_lt (dv 0) de_int) (dw_or1 (dt_val (de_callP spec_mono G_is_square (hr.mono (by decide)) rfl (da_cons (dv 0) da_nil)))))) (dssx_one (dsx_raise R_NoRoot (hr.mono (by decide)) rfl rfl (da_cons (dv 0) da_nil))) dssx_nil) (dssx_one (dsx_expr (dex_call specX_mono GX_check_at_most (hr.mono (by decide)) rfl (da_cons (dv 0) (da_cons (de_glob (v := .int (1000)) (d := .int (1000)) rfl m_MOST_NUMBER ⟨_, rfl⟩ (fun _ => rp_int.mpr rfl)) da_nil)))))), fun ds Q Ex h => ?_⟩⟩
  obtain ⟨⟨n, b⟩, rfl, hk, q, x⟩ := h
  have hk : Kd (n, b) := hk
  have hk2 : b = true ↔ n < 2 ∨ isSq n := hk.2
  have hn : Bt 300 n := hk.1
  have q : Num n → ∀ d, d = .non → Q d := q
  have x : ¬ Num n → Ex (xNum (n, b)) := x
  have end1 : b = true → Ex (xRoot n) := fun z => by
    subst z
    exact x fun w => by have := (hk.num.mp w).1; cases this
  walk_at "go"
  refine ite2 (fun hw => ⟨by decide, end1 (hk2.mpr (.inl (of_decide_eq_true hw)))⟩) (fun hw => ?_)
  refine spec_of n (hn.le (by decide)) ?_
  rintro _ ⟨c, rfl, hc⟩
  walk_at "rd"
  refine ite2 (fun hw => ⟨by decide, end1 (hk2.mpr (.inr (hc.mp hw)))⟩) (fun hw2 => ?_)
  have nb : b = false := Bool.eq_false_iff.mpr fun z => (hk2.mp z).elim (fun z => hw (decide_eq_true z)) fun z => hw2 (hc.mpr z)
  subst nb
  exact specX_of (n, 1000) trivial (fun g d hd => q (hk.num.mpr ⟨rfl, g⟩) _ rfl) fun g => x fun w => g (hk.num.mp w).2
abbrev sp_row_behind : DSp := specF (fun p : I3 × I2 => [t3 p.1, .int p.2.1, .int p.2.2]) (fun p => B3 7 p.1 ∧ Bt 11 p.2.1 ∧ p.1.2.1 ≠ 0 ∧ (rowN p.2.1 p.2.2 p.1).2.1 ≠ 0 ∧ Bt 7 (rowN p.2.1 p.2.2 p.1).2.1) fun p => t3 (rowN p.2.1 p.2.2 p.1)
theorem row_of {n f : Int} {L : Nat} (C : ChainOf n f L) (hn : Bt 11 n) (i : Nat) {Q : Dt → Prop} (q : Q (rowD n f (i + 1))) : sp_row_behind [rowD n f i, .int n, .int f] Q := by
  have h := C.small (i + 1)
  have g := C.small i
  exact specF_of (rowAt n f i, n, f) ⟨C.bt i, hn, by show (rowAt n f i).2.1 ≠ 0; omega, by show (rowAt n f (i + 1)).2.1 ≠ 0; omega, (C.bt (i + 1)).2.1⟩ q
theorem ok_row_behind {P : Program} {w : World} {K : PySem.W.Frag} {mg : Str → Option Value} {base : Heap} (T : Txt K mg)
    : Pm P w K mg base 1 "row_behind" s_row_behind ["row", "number", "far"] sp_row_behind := by
  obtain ⟨f, fd, F⟩ := T.t_row_behind
  refine ⟨f, fd, F, F.fn.okD sc_row_behind (fun ds Q ⟨p, e, _⟩ => by rw [e]; rfl) fun cdv A outer s H E hr => ⟨_, (dss_cons (ds_set 3 sc_row_behind.nd (de_sub (de_mul (de_sub_ix (dv 0) de_int) (de_sub_ix (dv 0) de_int)) (de_sub_ix (dv 0) de_int))) (dss_cons (ds_set 4 sc_row_behind.nd (de_div (de_sub (dv 1) (de_mul (dv 3) (dv 3))) (de_sub_ix (dv 0) de_int))) (dss_one (ds_ret (de_tup (da_cons (dv 3) (da_cons (dv 4) (da_cons (de_div (de_add (dv 2) (dv 3)) (dv 4)) da_nil)))))))), fun ds Q h => ?_⟩⟩
  obtain ⟨⟨⟨P', Q', a⟩, n, f⟩, rfl, ⟨⟨h1, h2, h3⟩, hn, q0, r0, rb⟩, q⟩ := h
  have q' := q _ rfl
  dsimp only [rowN] at *
  have hp : Bt 20 (a * Q' - P') := ((h3.mul h2).sub h1).le (by decide)
  walk_at "go"
  generalize a * Q' - P' = p at *
  exact ⟨h3.mulOk h2, hp.mulOk hp, Bt.divOk h2 q0, Bt.divOk rb r0, size_ok (by decide), q'⟩

theorem okx_chain {P : Program} {w : World} {K : PySem.W.Frag} {mg : Str → Option Value} {base : Heap} (T : Txt K mg)
    (GX_check_number : PmX P w K mg base 4 "check_number" s_check_number ["number"] spx_check_number)
    (G_root : Pm P w K mg base 1 "root" s_root ["number"] sp_root)
    (G_row_behind : Pm P w K mg base 1 "row_behind" s_row_behind ["row", "number", "far"] sp_row_behind)
    : PmX P w K mg base 5 "chain" s_chain ["number"] spx_chain := by
  obtain ⟨f, fd, F⟩ := T.t_chain
  refine ⟨f, fd, F, F.fn.okX sc_chain (fun ds Q E ⟨p, e, _⟩ => by rw [e]; rfl) fun cdv A outer s H E hr => ⟨_, (dssx_cons (dsx_expr (dex_call specX_mono GX_check_number (hr.mono (by decide)) rfl (da_cons (dv 0) da_nil))) (dssx_cons (dsx_of (ds_set 1 sc_chain.nd (de_callP spec_mono G_root (hr.mono (by decide)) rfl (da_cons (dv 0) da_nil)))) (dssx_cons (dsx_of (ds_own 2 sc_chain.nd (da_cons (de_tup (da_cons de_int (da_cons de_int (da_cons (dv 1) da_nil)))) da_nil))) (dssx_cons (dsx_of (ds_app 2 (de_callP spec_mono G_row_behind (hr.mono (by decide)) rfl (da_cons (de_ixo 2 de_int) (da_cons (dv 0) (da_cons (dv 1) da_nil)))))) (dssx_cons (dsx_of (ds_while PassesOwn.never (dt_ne hr.units (de_sub_ix (de_ixo 2 (de_neg de_int)) de_int) de_int) (dss_one (ds_app 2 (de_callP spec_mono G_row_behind (hr.mono (by decide)) rfl (da_cons (de_ixo 2 (de_neg de_int)) (da_cons (dv 0) (da_cons (dv 1) da_nil)))))))) (dssx_one (dsx_of (ds_frz 2 (ds_ret (dv 2)))))))))), fun ds Q Ex h => ?_⟩⟩
  obtain ⟨⟨n, b⟩, rfl, hk, q, x⟩ := h
  have hk : Kd (n, b) := hk
  have q : Num n → ∀ d, (∃ f L, ChainOf n f L ∧ d = rowsD n f L) → Q d := q
  have x : ¬ Num n → Ex (xNum (n, b)) := x
  walk_at "go"
  refine specX_of (n, b) hk (fun h0 d _ => ?_) x
  have h0 : Num n := h0
  have q := q h0
  have hn := h0.bt
  walk_at "rd"
  refine spec_of n ⟨by have := h0.1; omega, hn.le (by decide)⟩ ?_
  rintro _ ⟨f, rfl, hr', hfb⟩
  obtain ⟨L, C⟩ := h0.chain hr'
  walk_at "rd"
  have l0 := C.l0
  have lm := C.lm
  have e0 : T3 0 1 f = rowD n f 0 := rfl
  refine ⟨size_ok (by decide), size_ok (by decide), ?_⟩
  refine row_of C hn 0 ⟨size_8k (by show 1 ≤ 9000; decide), ?_⟩
  have las : ∀ i : Nat, ixL (-1) ((List.range (i + 1)).map (rowD n f)) = some (rowD n f i) := fun i => by
    show (if 0 < ((List.range (i + 1)).map (rowD n f)).length then ((List.range (i + 1)).map (rowD n f))[((List.range (i + 1)).map (rowD n f)).length - 1 - 0]? else none) = _
    simp
  refine while_of (fun m ρ => ∃ i : Nat, 1 ≤ i ∧ i ≤ L ∧ ρ = [some (.is (.int n)), some (.is (.int f)), some (.own ((List.range (i + 1)).map (rowD n f)))] ∧ m = L - i) _ ⟨1, by omega, by omega, rfl, rfl⟩ ?_
  rintro m _ ⟨i, i1, iN, rfl, rfl⟩
  walk_at "rd"
  rw [las i]
  walk_at "rd"
  refine ite2 (fun hw => ?_) (fun hw => ?_)
  · have hi : i < L := by
      rcases Nat.lt_or_ge i L with z | z
      · exact z
      · exfalso
        have : i = L := by omega
        subst this
        rw [C.e] at hw
        simp at hw
    refine row_of C hn i ⟨?_, L - (i + 1), by omega, i + 1, by omega, by omega, ?_, rfl⟩
    · rw [List.length_range]; exact size_8k (by omega)
    · rw [List.range_succ (n := i + 1), List.map_append]; rfl
  · have hi : i = L := by
      rcases Nat.lt_or_ge i L with z | z
      · exfalso
        refine C.l i (by omega) z ?_
        simpa using hw
      · omega
    subst hi
    exact q _ ⟨f, i, C, rfl⟩
abbrev sp_part_of : DSp := specF (fun p : (Int × Int × Nat) × Int => [rowsD p.1.1 p.1.2.1 p.1.2.2, .int p.2]) (fun p => ChainOf p.1.1 p.1.2.1 p.1.2.2 ∧ 0 ≤ p.2) fun p => .int (rowAt p.1.1 p.1.2.1 p.2.toNat).2.2
theorem round_ix {L : Nat} {k : Int} (h : 0 < k) (l0 : 0 < L) : 0 ≤ 1 + (k - 1).fmod (L : Int) ∧ 1 + (k - 1).fmod (L : Int) ≤ L ∧ (1 + (k - 1).fmod (L : Int)).toNat = 1 + (k.toNat - 1) % L := by
  obtain ⟨K, rfl⟩ := Int.eq_ofNat_of_zero_le (show 0 ≤ k by omega)
  have e : ((K : Int) - 1).fmod (L : Int) = (((K - 1) % L : Nat) : Int) := by
    have : (K : Int) - 1 = ((K - 1 : Nat) : Int) := by omega
    rw [this, Int.fmod_eq_emod_of_nonneg _ (by omega)]
    exact (Int.natCast_emod _ _).symm
  rw [e]
  have := Nat.mod_lt (K - 1) l0
  rw [Int.toNat_natCast]
  generalize (K - 1) % L = m at *
  omega
theorem ok_part_of {P : Program} {w : World} {K : PySem.W.Frag} {mg : Str → Option Value} {base : Heap} (T : Txt K mg)
    : Pm P w K mg base 1 "part_of" s_part_of ["rows", "k"] sp_part_of := by
  obtain ⟨f, fd, F⟩ := T.t_part_of
  refine ⟨f, fd, F, F.fn.okD sc_part_of (fun ds Q ⟨p, e, _⟩ => by rw [e]; rfl) fun cdv A outer s H E hr => ⟨_, (dss_cons (ds_if (dt_eq hr.units (dv 1) de_int) (dss_one (ds_ret (de_sub_ix (de_sub_ix (dv 0) de_int) de_int))) dss_nil) (dss_one (ds_ret (de_sub_ix (de_sub_ix (dv 0) (de_add de_int (de_mod (de_sub (dv 1) de_int) (de_sub (de_len T.z_len (da_cons (dv 0) da_nil)) de_int)))) de_int)))), fun ds Q h => ?_⟩⟩
  obtain ⟨⟨⟨n, f, L⟩, k⟩, rfl, ⟨C, h0⟩, q⟩ := h
  have C : ChainOf n f L := C
  have h0 : 0 ≤ k := h0
  have l0 := C.l0
  have lm := C.lm
  walk_at "go"
  refine ite2 (fun hk => ?_) (fun hk => ?_)
  · have hk : k = 0 := by simpa using hk
    subst hk
    rw [ix_rows (k := 0) (by omega) (by omega)]
    exact q _ rfl
  · have hk : k ≠ 0 := by simpa using hk
    obtain ⟨r1, r2, r3⟩ := round_ix (k := k) (by omega) l0
    rw [List.length_range]
    have el : ((L + 1 : Nat) : Int) - 1 = (L : Int) := by omega
    rw [el, ix_rows r1 r2]
    walk_at "rd"
    refine ⟨by omega, q _ ?_⟩
    show Dt.int _ = Dt.int _
    rw [C.mod k.toNat (by omega), r3]

abbrev pairD (p : I2 × I2) : Dt := .tup [t2 p.1, t2 p.2]
abbrev sp_first_pair : DSp := specF (fun p : Int × Int × Nat => [rowsD p.1 p.2.1 p.2.2]) (fun _ => True) fun p => pairD (prAt p.1 p.2.1 0)
abbrev sp_pair_behind : DSp := specF (fun p : (I2 × I2) × Int => [pairD p.1, .int p.2]) (fun p => B2 5000 p.1.2 ∧ Bt 5000 p.2) fun p => pairD (prB p.1 p.2)
abbrev sp_fraction_of : DSp := specF (fun p : (Int × Int × Nat) × Nat => [rowsD p.1.1 p.1.2.1 p.1.2.2, .int p.2]) (fun p => ChainOf p.1.1 p.1.2.1 p.1.2.2 ∧ p.2 ≤ 300) fun p => t2 (prAt p.1.1 p.1.2.1 p.2).2
theorem ChainOf.btp {n f : Int} {L : Nat} (C : ChainOf n f L) {k : Nat} (h : k ≤ 400) : B2 2500 (prAt n f k).2 := ⟨(C.btx k).le (by omega), (C.bty k).le (by omega)⟩
theorem pair_of {n f : Int} {L : Nat} (C : ChainOf n f L) {k : Nat} (h : k ≤ 400) {Q : Dt → Prop} (q : Q (pairD (prAt n f (k + 1)))) : sp_pair_behind [pairD (prAt n f k), .int (rowAt n f (k + 1)).2.2] Q :=
  specF_of (prAt n f k, (rowAt n f (k + 1)).2.2) ⟨⟨(C.btp h).1.le (by decide), (C.btp h).2.le (by decide)⟩, (C.bt (k + 1)).2.2.le (by decide)⟩ q
theorem ok_first_pair {P : Program} {w : World} {K : PySem.W.Frag} {mg : Str → Option Value} {base : Heap} (T : Txt K mg)
    : Pm P w K mg base 1 "first_pair" s_first_pair ["rows"] sp_first_pair := by
  obtain ⟨f, fd, F⟩ := T.t_first_pair
  refine ⟨f, fd, F, F.fn.okD sc_first_pair (fun ds Q ⟨p, e, _⟩ => by rw [e]; rfl) fun cdv A outer s H E hr => ⟨_, (dss_one (ds_ret (de_tup (da_cons (de_tup (da_cons de_int (da_cons de_int da_nil))) (da_cons (de_tup (da_cons (de_sub_ix (de_sub_ix (dv 0) de_int) de_int) (da_cons de_int da_nil))) da_nil))))), fun ds Q h => ?_⟩⟩
  obtain ⟨⟨n, f, L⟩, rfl, _, q⟩ := h
  have q' := q _ rfl
  walk_at "go"
  rw [ix_rows (k := 0) (by omega) (by omega)]
  walk_at "rd"
  exact ⟨size_ok (by decide), size_ok (by decide), size_ok (by decide), q'⟩
theorem ok_pair_behind {P : Program} {w : World} {K : PySem.W.Frag} {mg : Str → Option Value} {base : Heap} (T : Txt K mg)
    : Pm P w K mg base 1 "pair_behind" s_pair_behind ["pair", "often"] sp_pair_behind := by
  obtain ⟨f, fd, F⟩ := T.t_pair_behind
  refine ⟨f, fd, F, F.fn.okD sc_pair_behind (fun ds Q ⟨p, e, _⟩ => by rw [e]; rfl) fun cdv A outer s H E hr => ⟨_, (dss_cons (ds_set 2 sc_pair_behind.nd (de_sub_ix (dv 0) de_int)) (dss_cons (ds_set 3 sc_pair_behind.nd (de_sub_ix (dv 0) de_int)) (dss_one (ds_ret (de_tup (da_cons (dv 3) (da_cons (de_tup (da_cons (de_add (de_mul (dv 1) (de_sub_ix (dv 3) de_int)) (de_sub_ix (dv 2) de_int)) (da_cons (de_add (de_mul (dv 1) (de_sub_ix (dv 3) de_int)) (de_sub_ix (dv 2) de_int)) da_nil))) da_nil))))))), fun ds Q h => ?_⟩⟩
  obtain ⟨⟨⟨⟨x', y'⟩, x, y⟩, a⟩, rfl, ⟨⟨hx, hy⟩, ha⟩, q⟩ := h
  have q' := q _ rfl
  have hx : Bt 5000 x := hx
  have hy : Bt 5000 y := hy
  have ha : Bt 5000 a := ha
  walk_at "go"
  exact ⟨ha.mulOk hx, ha.mulOk hy, size_ok (by decide), size_ok (by decide), q'⟩
theorem ok_fraction_of {P : Program} {w : World} {K : PySem.W.Frag} {mg : Str → Option Value} {base : Heap} (T : Txt K mg)
    (G_first_pair : Pm P w K mg base 1 "first_pair" s_first_pair ["rows"] sp_first_pair)
    (G_pair_behind : Pm P w K mg base 1 "pair_behind" s_pair_behind ["pair", "often"] sp_pair_behind)
    (G_part_of : Pm P w K mg base 1 "part_of" s_part_of ["rows", "k"] sp_part_of)
    : Pm P w K mg base 2 "fraction_of" s_fraction_of ["rows", "k"] sp_fraction_of := by
  obtain ⟨f, fd, F⟩ := T.t_fraction_of
  refine ⟨f, fd, F, F.fn.okD sc_fraction_of (fun ds Q ⟨p, e, _⟩ => by rw [e]; rfl) fun cdv A outer s H E hr => ⟨_, (dss_cons (ds_set 2 sc_fraction_of.nd (de_callP spec_mono G_first_pair (hr.mono (by decide)) rfl (da_cons (dv 0) da_nil))) (dss_cons (ds_for PassesOwn.never rfl (di_rng2 rfl T.z_range (da_cons de_int (da_cons (de_add (dv 1) de_int) da_nil))) (dg_name 3 sc_fraction_of.nd) (dss_one (ds_set 2 sc_fraction_of.nd (de_callP spec_mono G_pair_behind (hr.mono (by decide)) rfl (da_cons (dv 2) (da_cons (de_callP spec_mono G_part_of (hr.mono (by decide)) rfl (da_cons (dv 0) (da_cons (dv 3) da_nil))) da_nil)))))) (dss_one (ds_ret (de_sub_ix (dv 2) de_int))))), fun ds Q h => ?_⟩⟩
  obtain ⟨⟨⟨n, f, L⟩, k⟩, rfl, ⟨C, hk⟩, q⟩ := h
  have C : ChainOf n f L := C
  have hk : k ≤ 300 := hk
  have q' : Q (t2 (prAt n f k).2) := q _ rfl
  walk_at "go"
  refine specF_of (n, f, L) trivial ?_
  refine dFor_of (ups 1 k) (fun R h => ?_) (fun i ρ => i ≤ k ∧ ∃ x, ρ = [some (.is (rowsD n f L)), some (.is (.int (k : Int))), some (.is (pairD (prAt n f i))), x]) ⟨Nat.zero_le _, _, rfl⟩ ?_ ?_
  · walk_at "rd"
    have e : ((k : Int) + 1 - 1).toNat = k := by omega
    first | rw [e] | skip
    exact ⟨⟨by omega, by omega⟩, h⟩
  · rintro i d _ hi ⟨hik, x, rfl⟩
    obtain ⟨hi, rfl⟩ := ups_get hi
    walk_at "rd"
    refine specF_of ((n, f, L), 1 + (i : Int)) ⟨C, by show 0 ≤ 1 + (i : Int); omega⟩ ?_
    dsimp only
    rw [show (1 + (i : Int)).toNat = i + 1 by omega]
    exact pair_of C (by omega) ⟨by omega, _, rfl⟩
  · rintro _ ⟨_, x, rfl⟩
    walk_at "rd"
    rw [ups_len]
    exact q'

abbrev sp_point_of_round : DSp := spec (fun p : Unit => [.non]) (fun _ => False) fun _ _ => False
theorem ok_point_of_round {P : Program} {w : World} {K : PySem.W.Frag} {mg : Str → Option Value} {base : Heap} (T : Txt K mg) : Pm P w K mg base 3 "point_of_round" s_point_of_round ["rows"] sp_point_of_round := by
  obtain ⟨f, fd, F⟩ := T.t_point_of_round
  exact ⟨f, fd, F, F.fn.okD sc_point_of_round (fun ds Q ⟨p, e, _⟩ => by rw [e]; rfl) fun cdv A outer s H E hr => ⟨_, dss_never, fun ds Q ⟨_, _, z, _⟩ => z.elim⟩⟩
abbrev sp_last_pair_within : DSp := spec (fun p : Unit => [.non, .non]) (fun _ => False) fun _ _ => False
theorem ok_last_pair_within {P : Program} {w : World} {K : PySem.W.Frag} {mg : Str → Option Value} {base : Heap} (T : Txt K mg) : Pm P w K mg base 2 "last_pair_within" s_last_pair_within ["rows", "most"] sp_last_pair_within := by
  obtain ⟨f, fd, F⟩ := T.t_last_pair_within
  exact ⟨f, fd, F, F.fn.okD sc_last_pair_within (fun ds Q ⟨p, e, _⟩ => by rw [e]; rfl) fun cdv A outer s H E hr => ⟨_, dss_never, fun ds Q ⟨_, _, z, _⟩ => z.elim⟩⟩
abbrev spx_part : DSpX := specX (fun p : (Int × Bool) × Int => [.int p.1.1, .int p.2]) (fun p => Kd p.1 ∧ ¬ Num p.1.1) (fun _ => False) (fun _ _ => False) fun p => xNum p.1
abbrev spx_nearest : DSpX := specX (fun p : (Int × Bool) × Int => [.int p.1.1, .int p.2]) (fun p => Kd p.1 ∧ ¬ Num p.1.1) (fun _ => False) (fun _ _ => False) fun p => xNum p.1
abbrev spx_plus_one : DSpX := specX (fun p : Int × Bool => [.int p.1]) (fun p => Kd p ∧ ¬ Num p.1) (fun _ => False) (fun _ _ => False) xNum
abbrev spx_minus_one : DSpX := specX (fun p : Int × Bool => [.int p.1]) (fun p => Kd p ∧ ¬ Num p.1) (fun _ => False) (fun _ _ => False) xNum
def xFrac (p : (Int × Bool) × Int) : Dt := if p.1.2 = false ∧ p.1.1 ≤ 1000 then xGreat p.2 300 else xNum p.1
abbrev spx_fraction : DSpX := specX (fun p : (Int × Bool) × Int => [.int p.1.1, .int p.2]) (fun p => Kd p.1 ∧ 0 ≤ p.2) (fun p => Num p.1.1 ∧ p.2 ≤ 300) (fun p d => ∃ t : I2, d = t2 t) xFrac
theorem okx_part {P : Program} {w : World} {K : PySem.W.Frag} {mg : Str → Option Value} {base : Heap} (T : Txt K mg)
    (G_part_of : Pm P w K mg base 1 "part_of" s_part_of ["rows", "k"] sp_part_of)
    (GX_chain : PmX P w K mg base 5 "chain" s_chain ["number"] spx_chain)
    : PmX P w K mg base 6 "part" s_part ["number", "k"] spx_part := by
  obtain ⟨f, fd, F⟩ := T.t_part
  refine ⟨f, fd, F, F.fn.okX sc_part (fun ds Q E ⟨p, e, _⟩ => by rw [e]; rfl) fun cdv A outer s H E hr => ⟨_, (dssx_one (dsx_ret (dex_callA spec_mono G_part_of (hr.mono (by decide)) rfl (dax_cons (dex_call specX_mono GX_chain (hr.mono (by decide)) rfl (da_cons (dv 0) da_nil)) (da_cons (dv 1) da_nil))))), fun ds Q Ex h => ?_⟩⟩
  obtain ⟨⟨⟨n, b⟩, k⟩, rfl, ⟨hk, hn⟩, q, x⟩ := h
  walk_at "go"
  exact specX_of (n, b) hk (fun z => absurd z hn) fun _ => x fun z => z
theorem okx_nearest {P : Program} {w : World} {K : PySem.W.Frag} {mg : Str → Option Value} {base : Heap} (T : Txt K mg)
    (G_last_pair_within : Pm P w K mg base 2 "last_pair_within" s_last_pair_within ["rows", "most"] sp_last_pair_within)
    (GX_chain : PmX P w K mg base 5 "chain" s_chain ["number"] spx_chain)
    : PmX P w K mg base 6 "nearest" s_nearest ["number", "most"] spx_nearest := by
  obtain ⟨f, fd, F⟩ := T.t_nearest
  refine ⟨f, fd, F, F.fn.okX sc_nearest (fun ds Q E ⟨p, e, _⟩ => by rw [e]; rfl) fun cdv A outer s H E hr => ⟨_, (dssx_cons (dsx_set 2 sc_nearest.nd (dex_callA spec_mono G_last_pair_within (hr.mono (by decide)) rfl (dax_cons (dex_call specX_mono GX_chain (hr.mono (by decide)) rfl (da_cons (dv 0) da_nil)) (da_cons (dv 1) da_nil)))) (dssx_cons (dsx_of ds_never) (dssx_one (dsx_of ds_never)))), fun ds Q Ex h => ?_⟩⟩
  obtain ⟨⟨⟨n, b⟩, k⟩, rfl, ⟨hk, hn⟩, q, x⟩ := h
  walk_at "go"
  exact specX_of (n, b) hk (fun z => absurd z hn) fun _ => x fun z => z
theorem okx_plus_one {P : Program} {w : World} {K : PySem.W.Frag} {mg : Str → Option Value} {base : Heap} (T : Txt K mg)
    (G_point_of_round : Pm P w K mg base 3 "point_of_round" s_point_of_round ["rows"] sp_point_of_round)
    (GX_chain : PmX P w K mg base 5 "chain" s_chain ["number"] spx_chain)
    : PmX P w K mg base 6 "plus_one" s_plus_one ["number"] spx_plus_one := by
  obtain ⟨f, fd, F⟩ := T.t_plus_one
  refine ⟨f, fd, F, F.fn.okX sc_plus_one (fun ds Q E ⟨p, e, _⟩ => by rw [e]; rfl) fun cdv A outer s H E hr => ⟨_, (dssx_cons (dsx_set 1 sc_plus_one.nd (dex_callA spec_mono G_point_of_round (hr.mono (by decide)) rfl (dax_cons (dex_call specX_mono GX_chain (hr.mono (by decide)) rfl (da_cons (dv 0) da_nil)) da_nil))) (dssx_cons (dsx_of ds_never) (dssx_one (dsx_of ds_never)))), fun ds Q Ex h => ?_⟩⟩
  obtain ⟨⟨n, b⟩, rfl, ⟨hk, hn⟩, q, x⟩ := h
  walk_at "go"
  exact specX_of (n, b) hk (fun z => absurd z hn) fun _ => x fun z => z
theorem okx_minus_one {P : Program} {w : World} {K : PySem.W.Frag} {mg : Str → Option Value} {base : Heap} (T : Txt K mg)
    (G_point_of_round : Pm P w K mg base 3 "point_of_round" s_point_of_round ["rows"] sp_point_of_round)
    (GX_chain : PmX P w K mg base 5 "chain" s_chain ["number"] spx_chain)
    : PmX P w K mg base 6 "minus_one" s_minus_one ["number"] spx_minus_one := by
  obtain ⟨f, fd, F⟩ := T.t_minus_one
  refine ⟨f, fd, F, F.fn.okX sc_minus_one (fun ds Q E ⟨p, e, _⟩ => by rw [e]; rfl) fun cdv A outer s H E hr => ⟨_, (dssx_cons (dsx_set 1 sc_minus_one.nd (dex_callA spec_mono G_point_of_round (hr.mono (by decide)) rfl (dax_cons (dex_call specX_mono GX_chain (hr.mono (by decide)) rfl (da_cons (dv 0) da_nil)) da_nil))) (dssx_cons (dsx_of ds_never) (dssx_one (dsx_of ds_never)))), fun ds Q Ex h => ?_⟩⟩
  obtain ⟨⟨n, b⟩, rfl, ⟨hk, hn⟩, q, x⟩ := h
  walk_at "go"
  exact specX_of (n, b) hk (fun z => absurd z hn) fun _ => x fun z => z
theorem okx_fraction {P : Program} {w : World} {K : PySem.W.Frag} {mg : Str → Option Value} {base : Heap} (T : Txt K mg)
    (GX_chain : PmX P w K mg base 5 "chain" s_chain ["number"] spx_chain)
    (GX_check_at_most : PmX P w K mg base 3 "check_at_most" s_check_at_most ["number", "most"] spx_check_at_most)
    (G_fraction_of : Pm P w K mg base 2 "fraction_of" s_fraction_of ["rows", "k"] sp_fraction_of)
    : PmX P w K mg base 6 "fraction" s_fraction ["number", "k"] spx_fraction := by
  obtain ⟨f, fd, F⟩ := T.t_fraction
  obtain ⟨t_MOST_PLACE, m_MOST_PLACE⟩ := T.m_MOST_PLACE
  refine ⟨f, fd, F, F.fn.okX sc_fraction (fun ds Q E ⟨p, e, _⟩ => by rw [e]; rfl) fun cdv A outer s H E hr => ⟨_, (dssx_cons (dsx_set 2 sc_fraction.nd (dex_call specX_mono GX_chain (hr.mono (by decide)) rfl (da_cons (dv 0) da_nil))) (dssx_cons (dsx_expr (dex_call specX_mono GX_check_at_most (hr.mono (by decide)) rfl (da_cons (dv 1) (da_cons (de_glob (v := .int (300)) (d := .int (300)) rfl m_MOST_PLACE ⟨_, rfl⟩ (fun _ => rp_int.mpr rfl)) da_nil)))) (dssx_one (dsx_of (ds_ret (de_callP spec_mono G_fraction_of (hr.mono (by decide)) rfl (da_cons (dv 2) (da_cons (dv 1) da_nil)))))))), fun ds Q Ex h => ?_⟩⟩
  obtain ⟨⟨⟨n, b⟩, k⟩, rfl, ⟨hk, h0⟩, q, x⟩ := h
  have hk : Kd (n, b) := hk
  have h0 : 0 ≤ k := h0
  have q : Num n ∧ k ≤ 300 → ∀ d, (∃ t : I2, d = t2 t) → Q d := q
  have x : ¬ (Num n ∧ k ≤ 300) → Ex (xFrac ((n, b), k)) := x
  walk_at "go"
  refine specX_of (n, b) hk (fun hn d hd => ?_) fun hn => ?_
  · have hn : Num n := hn
    obtain ⟨f, L, C, rfl⟩ := hd
    walk_at "rd"
    refine specX_of (k, 300) trivial (fun g d hd => ?_) fun g => ?_
    · have g : k ≤ 300 := g
      obtain ⟨m, rfl⟩ := Int.eq_ofNat_of_zero_le h0
      walk_at "rd"
      exact specF_of ((n, f, L), m) ⟨C, by show m ≤ 300; omega⟩ (q ⟨hn, g⟩ _ ⟨_, rfl⟩)
    · have := x fun z => g z.2
      unfold xFrac at this
      rw [if_pos (hk.num.mp hn)] at this
      exact this
  · have := x fun z => hn z.1
    unfold xFrac at this
    rw [if_neg fun z => hn (hk.num.mpr z)] at this
    exact this
def isI : Dt → Bool
  | .int _ => true
  | _ => false
abbrev sp__law_wholes : DSp := specF (fun p : List Int × Int => [.tup (p.1.map Dt.int), .int p.2]) (fun p => p.1.length ≤ 1000) fun p => .bl (decide ((p.1.length : Int) = p.2))
theorem wholes_of {Q : Dt → Prop} (ns : List Int) (k : Int) (h : (ns.length : Int) = k) (hl : ns.length ≤ 1000) (q : Q (.bl true)) : sp__law_wholes [.tup (ns.map Dt.int), .int k] Q :=
  specF_of (ns, k) hl (by dsimp only; rw [decide_eq_true h]; exact q)
theorem wholes2 {Q : Dt → Prop} (p : I2) (q : Q (.bl true)) : sp__law_wholes [t2 p, .int 2] Q := wholes_of [p.1, p.2] 2 rfl (by show 2 ≤ 1000; decide) q
theorem wholes4 {Q : Dt → Prop} (p : I4) (q : Q (.bl true)) : sp__law_wholes [t4 p, .int 4] Q := wholes_of [p.1, p.2.1, p.2.2.1, p.2.2.2] 4 rfl (by show 4 ≤ 1000; decide) q
theorem wholes3 {Q : Dt → Prop} (p : I3) (q : Q (.bl true)) : sp__law_wholes [t3 p, .int 3] Q := wholes_of [p.1, p.2.1, p.2.2] 3 rfl (by show 3 ≤ 1000; decide) q
theorem ok__law_wholes {P : Program} {w : World} {K : PySem.W.Frag} {mg : Str → Option Value} {base : Heap} (T : Txt K mg)
    : Pm P w K mg base 1 "_law_wholes" s__law_wholes ["_law_found", "_law_many"] sp__law_wholes := by
  obtain ⟨f, fd, F⟩ := T.t__law_wholes
  refine ⟨f, fd, F, F.fn.okD sc__law_wholes (fun ds Q ⟨p, e, _⟩ => by rw [e]; rfl) fun cdv A outer s H E hr => ⟨_, (dss_cons (ds_if (DW.dt (dw_or (dt_not (dt_val (de_isi T.z_isinstance T.z_tuple isi_tuple (dv 0)))) (dw_or1 (dt_ne hr.units (de_len T.z_len (da_cons (dv 0) da_nil)) (dv 1))))) (dss_one (ds_ret de_bl)) dss_nil) (dss_one (ds_ret (de_eq hr.units (de_len T.z_len (da_cons (de_compI (comp_side (sc := defScope s__law_wholes) (NN := ["_law_found", "_law_many"]) (x := "_law_one") (N := []) (sl := []) rfl rfl (by decide +kernel)) rfl (di_tup (dv 0)) (fun cl C s0 H0 ex => (DW.dt (dw_and (dt_val (de_isi T.z_isinstance T.z_int isi_int (dv 0))) (dw_and1 (dt_not (dt_val (de_isi T.z_isinstance T.z_bool isi_bool (dv 0)))))))) (fun cl C s0 H0 ex => (dv 0))) da_nil)) (dv 1))))), fun ds Q h => ?_⟩⟩
  obtain ⟨⟨ns, k⟩, rfl, h0, q⟩ := h
  walk_at "go"
  have q' := q _ rfl
  dsimp only at q'
  by_cases hk : (ns.length : Int) = k
  · rw [decide_eq_true hk] at q'
    simp only [decide_eq_true hk]
    walk_at "rd"
    refine dComp_filter (ns.map Dt.int) isI id (fun R h => h) (by rw [List.length_map]; exact size_ok h0) caught_nil (fun d hd R hR => ?_) (fun d hd hp R hR => hR) ?_
    · unfold inner
      walk_at "rd"
      obtain ⟨n, _, rfl⟩ := List.mem_map.mp hd
      exact ⟨rfl, rfl, hR⟩
    · have e : (List.filter isI (ns.map Dt.int)).map id = ns.map Dt.int := by
        rw [List.map_id, List.filter_eq_self]
        intro d hd
        obtain ⟨n, _, rfl⟩ := List.mem_map.mp hd
        rfl
      rw [e]
      walk_at "rd"
      rw [decide_eq_true hk]
      exact q'
  · rw [decide_eq_false hk] at q'
    simp only [decide_eq_false hk]
    exact q'

theorem fdivk_bt {n : Nat} {x k : Int} (hk : 0 < k) (h : Bt n x) : Bt n (x.fdiv k) := by
  unfold Bt at *
  rw [Int.fdiv_eq_ediv_of_nonneg _ (by omega)]
  refine Nat.lt_of_le_of_lt ?_ h
  exact Int.natAbs_ediv_le_natAbs x k
theorem big_bt : Bt 200 27182818284590452353602874713526624977572470936999595749669 := by unfold Bt; decide
theorem big_bt2 : Bt 200 31415926535897932384626433832795028841971693993751058209749 := by unfold Bt; decide
abbrev sp__law_number : DSp := spec (fun c : Int => [.int c]) (fun c => Bt 1048576 c) fun _ d => ∃ n : Int, d = .int n ∧ Bt 300 n
theorem ok__law_number {P : Program} {w : World} {K : PySem.W.Frag} {mg : Str → Option Value} {base : Heap} (T : Txt K mg)
    : Pm P w K mg base 1 "_law_number" s__law_number ["_law_cell"] sp__law_number := by
  obtain ⟨f, fd, F⟩ := T.t__law_number
  refine ⟨f, fd, F, F.fn.okD sc__law_number (fun ds Q ⟨p, e, _⟩ => by rw [e]; rfl) fun cdv A outer s H E hr => ⟨_, (dss_cons (ds_if (dt_eq hr.units (de_mod (dv 0) de_int) de_int) (dss_one (ds_ret (de_mul (de_mod (de_div (dv 0) de_int) de_int) (de_mod (de_div (dv 0) de_int) de_int)))) dss_nil) (dss_cons (ds_if (dt_eq hr.units (de_mod (dv 0) de_int) de_int) (dss_one (ds_ret (de_sub de_int (de_mod (de_mul (de_div (dv 0) de_int) de_int) (de_add (de_pow de_int de_int) de_int))))) dss_nil) (dss_cons (ds_if (dt_eq hr.units (de_mod (dv 0) de_int) de_int) (dss_one (ds_ret (de_add de_int (de_mod (de_div (dv 0) de_int) de_int)))) dss_nil) (dss_one (ds_ret (de_add de_int (de_mod (de_mul (de_div (dv 0) de_int) de_int) (de_sub (de_pow de_int de_int) de_int)))))))), fun ds Q h => ?_⟩⟩
  obtain ⟨c, rfl, hc, q⟩ := h
  have hc : Bt 1048576 c := hc
  have cp : CPow 10 60 := ⟨by decide, by decide, by decide⟩
  have e : (10 ^ Int.toNat 60 : Int) < 2 ^ 200 := by decide
  have h41 := fm_range (c.fdiv 4) (m := 41) (by decide)
  have h50 := fm_range (c.fdiv 4) (m := 50) (by decide)
  have ha := fm_range (c.fdiv 4 * 27182818284590452353602874713526624977572470936999595749669) (m := 10 ^ Int.toNat 60 + 2) (by decide)
  have hb := fm_range (c.fdiv 4 * 27182818284590452353602874713526624977572470936999595749669) (m := 10 ^ Int.toNat 60 - 1000) (by decide)
  have mo : IntMulOk (c.fdiv 4) 27182818284590452353602874713526624977572470936999595749669 := (fdivk_bt (by decide) hc).mulOk big_bt
  have b41 : Bt 6 ((c.fdiv 4).fmod 41) := Bt.of (by omega) (by omega)
  walk_at "go"
  refine ⟨by decide, ite2 (fun _ => ⟨⟨by decide, by decide⟩, by decide, ⟨by decide, by decide⟩, by decide, b41.mulOk b41, q _ ⟨_, rfl, (b41.mul b41).le (by decide)⟩⟩) (fun _ => ⟨by decide, ite2 (fun _ => ⟨⟨by decide, by decide⟩, mo, cp, by decide, q _ ⟨_, rfl, Bt.of (by omega) (by omega)⟩⟩) (fun _ => ⟨by decide, ite2 (fun _ => ⟨⟨by decide, by decide⟩, by decide, q _ ⟨_, rfl, Bt.of (by omega) (by omega)⟩⟩) (fun _ => ⟨⟨by decide, by decide⟩, mo, cp, by decide, q _ ⟨_, rfl, Bt.of (by omega) (by omega)⟩⟩)⟩)⟩)⟩
def dueD (p : Int × Bool) : Dt := if p.2 = true then .lst [.str "root", .int p.1] else if 1000 < p.1 then .lst [.str "great", .int p.1, .int 1000] else .lst []
abbrev sp__law_due : DSp := specF (fun p : Int × Bool => [.int p.1]) Kd dueD
theorem ok__law_due {P : Program} {w : World} {K : PySem.W.Frag} {mg : Str → Option Value} {base : Heap} (T : Txt K mg)
    : Pm P w K mg base 1 "_law_due" s__law_due ["_law_number_here"] sp__law_due := by
  obtain ⟨f, fd, F⟩ := T.t__law_due
  refine ⟨f, fd, F, F.fn.okD sc__law_due (fun ds Q ⟨p, e, _⟩ => by rw [e]; rfl) fun cdv A outer s H E hr => ⟨_, (dss_cons (ds_if (dt_lt (dv 0) de_int) (dss_one (ds_ret (de_lst (da_cons de_str (da_cons (dv 0) da_nil))))) dss_nil) (dss_cons (ds_set 1 sc__law_due.nd (de_shl de_int (de_div (de_add (de_bits (dv 0)) de_int) de_int))) (dss_cons (ds_while PassesOwn.never (dt_gt (de_mul (dv 1) (dv 1)) (dv 0)) (dss_one (ds_set 1 sc__law_due.nd (de_div (de_add (dv 1) (de_div (dv 0) (dv 1))) de_int)))) (dss_cons (ds_if (dt_eq hr.units (de_mul (dv 1) (dv 1)) (dv 0)) (dss_one (ds_ret (de_lst (da_cons de_str (da_cons (dv 0) da_nil))))) dss_nil) (dss_cons (ds_if (dt_gt (dv 0) de_int) (dss_one (ds_ret (de_lst (da_cons de_str (da_cons (dv 0) (da_cons de_int da_nil)))))) dss_nil) (dss_one (ds_ret (de_lst da_nil)))))))), fun ds Q h => ?_⟩⟩
  obtain ⟨⟨n, b⟩, rfl, hk, q⟩ := h
  have hk : Kd (n, b) := hk
  have hk2 : b = true ↔ n < 2 ∨ isSq n := hk.2
  have hn : Bt 4000 n := hk.1.le (by decide)
  have q' := q _ rfl
  have end1 : b = true → Q (.lst [.str "root", .int n]) := fun z => by
    subst z
    exact q'
  walk_at "go"
  refine ite2 (fun hw => ⟨size_ok (by decide), end1 (hk2.mpr (.inl (of_decide_eq_true hw)))⟩) (fun hw => ?_)
  have hw : ¬ n < 2 := fun z => hw (decide_eq_true z)
  have h0 : 0 ≤ n := by omega
  obtain ⟨c1, c2, c3⟩ := start_small hn
  have hu := start_up h0
  refine ⟨⟨by decide, by decide⟩, c1, ?_⟩
  generalize (1 * 2 ^ ((((Builtin.Int.intBits n : Nat) : Int) + 1).fdiv 2).toNat : Int) = g at *
  refine while_of (fun m ρ => ∃ g : Int, ρ = [some (.is (.int n)), some (.is (.int g))] ∧ 0 ≤ g ∧ Bt 2001 g ∧ n < (g + 1) * (g + 1) ∧ m = g.toNat) _ ⟨g, rfl, by omega, c2, hu, rfl⟩ ?_
  rintro m _ ⟨g, rfl, hg, hgb, hgu, rfl⟩
  walk_at "rd"
  refine ⟨hgb.mulOk hgb, ite2 (fun hw2 => ?_) (fun hw2 => ?_)⟩
  · have hw2 := of_decide_eq_true hw2
    have hg0 : 0 < g := by
      rcases Int.lt_or_le 0 g with z | z
      · exact z
      · have : g = 0 := by omega
        subst this
        omega
    have hd := newton_down hg0 hw2
    have hu' := newton_up h0 hg0
    have hp : 0 ≤ (g + n / g) / 2 := by
      have := Int.ediv_nonneg h0 (show 0 ≤ g by omega)
      omega
    have hbb : Bt 2001 ((g + n / g) / 2) := by unfold Bt at *; omega
    refine ⟨Bt.divOk hgb (by omega), ⟨by decide, by decide⟩, ?_⟩
    rw [near_eq hg0]
    exact ⟨_, by omega, _, rfl, hp, hbb, hu', rfl⟩
  · have hw2 : ¬ n < g * g := fun z => hw2 (decide_eq_true z)
    have hs : Sq n g := ⟨by omega, by omega, hgu⟩
    refine ⟨hgb.mulOk hgb, ite2 (fun hw3 => ⟨size_ok (by decide), end1 (hk2.mpr (.inr ((isSq_iff hs).mpr (of_decide_eq_true hw3))))⟩) (fun hw3 => ?_)⟩
    have nb : b = false := Bool.eq_false_iff.mpr fun z => (hk2.mp z).elim hw fun z => hw3 (decide_eq_true ((isSq_iff hs).mp z))
    subst nb
    refine ite2 (fun hw4 => ⟨size_ok (by decide), ?_⟩) (fun hw4 => ⟨size_ok (by decide), ?_⟩)
    · have : dueD (n, false) = .lst [.str "great", .int n, .int 1000] := by unfold dueD; rw [if_neg (by simp), if_pos (of_decide_eq_true hw4)]
      rw [← this]; exact q'
    · have : dueD (n, false) = .lst [] := by unfold dueD; rw [if_neg (by simp), if_neg fun z => hw4 (decide_eq_true z)]
      rw [← this]; exact q'
theorem xc_any {K : PySem.W.Frag} {mg : Str → Option Value} {c : Str} {ns : List Str} {ds : List Dt} {Q : Dt → Prop} {Dn : DEnv → Prop} {d0 d1 d2 d3 : Option En} (u : Under K mg c "FormError") (q : Q (.exc c ns ds)) :
    xcatch K mg "FormError" 4 (dAsg (dVar 4) (dgName 3)) { nx := dRet (dVar 3) { nx := Dn, rt := Q }, rt := Q } [d0, d1, d2, d3, none] (.exc c ns ds) := ⟨u, q⟩
theorem xc_num {K : PySem.W.Frag} {mg : Str → Option Value} {p : Int × Bool} {Q : Dt → Prop} {Dn : DEnv → Prop} {d0 d1 d2 d3 : Option En} (u1 : Under K mg "NoRoot" "FormError") (u2 : Under K mg "TooGreat" "FormError") (q : Q (xNum p)) :
    xcatch K mg "FormError" 4 (dAsg (dVar 4) (dgName 3)) { nx := dRet (dVar 3) { nx := Dn, rt := Q }, rt := Q } [d0, d1, d2, d3, none] (xNum p) := by
  obtain ⟨n, b⟩ := p
  cases b with
  | true => exact xc_any u1 q
  | false => exact xc_any u2 q
def caughtD (p : Int × (Int × Bool) × Int) : Dt := if p.2.1.2 = true ∨ 1000 < p.2.1.1 then xNum p.2.1 else if p.2.2 ≤ 300 then .non else xGreat p.2.2 300
abbrev sp__law_caught : DSp := specF (fun p : Int × (Int × Bool) × Int => [.int p.1, .int p.2.1.1, .int p.2.2]) (fun p => (0 ≤ p.1 ∧ p.1 < 6) ∧ Kd p.2.1 ∧ 0 ≤ p.2.2 ∧ (Num p.2.1.1 → p.1 = 2)) caughtD
theorem ok__law_caught {P : Program} {w : World} {K : PySem.W.Frag} {mg : Str → Option Value} {base : Heap} (T : Txt K mg)
    (GX_chain : PmX P w K mg base 5 "chain" s_chain ["number"] spx_chain)
    (GX_part : PmX P w K mg base 6 "part" s_part ["number", "k"] spx_part)
    (GX_fraction : PmX P w K mg base 6 "fraction" s_fraction ["number", "k"] spx_fraction)
    (GX_plus_one : PmX P w K mg base 6 "plus_one" s_plus_one ["number"] spx_plus_one)
    (GX_minus_one : PmX P w K mg base 6 "minus_one" s_minus_one ["number"] spx_minus_one)
    (GX_nearest : PmX P w K mg base 6 "nearest" s_nearest ["number", "most"] spx_nearest)
    : Pm P w K mg base 7 "_law_caught" s__law_caught ["_law_way", "_law_number_here", "_law_k"] sp__law_caught := by
  obtain ⟨f, fd, F⟩ := T.t__law_caught
  obtain ⟨U_FormError, u_FormError⟩ := T.u_FormError
  refine ⟨f, fd, F, F.fn.okD sc__law_caught (fun ds Q ⟨p, e, _⟩ => by rw [e]; rfl) fun cdv A outer s H E hr => ⟨_, (dss_cons (ds_set 3 sc__law_caught.nd de_non) (dss_cons (ds_calm (dsx_try 4 u_FormError sc__law_caught.nd (fun W pn => (dssx_cons (dsx_if (dt_eq hr.units (dv 0) de_int) (dssx_one (dsx_expr (dex_call specX_mono GX_chain (hr.mono (by decide)) rfl (da_cons (dv 1) da_nil)))) dssx_nil) (dssx_cons (dsx_if (dt_eq hr.units (dv 0) de_int) (dssx_one (dsx_expr (dex_call specX_mono GX_part (hr.mono (by decide)) rfl (da_cons (dv 1) (da_cons (dv 2) da_nil))))) dssx_nil) (dssx_cons (dsx_if (dt_eq hr.units (dv 0) de_int) (dssx_one (dsx_expr (dex_call specX_mono GX_fraction (hr.mono (by decide)) rfl (da_cons (dv 1) (da_cons (dv 2) da_nil))))) dssx_nil) (dssx_cons (dsx_if (dt_eq hr.units (dv 0) de_int) (dssx_one (dsx_expr (dex_call specX_mono GX_plus_one (hr.mono (by decide)) rfl (da_cons (dv 1) da_nil)))) dssx_nil) (dssx_cons (dsx_if (dt_eq hr.units (dv 0) de_int) (dssx_one (dsx_expr (dex_call specX_mono GX_minus_one (hr.mono (by decide)) rfl (da_cons (dv 1) da_nil)))) dssx_nil) (dssx_one (dsx_if (dt_eq hr.units (dv 0) de_int) (dssx_one (dsx_expr (dex_call specX_mono GX_nearest (hr.mono (by decide)) rfl (da_cons (dv 1) (da_cons de_int da_nil))))) dssx_nil)))))))) (fun a => (dss_one (ds_set 3 sc__law_caught.nd (dv 4)))))) (dss_one (ds_ret (dv 3))))), fun ds Q h => ?_⟩⟩
  obtain ⟨⟨way, ⟨n, b⟩, k⟩, rfl, ⟨⟨w0, w6⟩, hk, h0, hw⟩, q⟩ := h
  have w0 : 0 ≤ way := w0
  have w6 : way < 6 := w6
  have hk : Kd (n, b) := hk
  have h0 : 0 ≤ k := h0
  have hw : Num n → way = 2 := hw
  have q' := q _ rfl
  have u1 := T.un_NoRoot_FormError
  have u2 := T.un_TooGreat_FormError
  walk_at "go"
  have qn : ¬ Num n → Q (xNum (n, b)) := fun z => by
    have e : caughtD (way, (n, b), k) = xNum (n, b) := if_pos (by
      cases b with
      | true => exact .inl rfl
      | false =>
        refine .inr ?_
        rcases Int.lt_or_le 1000 n with w | w
        · exact w
        · exact absurd (hk.num.mpr ⟨rfl, w⟩) z)
    rw [← e]
    exact q'
  have nn : way ≠ 2 → ¬ Num n := fun z w => z (hw w)
  obtain rfl | rfl | rfl | rfl | rfl | rfl : way = 0 ∨ way = 1 ∨ way = 2 ∨ way = 3 ∨ way = 4 ∨ way = 5 := by omega
  · exact ift rfl (specX_of (n, b) hk (fun z => absurd z (nn (by decide))) fun _ => xc_num u1 u2 (qn (nn (by decide))))
  · exact iff' rfl (ift rfl (specX_of ((n, b), k) ⟨hk, nn (by decide)⟩ (fun z => z.elim) fun _ => xc_num u1 u2 (qn (nn (by decide)))))
  · refine iff' rfl (iff' rfl (ift rfl (specX_of ((n, b), k) ⟨hk, h0⟩ (fun g d _ => ?_) fun g => ?_)))
    · have g : Num n ∧ k ≤ 300 := g
      obtain ⟨g1, g2⟩ := hk.num.mp g.1
      subst g1
      have e : caughtD (2, (n, false), k) = .non := by
        unfold caughtD
        rw [if_neg (by simp; omega), if_pos g.2]
      rw [e] at q'
      exact iff' rfl (iff' rfl (iff' rfl q'))
    · have g : ¬ (Num n ∧ k ≤ 300) := g
      rcases Classical.em (Num n) with z | z
      · have z' := hk.num.mp z
        have ex : xFrac ((n, b), k) = xGreat k 300 := if_pos z'
        have ec : caughtD (2, (n, b), k) = xGreat k 300 := by
          unfold caughtD
          rw [if_neg (by rw [z'.1]; simp; omega), if_neg fun w => g ⟨z, w⟩]
        rw [ec] at q'
        rw [ex]
        exact ⟨u2, q'⟩
      · have ex : xFrac ((n, b), k) = xNum (n, b) := if_neg fun w => z (hk.num.mpr w)
        rw [ex]
        exact xc_num u1 u2 (qn z)
  · exact iff' rfl (iff' rfl (iff' rfl (ift rfl (specX_of (n, b) ⟨hk, nn (by decide)⟩ (fun z => z.elim) fun _ => xc_num u1 u2 (qn (nn (by decide)))))))
  · exact iff' rfl (iff' rfl (iff' rfl (iff' rfl (ift rfl (specX_of (n, b) ⟨hk, nn (by decide)⟩ (fun z => z.elim) fun _ => xc_num u1 u2 (qn (nn (by decide))))))))
  · exact iff' rfl (iff' rfl (iff' rfl (iff' rfl (iff' rfl (ift rfl (specX_of ((n, b), 7) ⟨hk, nn (by decide)⟩ (fun z => z.elim) fun _ => xc_num u1 u2 (qn (nn (by decide)))))))))
def refE : Bool × I2 → Dt
  | (true, n, _) => xRoot n
  | (false, n, m) => xGreat n m
def refD : Bool × I2 → Dt
  | (true, n, _) => .lst [.str "root", .int n]
  | (false, n, m) => .lst [.str "great", .int n, .int m]
abbrev sp__law_refused : DSp := specF (fun p => [refE p, refD p]) (fun _ => True) fun _ => .bl true
theorem ok__law_refused {P : Program} {w : World} {K : PySem.W.Frag} {mg : Str → Option Value} {base : Heap} (T : Txt K mg)
    : Pm P w K mg base 1 "_law_refused" s__law_refused ["_law_e", "_law_due_here"] sp__law_refused := by
  obtain ⟨f, fd, F⟩ := T.t__law_refused
  obtain ⟨A_Apart, m_Apart, b_NoRoot_Apart, b_TooGreat_Apart⟩ := T.c_Apart
  obtain ⟨A_NoAnswer, m_NoAnswer, b_NoRoot_NoAnswer, b_TooGreat_NoAnswer⟩ := T.c_NoAnswer
  obtain ⟨A_NoMeasure, m_NoMeasure, b_NoRoot_NoMeasure, b_TooGreat_NoMeasure⟩ := T.c_NoMeasure
  obtain ⟨A_NoRoot, m_NoRoot, b_NoRoot_NoRoot, b_TooGreat_NoRoot⟩ := T.c_NoRoot
  obtain ⟨A_NoShape, m_NoShape, b_NoRoot_NoShape, b_TooGreat_NoShape⟩ := T.c_NoShape
  obtain ⟨A_NoTurn, m_NoTurn, b_NoRoot_NoTurn, b_TooGreat_NoTurn⟩ := T.c_NoTurn
  obtain ⟨A_NotLevel, m_NotLevel, b_NoRoot_NotLevel, b_TooGreat_NotLevel⟩ := T.c_NotLevel
  obtain ⟨A_NotOwn, m_NotOwn, b_NoRoot_NotOwn, b_TooGreat_NotOwn⟩ := T.c_NotOwn
  obtain ⟨A_NotPlain, m_NotPlain, b_NoRoot_NotPlain, b_TooGreat_NotPlain⟩ := T.c_NotPlain
  obtain ⟨A_Nought, m_Nought, b_NoRoot_Nought, b_TooGreat_Nought⟩ := T.c_Nought
  obtain ⟨A_TooGreat, m_TooGreat, b_NoRoot_TooGreat, b_TooGreat_TooGreat⟩ := T.c_TooGreat
  refine ⟨f, fd, F, F.fn.okD sc__law_refused (fun ds Q ⟨p, e, _⟩ => by rw [e]; rfl) fun cdv A outer s H E hr => ⟨_, (dss_cons (ds_if (dt_val (de_isxs T.z_isinstance (da_cons (dv 0) (da_cons (de_tup (da_cons (de_class m_Apart) (da_cons (de_class m_NoAnswer) (da_cons (de_class m_NoMeasure) (da_cons (de_class m_NoShape) (da_cons (de_class m_NoTurn) (da_cons (de_class m_NotLevel) (da_cons (de_class m_NotOwn) (da_cons (de_class m_NotPlain) (da_cons (de_class m_Nought) da_nil)))))))))) da_nil)))) (dss_one (ds_ret de_bl)) dss_nil) (dss_cons (ds_if (DW.dt (dw_or (dt_not (dt_val (de_isv T.z_isinstance T.z_ValueError (dv 0)))) (dw_or1 (dt_eq hr.units (de_isx T.z_isinstance (da_cons (dv 0) (da_cons (de_class m_NoRoot) da_nil))) (de_isx T.z_isinstance (da_cons (dv 0) (da_cons (de_class m_TooGreat) da_nil))))))) (dss_one (ds_ret de_bl)) dss_nil) (dss_cons (ds_if (dt_val (de_isx T.z_isinstance (da_cons (dv 0) (da_cons (de_class m_NoRoot) da_nil)))) (dss_one (ds_ret (de_eq hr.units (dv 1) (de_lst (da_cons de_str (da_cons (de_xfld (dv 0)) da_nil)))))) dss_nil) (dss_one (ds_ret (de_eq hr.units (dv 1) (de_lst (da_cons de_str (da_cons (de_xfld (dv 0)) (da_cons (de_xfld (dv 0)) da_nil)))))))))), fun ds Q h => ?_⟩⟩
  obtain ⟨⟨b, n, m⟩, rfl, _, q⟩ := h
  have q' : Q (.bl true) := q _ rfl
  have n1 : NoAt K "NoRoot" "number" := T.nf_NoRoot_number
  have n2 : NoAt K "TooGreat" "number" := T.nf_TooGreat_number
  have n3 : NoAt K "TooGreat" "most" := T.nf_TooGreat_most
  have f1 : Dt.flat 7 (.str "root") = true := by rw [flat_s]; decide +kernel
  have f2 : Dt.flat 7 (.str "great") = true := by rw [flat_s]; decide +kernel
  cases b with
  | true =>
    dsimp only [refE, refD]
    walk_at "go"
    refine ⟨size_ok (by decide), [A_Apart, A_NoAnswer, A_NoMeasure, A_NoShape, A_NoTurn, A_NotLevel, A_NotOwn, A_NotPlain, A_Nought], false, rfl, ?_, iff' rfl ⟨true, b_NoRoot_NoRoot, false, b_NoRoot_TooGreat, iff' rfl ⟨true, b_NoRoot_NoRoot, ift rfl ⟨n1, .int n, rfl, size_ok (by decide), ⟨f1, by rw [f1, flat_i]; rfl⟩, ?_⟩⟩⟩⟩
    · exact .cons b_NoRoot_Apart (.cons b_NoRoot_NoAnswer (.cons b_NoRoot_NoMeasure (.cons b_NoRoot_NoShape (.cons b_NoRoot_NoTurn (.cons b_NoRoot_NotLevel (.cons b_NoRoot_NotOwn (.cons b_NoRoot_NotPlain (.cons b_NoRoot_Nought .nil))))))))
    · rw [eq_ii, decide_eq_true rfl, beq_self_eq_true]
      exact q'
  | false =>
    dsimp only [refE, refD]
    walk_at "go"
    refine ⟨size_ok (by decide), [A_Apart, A_NoAnswer, A_NoMeasure, A_NoShape, A_NoTurn, A_NotLevel, A_NotOwn, A_NotPlain, A_Nought], false, rfl, ?_, iff' rfl ⟨false, b_TooGreat_NoRoot, true, b_TooGreat_TooGreat, iff' rfl ⟨false, b_TooGreat_NoRoot, iff' rfl ⟨n2, .int n, rfl, n3, .int m, rfl, size_ok (by decide), ⟨f2, by rw [f2, flat_i, flat_i]; rfl⟩, ?_⟩⟩⟩⟩
    · exact .cons b_TooGreat_Apart (.cons b_TooGreat_NoAnswer (.cons b_TooGreat_NoMeasure (.cons b_TooGreat_NoShape (.cons b_TooGreat_NoTurn (.cons b_TooGreat_NotLevel (.cons b_TooGreat_NotOwn (.cons b_TooGreat_NotPlain (.cons b_TooGreat_Nought .nil))))))))
    · rw [eq_ii, eq_ii, decide_eq_true rfl, decide_eq_true rfl, beq_self_eq_true]
      exact q'
abbrev sp_fraction : DSp := spec (fun p : (Int × Bool) × Int => [.int p.1.1, .int p.2]) (fun p => Kd p.1 ∧ Num p.1.1 ∧ 0 ≤ p.2 ∧ p.2 ≤ 300) fun p d => ∃ t : I2, d = t2 t
theorem ok_fraction {P : Program} {w : World} {K : PySem.W.Frag} {mg : Str → Option Value} {base : Heap} (G : PmX P w K mg base 6 "fraction" s_fraction ["number", "k"] spx_fraction)
    : Pm P w K mg base 6 "fraction" s_fraction ["number", "k"] sp_fraction := by
  refine G.pm specX_mono fun ds Q h => ?_
  obtain ⟨p, e, ⟨h1, h2, h3, h4⟩, q⟩ := h
  exact ⟨p, e, ⟨h1, h3⟩, fun _ d z => q d z, fun z => absurd ⟨h2, h4⟩ z⟩
abbrev sp__law_good : DSp := specF (fun p : (Int × Bool) × I2 => [.int p.1.1, .int p.2.1, .int p.2.2]) (fun p => Kd p.1 ∧ 301 ≤ p.2.1) fun _ => .bl true
theorem ok__law_good {P : Program} {w : World} {K : PySem.W.Frag} {mg : Str → Option Value} {base : Heap} (T : Txt K mg)
    (G__law_due : Pm P w K mg base 1 "_law_due" s__law_due ["_law_number_here"] sp__law_due)
    (G__law_wholes : Pm P w K mg base 1 "_law_wholes" s__law_wholes ["_law_found", "_law_many"] sp__law_wholes)
    (G_fraction : Pm P w K mg base 6 "fraction" s_fraction ["number", "k"] sp_fraction)
    (G__law_refused : Pm P w K mg base 1 "_law_refused" s__law_refused ["_law_e", "_law_due_here"] sp__law_refused)
    (G__law_caught : Pm P w K mg base 7 "_law_caught" s__law_caught ["_law_way", "_law_number_here", "_law_k"] sp__law_caught)
    : Pm P w K mg base 8 "_law_good" s__law_good ["_law_number_here", "_law_k", "_law_start"] sp__law_good := by
  obtain ⟨f, fd, F⟩ := T.t__law_good
  refine ⟨f, fd, F, F.fn.okD sc__law_good (fun ds Q ⟨p, e, _⟩ => by rw [e]; rfl) fun cdv A outer s H E hr => ⟨_, (dss_cons (ds_set 3 sc__law_good.nd (de_callP spec_mono G__law_due (hr.mono (by decide)) rfl (da_cons (dv 0) da_nil))) (dss_cons (ds_if (dt_eq hr.units (dv 3) (de_lst da_nil)) (dss_cons (ds_if (DW.dt (dw_or (dt_isnC (de_callP spec_mono G__law_caught (hr.mono (by decide)) rfl (da_cons de_int (da_cons (dv 0) (da_cons de_int da_nil)))) de_non) (dw_or1 (dt_not (dt_val (de_callP spec_mono G__law_refused (hr.mono (by decide)) rfl (da_cons (de_callP spec_mono G__law_caught (hr.mono (by decide)) rfl (da_cons de_int (da_cons (dv 0) (da_cons (dv 1) da_nil)))) (da_cons (de_lst (da_cons de_str (da_cons (dv 1) (da_cons de_int da_nil)))) da_nil)))))))) (dss_one (ds_ret de_bl)) dss_nil) (dss_one (ds_ret (de_callP spec_mono G__law_wholes (hr.mono (by decide)) rfl (da_cons (de_callP spec_mono G_fraction (hr.mono (by decide)) rfl (da_cons (dv 0) (da_cons de_int da_nil))) (da_cons de_int da_nil)))))) dss_nil) (dss_cons (ds_for PassesOwn.never rfl (di_rng1 rfl T.z_range (da_cons de_int da_nil)) (dg_name 4 sc__law_good.nd) (dss_one (ds_if (dt_not (dt_val (de_callP spec_mono G__law_refused (hr.mono (by decide)) rfl (da_cons (de_callP spec_mono G__law_caught (hr.mono (by decide)) rfl (da_cons (de_mod (de_add (dv 4) (dv 2)) de_int) (da_cons (dv 0) (da_cons (dv 1) da_nil)))) (da_cons (dv 3) da_nil))))) (dss_one (ds_ret de_bl)) dss_nil))) (dss_one (ds_ret de_bl))))), fun ds Q h => ?_⟩⟩
  obtain ⟨⟨⟨n, b⟩, k, st⟩, rfl, ⟨hk, hk3⟩, q⟩ := h
  have hk : Kd (n, b) := hk
  have hk3 : 301 ≤ k := hk3
  have q' : Q (.bl true) := q _ rfl
  walk_at "go"
  refine specF_of (n, b) hk ?_
  rcases Classical.em (Num n) with hn | hn
  · obtain ⟨g1, g2⟩ := hk.num.mp hn
    subst g1
    have e : dueD (n, false) = .lst [] := by unfold dueD; rw [if_neg (by simp), if_neg (by omega)]
    have c1 : caughtD (2, (n, false), 300) = .non := by unfold caughtD; rw [if_neg (by simp; omega), if_pos (by show (300 : Int) ≤ 300; decide)]
    have c2 : caughtD (2, (n, false), k) = xGreat k 300 := by unfold caughtD; rw [if_neg (by simp; omega), if_neg (by show ¬ k ≤ 300; omega)]
    rw [e]
    walk_at "rd"
    refine ⟨size_ok (by decide), specF_of (2, (n, false), 300) ⟨⟨by show (0 : Int) ≤ 2; decide, by show (2 : Int) < 6; decide⟩, hk, by show (0 : Int) ≤ 300; decide, fun _ => rfl⟩ ?_⟩
    rw [c1]
    walk_at "rd"
    refine specF_of (2, (n, false), k) ⟨⟨by show (0 : Int) ≤ 2; decide, by show (2 : Int) < 6; decide⟩, hk, by show 0 ≤ k; omega, fun _ => rfl⟩ ⟨size_ok (by decide), ?_⟩
    rw [c2]
    refine specF_of (false, k, 300) trivial ?_
    walk_at "rd"
    refine spec_of ((n, false), 300) ⟨hk, hn, by show (0 : Int) ≤ 300; decide, by show (300 : Int) ≤ 300; decide⟩ ?_
    rintro _ ⟨t, rfl⟩
    exact wholes2 t q'
  · have e1 : dueD (n, b) = refD (b, n, 1000) := by
      cases b with
      | true => exact if_pos rfl
      | false =>
        unfold dueD
        rw [if_neg (by simp), if_pos]
        · rfl
        · rcases Int.lt_or_le 1000 n with w | w
          · exact w
          · exact absurd (hk.num.mpr ⟨rfl, w⟩) hn
    have e2 : xNum (n, b) = refE (b, n, 1000) := by cases b <;> rfl
    have e3 : ∀ way k, caughtD (way, (n, b), k) = refE (b, n, 1000) := fun way k => by
      rw [← e2]
      refine if_pos ?_
      cases b with
      | true => exact .inl rfl
      | false =>
        refine .inr ?_
        rcases Int.lt_or_le 1000 n with w | w
        · exact w
        · exact absurd (hk.num.mpr ⟨rfl, w⟩) hn
    have f1 : Dt.flat 7 (.str "root") = true := by rw [flat_s]; decide +kernel
    have f2 : Dt.flat 7 (.str "great") = true := by rw [flat_s]; decide +kernel
    rw [e1]
    refine ⟨size_ok (by decide), ?_, iff' ?_ ?_⟩
    · cases b with
      | true => dsimp only [refD]; rw [flat_l8, flats_c, flats_c, flats_n, f1, flat_i]; rfl
      | false => dsimp only [refD]; rw [flat_l8, flats_c, flats_c, flats_c, flats_n, f2, flat_i, flat_i]; rfl
    · cases b <;> (dsimp only [refD]; rw [eq_ll, eqs_cn])
    refine dFor_of (ups 0 6) (fun R hR => ?_) (fun i ρ => ∃ x, ρ = [some (.is (.int n)), some (.is (.int k)), some (.is (.int st)), some (.is (refD (b, n, 1000))), x]) ⟨_, rfl⟩ ?_ ?_
    · walk_at "rd"
      exact ⟨⟨by decide, by decide⟩, hR⟩
    · rintro i d _ hi ⟨x, rfl⟩
      obtain ⟨hi, rfl⟩ := ups_get hi
      walk_at "rd"
      have r6 := fm_range (0 + (i : Int) + st) (m := 6) (by decide)
      refine ⟨by decide, specF_of ((0 + (i : Int) + st).fmod 6, (n, b), k) ⟨r6, hk, by show 0 ≤ k; omega, fun z => absurd z hn⟩ ?_⟩
      rw [e3]
      exact specF_of (b, n, 1000) trivial (iff' rfl ⟨_, rfl⟩)
    · rintro _ ⟨x, rfl⟩
      exact q'
theorem ok_law {P : Program} {w : World} {K : PySem.W.Frag} {mg : Str → Option Value} {base : Heap} (T : Txt K mg)
    (G__law_good : Pm P w K mg base 8 "_law_good" s__law_good ["_law_number_here", "_law_k", "_law_start"] sp__law_good)
    (G__law_number : Pm P w K mg base 1 "_law_number" s__law_number ["_law_cell"] sp__law_number)
    : Pm P w K mg base 9 "law" s_law ["_law_script"] spLawB := by
  obtain ⟨f, fd, F⟩ := T.t_law
  refine ⟨f, fd, F, F.fn.okD sc_law (fun ds Q ⟨p, e, _⟩ => by rw [e]; rfl) fun cdv A outer s H E hr => ⟨_, (dss_cons (ds_for PassesOwn.never rfl (di_lst (DF.de (df_cat (df_lst (da_cons de_int da_nil)) (df_slice (dv 0) dp_none (dp_some de_int))))) (dg_name 1 sc_law.nd) (dss_cons (ds_set 2 sc_law.nd (de_add de_int (de_mod (de_mul (de_div (dv 1) de_int) de_int) (de_sub (de_pow de_int de_int) de_int)))) (dss_cons (ds_if (dt_eq hr.units (de_mod (de_div (dv 1) de_int) de_int) de_int) (dss_one (ds_set 2 sc_law.nd de_int)) dss_nil) (dss_one (ds_if (dt_not (dt_val (de_callP spec_mono G__law_good (hr.mono (by decide)) rfl (da_cons (de_callP spec_mono G__law_number (hr.mono (by decide)) rfl (da_cons (dv 1) da_nil)) (da_cons (dv 2) (da_cons (de_mod (de_div (dv 1) de_int) de_int) da_nil)))))) (dss_one (ds_ret de_bl)) dss_nil))))) (dss_one (ds_ret de_bl))), fun ds Q h => ?_⟩⟩
  obtain ⟨ns, rfl, ⟨hn, hB⟩, q⟩ := h
  have hn : ns.length ≤ 63 := hn
  have q' : Q (.bl true) := q _ rfl
  have cp : CPow 10 60 := ⟨by decide, by decide, by decide⟩
  walk_at "go"
  obtain ⟨cs, ec, hcs, hme⟩ := cut_mem ns none (some 63)
  refine dFor_open ?_
  walk_at "rd"
  rw [ec]
  have ew : [Dt.int 0] ++ cs.map Dt.int = (0 :: cs : List Int).map Dt.int := rfl
  rw [ew]
  refine ⟨size_ok (by decide), size_ok (by rw [List.length_map]; omega), ?_⟩
  refine dFor_of ((0 :: cs : List Int).map Dt.int) (fun R h => h) (fun i ρ => ∃ a b, ρ = [some (.is (.lst (ns.map Dt.int))), a, b]) ⟨_, _, rfl⟩ ?_ ?_
  · rintro i d _ hi ⟨a, b, rfl⟩
    obtain ⟨z, hz, rfl⟩ := ints_get hi
    have zb : Bt 1048576 z := by
      have := List.mem_of_getElem? hz
      rcases List.mem_cons.mp this with w | w
      · rw [w]; exact Bt.zero.le (by decide)
      · exact hB z (hme z w)
    walk_at "rd"
    have h8 := fm_range (z.fdiv 8 * 31415926535897932384626433832795028841971693993751058209749) (m := 10 ^ Int.toNat 60 - 300) (by decide)
    refine ⟨⟨by decide, by decide⟩, (fdivk_bt (by decide) zb).mulOk big_bt2, cp, by decide, ⟨by decide, by decide⟩, by decide, ite2 (fun _ => ?_) (fun _ => ?_)⟩
    all_goals
      walk_at "rd"
      refine spec_of z zb ?_
      rintro _ ⟨n, rfl, hnb⟩
      obtain ⟨b, hb⟩ := isSq_dec n
      refine ⟨⟨by decide, by decide⟩, by decide, specF_of ((n, b), _, _) ⟨⟨hnb, hb⟩, ?_⟩ (iff' rfl ⟨_, _, rfl⟩)⟩
      first | exact (by decide : (301 : Int) ≤ 301) | (show 301 ≤ 301 + _; omega)
  · rintro _ ⟨a, b, rfl⟩
    exact q'
set_option maxHeartbeats 8000000 in
theorem all_mk {l : PySem.W.OpenLaw} {w : World} {K : PySem.W.Frag} {h : Heap} {mg : Str → Option Value} {fa : Addr} (X : K.In h) (G : h.Ns mainGlobals mg) (hfa : mg "law" = some (.ref fa))
    {f0 : Addr} {od0 an0 : Option Addr} {sl0 : Array (Option Value)} {oc0 kV0 dc0 pm0 cd0 ct0 : Value}
    (a0 : PySem.W.nsIn K mainGlobals "root" = some (some (.ref f0))) (l0 : K.lookup f0 = some ⟨oc0, od0, .func (PySem.W.fnOf "root" "root" (defArgs s_root) (defBody s_root) (defScope s_root) .none kV0 dc0 pm0 an0 cd0 ct0), sl0⟩) (c0 : PySem.W.codeIn K cd0 "root" = true) (k0 : PySem.W.keepIn K (.ref f0) = true)
    {f1 : Addr} {od1 an1 : Option Addr} {sl1 : Array (Option Value)} {oc1 kV1 dc1 pm1 cd1 ct1 : Value}
    (a1 : PySem.W.nsIn K mainGlobals "is_square" = some (some (.ref f1))) (l1 : K.lookup f1 = some ⟨oc1, od1, .func (PySem.W.fnOf "is_square" "is_square" (defArgs s_is_square) (defBody s_is_square) (defScope s_is_square) .none kV1 dc1 pm1 an1 cd1 ct1), sl1⟩) (c1 : PySem.W.codeIn K cd1 "is_square" = true) (k1 : PySem.W.keepIn K (.ref f1) = true)
    {f2 : Addr} {od2 an2 : Option Addr} {sl2 : Array (Option Value)} {oc2 kV2 dc2 pm2 cd2 ct2 : Value}
    (a2 : PySem.W.nsIn K mainGlobals "check_at_most" = some (some (.ref f2))) (l2 : K.lookup f2 = some ⟨oc2, od2, .func (PySem.W.fnOf "check_at_most" "check_at_most" (defArgs s_check_at_most) (defBody s_check_at_most) (defScope s_check_at_most) .none kV2 dc2 pm2 an2 cd2 ct2), sl2⟩) (c2 : PySem.W.codeIn K cd2 "check_at_most" = true) (k2 : PySem.W.keepIn K (.ref f2) = true)
    {f3 : Addr} {od3 an3 : Option Addr} {sl3 : Array (Option Value)} {oc3 kV3 dc3 pm3 cd3 ct3 : Value}
    (a3 : PySem.W.nsIn K mainGlobals "check_number" = some (some (.ref f3))) (l3 : K.lookup f3 = some ⟨oc3, od3, .func (PySem.W.fnOf "check_number" "check_number" (defArgs s_check_number) (defBody s_check_number) (defScope s_check_number) .none kV3 dc3 pm3 an3 cd3 ct3), sl3⟩) (c3 : PySem.W.codeIn K cd3 "check_number" = true) (k3 : PySem.W.keepIn K (.ref f3) = true)
    {f4 : Addr} {od4 an4 : Option Addr} {sl4 : Array (Option Value)} {oc4 kV4 dc4 pm4 cd4 ct4 : Value}
    (a4 : PySem.W.nsIn K mainGlobals "chain" = some (some (.ref f4))) (l4 : K.lookup f4 = some ⟨oc4, od4, .func (PySem.W.fnOf "chain" "chain" (defArgs s_chain) (defBody s_chain) (defScope s_chain) .none kV4 dc4 pm4 an4 cd4 ct4), sl4⟩) (c4 : PySem.W.codeIn K cd4 "chain" = true) (k4 : PySem.W.keepIn K (.ref f4) = true)
    {f5 : Addr} {od5 an5 : Option Addr} {sl5 : Array (Option Value)} {oc5 kV5 dc5 pm5 cd5 ct5 : Value}
    (a5 : PySem.W.nsIn K mainGlobals "row_behind" = some (some (.ref f5))) (l5 : K.lookup f5 = some ⟨oc5, od5, .func (PySem.W.fnOf "row_behind" "row_behind" (defArgs s_row_behind) (defBody s_row_behind) (defScope s_row_behind) .none kV5 dc5 pm5 an5 cd5 ct5), sl5⟩) (c5 : PySem.W.codeIn K cd5 "row_behind" = true) (k5 : PySem.W.keepIn K (.ref f5) = true)
    {f6 : Addr} {od6 an6 : Option Addr} {sl6 : Array (Option Value)} {oc6 kV6 dc6 pm6 cd6 ct6 : Value}
    (a6 : PySem.W.nsIn K mainGlobals "part" = some (some (.ref f6))) (l6 : K.lookup f6 = some ⟨oc6, od6, .func (PySem.W.fnOf "part" "part" (defArgs s_part) (defBody s_part) (defScope s_part) .none kV6 dc6 pm6 an6 cd6 ct6), sl6⟩) (c6 : PySem.W.codeIn K cd6 "part" = true) (k6 : PySem.W.keepIn K (.ref f6) = true)
    {f7 : Addr} {od7 an7 : Option Addr} {sl7 : Array (Option Value)} {oc7 kV7 dc7 pm7 cd7 ct7 : Value}
    (a7 : PySem.W.nsIn K mainGlobals "part_of" = some (some (.ref f7))) (l7 : K.lookup f7 = some ⟨oc7, od7, .func (PySem.W.fnOf "part_of" "part_of" (defArgs s_part_of) (defBody s_part_of) (defScope s_part_of) .none kV7 dc7 pm7 an7 cd7 ct7), sl7⟩) (c7 : PySem.W.codeIn K cd7 "part_of" = true) (k7 : PySem.W.keepIn K (.ref f7) = true)
    {f8 : Addr} {od8 an8 : Option Addr} {sl8 : Array (Option Value)} {oc8 kV8 dc8 pm8 cd8 ct8 : Value}
    (a8 : PySem.W.nsIn K mainGlobals "fraction" = some (some (.ref f8))) (l8 : K.lookup f8 = some ⟨oc8, od8, .func (PySem.W.fnOf "fraction" "fraction" (defArgs s_fraction) (defBody s_fraction) (defScope s_fraction) .none kV8 dc8 pm8 an8 cd8 ct8), sl8⟩) (c8 : PySem.W.codeIn K cd8 "fraction" = true) (k8 : PySem.W.keepIn K (.ref f8) = true)
    {f9 : Addr} {od9 an9 : Option Addr} {sl9 : Array (Option Value)} {oc9 kV9 dc9 pm9 cd9 ct9 : Value}
    (a9 : PySem.W.nsIn K mainGlobals "fraction_of" = some (some (.ref f9))) (l9 : K.lookup f9 = some ⟨oc9, od9, .func (PySem.W.fnOf "fraction_of" "fraction_of" (defArgs s_fraction_of) (defBody s_fraction_of) (defScope s_fraction_of) .none kV9 dc9 pm9 an9 cd9 ct9), sl9⟩) (c9 : PySem.W.codeIn K cd9 "fraction_of" = true) (k9 : PySem.W.keepIn K (.ref f9) = true)
    {f10 : Addr} {od10 an10 : Option Addr} {sl10 : Array (Option Value)} {oc10 kV10 dc10 pm10 cd10 ct10 : Value}
    (a10 : PySem.W.nsIn K mainGlobals "first_pair" = some (some (.ref f10))) (l10 : K.lookup f10 = some ⟨oc10, od10, .func (PySem.W.fnOf "first_pair" "first_pair" (defArgs s_first_pair) (defBody s_first_pair) (defScope s_first_pair) .none kV10 dc10 pm10 an10 cd10 ct10), sl10⟩) (c10 : PySem.W.codeIn K cd10 "first_pair" = true) (k10 : PySem.W.keepIn K (.ref f10) = true)
    {f11 : Addr} {od11 an11 : Option Addr} {sl11 : Array (Option Value)} {oc11 kV11 dc11 pm11 cd11 ct11 : Value}
    (a11 : PySem.W.nsIn K mainGlobals "pair_behind" = some (some (.ref f11))) (l11 : K.lookup f11 = some ⟨oc11, od11, .func (PySem.W.fnOf "pair_behind" "pair_behind" (defArgs s_pair_behind) (defBody s_pair_behind) (defScope s_pair_behind) .none kV11 dc11 pm11 an11 cd11 ct11), sl11⟩) (c11 : PySem.W.codeIn K cd11 "pair_behind" = true) (k11 : PySem.W.keepIn K (.ref f11) = true)
    {f12 : Addr} {od12 an12 : Option Addr} {sl12 : Array (Option Value)} {oc12 kV12 dc12 pm12 cd12 ct12 : Value}
    (a12 : PySem.W.nsIn K mainGlobals "plus_one" = some (some (.ref f12))) (l12 : K.lookup f12 = some ⟨oc12, od12, .func (PySem.W.fnOf "plus_one" "plus_one" (defArgs s_plus_one) (defBody s_plus_one) (defScope s_plus_one) .none kV12 dc12 pm12 an12 cd12 ct12), sl12⟩) (c12 : PySem.W.codeIn K cd12 "plus_one" = true) (k12 : PySem.W.keepIn K (.ref f12) = true)
    {f13 : Addr} {od13 an13 : Option Addr} {sl13 : Array (Option Value)} {oc13 kV13 dc13 pm13 cd13 ct13 : Value}
    (a13 : PySem.W.nsIn K mainGlobals "minus_one" = some (some (.ref f13))) (l13 : K.lookup f13 = some ⟨oc13, od13, .func (PySem.W.fnOf "minus_one" "minus_one" (defArgs s_minus_one) (defBody s_minus_one) (defScope s_minus_one) .none kV13 dc13 pm13 an13 cd13 ct13), sl13⟩) (c13 : PySem.W.codeIn K cd13 "minus_one" = true) (k13 : PySem.W.keepIn K (.ref f13) = true)
    {f14 : Addr} {od14 an14 : Option Addr} {sl14 : Array (Option Value)} {oc14 kV14 dc14 pm14 cd14 ct14 : Value}
    (a14 : PySem.W.nsIn K mainGlobals "point_of_round" = some (some (.ref f14))) (l14 : K.lookup f14 = some ⟨oc14, od14, .func (PySem.W.fnOf "point_of_round" "point_of_round" (defArgs s_point_of_round) (defBody s_point_of_round) (defScope s_point_of_round) .none kV14 dc14 pm14 an14 cd14 ct14), sl14⟩) (c14 : PySem.W.codeIn K cd14 "point_of_round" = true) (k14 : PySem.W.keepIn K (.ref f14) = true)
    {f15 : Addr} {od15 an15 : Option Addr} {sl15 : Array (Option Value)} {oc15 kV15 dc15 pm15 cd15 ct15 : Value}
    (a15 : PySem.W.nsIn K mainGlobals "nearest" = some (some (.ref f15))) (l15 : K.lookup f15 = some ⟨oc15, od15, .func (PySem.W.fnOf "nearest" "nearest" (defArgs s_nearest) (defBody s_nearest) (defScope s_nearest) .none kV15 dc15 pm15 an15 cd15 ct15), sl15⟩) (c15 : PySem.W.codeIn K cd15 "nearest" = true) (k15 : PySem.W.keepIn K (.ref f15) = true)
    {f16 : Addr} {od16 an16 : Option Addr} {sl16 : Array (Option Value)} {oc16 kV16 dc16 pm16 cd16 ct16 : Value}
    (a16 : PySem.W.nsIn K mainGlobals "last_pair_within" = some (some (.ref f16))) (l16 : K.lookup f16 = some ⟨oc16, od16, .func (PySem.W.fnOf "last_pair_within" "last_pair_within" (defArgs s_last_pair_within) (defBody s_last_pair_within) (defScope s_last_pair_within) .none kV16 dc16 pm16 an16 cd16 ct16), sl16⟩) (c16 : PySem.W.codeIn K cd16 "last_pair_within" = true) (k16 : PySem.W.keepIn K (.ref f16) = true)
    {f17 : Addr} {od17 an17 : Option Addr} {sl17 : Array (Option Value)} {oc17 kV17 dc17 pm17 cd17 ct17 : Value}
    (a17 : PySem.W.nsIn K mainGlobals "_law_wholes" = some (some (.ref f17))) (l17 : K.lookup f17 = some ⟨oc17, od17, .func (PySem.W.fnOf "_law_wholes" "_law_wholes" (defArgs s__law_wholes) (defBody s__law_wholes) (defScope s__law_wholes) .none kV17 dc17 pm17 an17 cd17 ct17), sl17⟩) (c17 : PySem.W.codeIn K cd17 "_law_wholes" = true) (k17 : PySem.W.keepIn K (.ref f17) = true)
    {f18 : Addr} {od18 an18 : Option Addr} {sl18 : Array (Option Value)} {oc18 kV18 dc18 pm18 cd18 ct18 : Value}
    (a18 : PySem.W.nsIn K mainGlobals "_law_number" = some (some (.ref f18))) (l18 : K.lookup f18 = some ⟨oc18, od18, .func (PySem.W.fnOf "_law_number" "_law_number" (defArgs s__law_number) (defBody s__law_number) (defScope s__law_number) .none kV18 dc18 pm18 an18 cd18 ct18), sl18⟩) (c18 : PySem.W.codeIn K cd18 "_law_number" = true) (k18 : PySem.W.keepIn K (.ref f18) = true)
    {f19 : Addr} {od19 an19 : Option Addr} {sl19 : Array (Option Value)} {oc19 kV19 dc19 pm19 cd19 ct19 : Value}
    (a19 : PySem.W.nsIn K mainGlobals "_law_due" = some (some (.ref f19))) (l19 : K.lookup f19 = some ⟨oc19, od19, .func (PySem.W.fnOf "_law_due" "_law_due" (defArgs s__law_due) (defBody s__law_due) (defScope s__law_due) .none kV19 dc19 pm19 an19 cd19 ct19), sl19⟩) (c19 : PySem.W.codeIn K cd19 "_law_due" = true) (k19 : PySem.W.keepIn K (.ref f19) = true)
    {f20 : Addr} {od20 an20 : Option Addr} {sl20 : Array (Option Value)} {oc20 kV20 dc20 pm20 cd20 ct20 : Value}
    (a20 : PySem.W.nsIn K mainGlobals "_law_caught" = some (some (.ref f20))) (l20 : K.lookup f20 = some ⟨oc20, od20, .func (PySem.W.fnOf "_law_caught" "_law_caught" (defArgs s__law_caught) (defBody s__law_caught) (defScope s__law_caught) .none kV20 dc20 pm20 an20 cd20 ct20), sl20⟩) (c20 : PySem.W.codeIn K cd20 "_law_caught" = true) (k20 : PySem.W.keepIn K (.ref f20) = true)
    {f21 : Addr} {od21 an21 : Option Addr} {sl21 : Array (Option Value)} {oc21 kV21 dc21 pm21 cd21 ct21 : Value}
    (a21 : PySem.W.nsIn K mainGlobals "_law_refused" = some (some (.ref f21))) (l21 : K.lookup f21 = some ⟨oc21, od21, .func (PySem.W.fnOf "_law_refused" "_law_refused" (defArgs s__law_refused) (defBody s__law_refused) (defScope s__law_refused) .none kV21 dc21 pm21 an21 cd21 ct21), sl21⟩) (c21 : PySem.W.codeIn K cd21 "_law_refused" = true) (k21 : PySem.W.keepIn K (.ref f21) = true)
    {f22 : Addr} {od22 an22 : Option Addr} {sl22 : Array (Option Value)} {oc22 kV22 dc22 pm22 cd22 ct22 : Value}
    (a22 : PySem.W.nsIn K mainGlobals "_law_good" = some (some (.ref f22))) (l22 : K.lookup f22 = some ⟨oc22, od22, .func (PySem.W.fnOf "_law_good" "_law_good" (defArgs s__law_good) (defBody s__law_good) (defScope s__law_good) .none kV22 dc22 pm22 an22 cd22 ct22), sl22⟩) (c22 : PySem.W.codeIn K cd22 "_law_good" = true) (k22 : PySem.W.keepIn K (.ref f22) = true)
    {f23 : Addr} {od23 an23 : Option Addr} {sl23 : Array (Option Value)} {oc23 kV23 dc23 pm23 cd23 ct23 : Value}
    (a23 : PySem.W.nsIn K mainGlobals "law" = some (some (.ref f23))) (l23 : K.lookup f23 = some ⟨oc23, od23, .func (PySem.W.fnOf "law" "law" (defArgs s_law) (defBody s_law) (defScope s_law) .none kV23 dc23 pm23 an23 cd23 ct23), sl23⟩) (c23 : PySem.W.codeIn K cd23 "law" = true) (k23 : PySem.W.keepIn K (.ref f23) = true)
    (z_bool : PySem.W.nsIn K mainGlobals "bool" = some none)
    (z_int : PySem.W.nsIn K mainGlobals "int" = some none)
    (z_isinstance : PySem.W.nsIn K mainGlobals "isinstance" = some none)
    (z_len : PySem.W.nsIn K mainGlobals "len" = some none)
    (z_range : PySem.W.nsIn K mainGlobals "range" = some none)
    (z_tuple : PySem.W.nsIn K mainGlobals "tuple" = some none)
    (z_ValueError : PySem.W.nsIn K mainGlobals "ValueError" = some none)
    {U_FormError NU_FormError : Addr} {nmU_FormError qU_FormError : Str} {bsU_FormError subU_FormError : List Value} {hdU_FormError abU_FormError : Bool} {snU_FormError : List Str} {colU_FormError : Option Bool} {ddU_FormError odU_FormError : Option Addr} {ka_FormError kb_FormError kc_FormError kd_FormError kf_FormError : Option Value} {idU_FormError : String} {ocU_FormError : Value} {es_FormError : Array DictEntry} {ep_FormError : Nat} {sl_FormError : Array (Option Value)}
    (aU_FormError : PySem.W.nsIn K mainGlobals "FormError" = some (some (.ref U_FormError)))
    (lU_FormError : K.lookup U_FormError = some (PySem.excClassObj nmU_FormError qU_FormError U_FormError NU_FormError bsU_FormError bmV hdU_FormError snU_FormError subU_FormError abU_FormError colU_FormError ddU_FormError ka_FormError kb_FormError kc_FormError kd_FormError kf_FormError idU_FormError))
    (lN_FormError : K.lookup NU_FormError = some ⟨ocU_FormError, odU_FormError, .dict es_FormError ep_FormError, sl_FormError⟩) (sk_FormError : strK es_FormError = true) (ni_FormError : nsFind es_FormError "__init__" = none)
    {C_NoRoot N_NoRoot fI_NoRoot : Addr} {nm_NoRoot q_NoRoot : Str} {bs_NoRoot sub_NoRoot : List Value} {ab_NoRoot : Bool} {sn_NoRoot : List Str} {col_NoRoot : Option Bool} {dd_NoRoot odi_NoRoot ani_NoRoot : Option Addr} {xa_NoRoot xb_NoRoot xc_NoRoot xd_NoRoot xf_NoRoot : Option Value} {oci_NoRoot kVi_NoRoot dci_NoRoot pmi_NoRoot cdi_NoRoot cti_NoRoot : Value} {sli_NoRoot : Array (Option Value)}
    (aC_NoRoot : PySem.W.nsIn K mainGlobals "NoRoot" = some (some (.ref C_NoRoot)))
    (lC_NoRoot : K.lookup C_NoRoot = some (PySem.excClassObj nm_NoRoot q_NoRoot C_NoRoot N_NoRoot bs_NoRoot (.ref U_FormError :: bmV) true sn_NoRoot sub_NoRoot ab_NoRoot col_NoRoot dd_NoRoot xa_NoRoot xb_NoRoot xc_NoRoot xd_NoRoot xf_NoRoot "ValueError.__new__"))
    (kC_NoRoot : PySem.W.keepIn K (.ref C_NoRoot) = true) (sa_NoRoot : PySem.W.findIn K (.ref C_NoRoot) "__setattr__" = some (some (.builtin "object.__setattr__"))) (ga_NoRoot : PySem.W.findIn K (.ref C_NoRoot) "__getattribute__" = some (some (.builtin "BaseException.__getattribute__"))) (gh_NoRoot : PySem.W.findIn K (.ref C_NoRoot) "__getattr__" = some none)
    (cl_NoRoot : PySem.W.findIn K (.ref C_NoRoot) "__class__" = some (some (.builtin "object.__class__"))) (gg_NoRoot : PySem.W.specialIn K (.builtin "object.__class__") "__get__" = some (some (.builtin "getset_descriptor.__get__"))) (gt_NoRoot : PySem.W.takesIn K (.builtin "object.__class__") = some true)
    (hi_NoRoot : PySem.W.findIn K (.ref C_NoRoot) "__init__" = some (some (.ref fI_NoRoot))) (hf_NoRoot : PySem.W.typeIn K (.ref fI_NoRoot) = some (.type "function"))
    (lI_NoRoot : K.lookup fI_NoRoot = some ⟨oci_NoRoot, odi_NoRoot, .func (PySem.W.fnOf "__init__" "NoRoot.__init__" (defArgs si_NoRoot) (defBody si_NoRoot) (defScope si_NoRoot) .none kVi_NoRoot dci_NoRoot pmi_NoRoot ani_NoRoot cdi_NoRoot cti_NoRoot), sli_NoRoot⟩) (cI_NoRoot : PySem.W.codeIn K cdi_NoRoot "NoRoot.__init__" = true) (kI_NoRoot : PySem.W.keepIn K (.ref fI_NoRoot) = true)
    (tk_NoRoot_number : PySem.W.takerIn K C_NoRoot "number" = some none) (nf_NoRoot_number : PySem.W.findIn K (.ref C_NoRoot) "number" = some none)
    {C_TooGreat N_TooGreat fI_TooGreat : Addr} {nm_TooGreat q_TooGreat : Str} {bs_TooGreat sub_TooGreat : List Value} {ab_TooGreat : Bool} {sn_TooGreat : List Str} {col_TooGreat : Option Bool} {dd_TooGreat odi_TooGreat ani_TooGreat : Option Addr} {xa_TooGreat xb_TooGreat xc_TooGreat xd_TooGreat xf_TooGreat : Option Value} {oci_TooGreat kVi_TooGreat dci_TooGreat pmi_TooGreat cdi_TooGreat cti_TooGreat : Value} {sli_TooGreat : Array (Option Value)}
    (aC_TooGreat : PySem.W.nsIn K mainGlobals "TooGreat" = some (some (.ref C_TooGreat)))
    (lC_TooGreat : K.lookup C_TooGreat = some (PySem.excClassObj nm_TooGreat q_TooGreat C_TooGreat N_TooGreat bs_TooGreat (.ref U_FormError :: bmV) true sn_TooGreat sub_TooGreat ab_TooGreat col_TooGreat dd_TooGreat xa_TooGreat xb_TooGreat xc_TooGreat xd_TooGreat xf_TooGreat "ValueError.__new__"))
    (kC_TooGreat : PySem.W.keepIn K (.ref C_TooGreat) = true) (sa_TooGreat : PySem.W.findIn K (.ref C_TooGreat) "__setattr__" = some (some (.builtin "object.__setattr__"))) (ga_TooGreat : PySem.W.findIn K (.ref C_TooGreat) "__getattribute__" = some (some (.builtin "BaseException.__getattribute__"))) (gh_TooGreat : PySem.W.findIn K (.ref C_TooGreat) "__getattr__" = some none)
    (cl_TooGreat : PySem.W.findIn K (.ref C_TooGreat) "__class__" = some (some (.builtin "object.__class__"))) (gg_TooGreat : PySem.W.specialIn K (.builtin "object.__class__") "__get__" = some (some (.builtin "getset_descriptor.__get__"))) (gt_TooGreat : PySem.W.takesIn K (.builtin "object.__class__") = some true)
    (hi_TooGreat : PySem.W.findIn K (.ref C_TooGreat) "__init__" = some (some (.ref fI_TooGreat))) (hf_TooGreat : PySem.W.typeIn K (.ref fI_TooGreat) = some (.type "function"))
    (lI_TooGreat : K.lookup fI_TooGreat = some ⟨oci_TooGreat, odi_TooGreat, .func (PySem.W.fnOf "__init__" "TooGreat.__init__" (defArgs si_TooGreat) (defBody si_TooGreat) (defScope si_TooGreat) .none kVi_TooGreat dci_TooGreat pmi_TooGreat ani_TooGreat cdi_TooGreat cti_TooGreat), sli_TooGreat⟩) (cI_TooGreat : PySem.W.codeIn K cdi_TooGreat "TooGreat.__init__" = true) (kI_TooGreat : PySem.W.keepIn K (.ref fI_TooGreat) = true)
    (tk_TooGreat_number : PySem.W.takerIn K C_TooGreat "number" = some none) (nf_TooGreat_number : PySem.W.findIn K (.ref C_TooGreat) "number" = some none)
    (tk_TooGreat_most : PySem.W.takerIn K C_TooGreat "most" = some none) (nf_TooGreat_most : PySem.W.findIn K (.ref C_TooGreat) "most" = some none)
    {A_Apart : Addr} {cd_Apart : ClassData} (aA_Apart : PySem.W.nsIn K mainGlobals "Apart" = some (some (.ref A_Apart))) (zA_Apart : PySem.W.clsIn K A_Apart = some cd_Apart) (tA_Apart : PySem.W.typeIn K (.ref A_Apart) = some (.type "type"))
    (m_NoRoot_Apart : PySem.W.mroIn K C_NoRoot (.ref A_Apart) = some false)
    (m_TooGreat_Apart : PySem.W.mroIn K C_TooGreat (.ref A_Apart) = some false)
    {A_NoAnswer : Addr} {cd_NoAnswer : ClassData} (aA_NoAnswer : PySem.W.nsIn K mainGlobals "NoAnswer" = some (some (.ref A_NoAnswer))) (zA_NoAnswer : PySem.W.clsIn K A_NoAnswer = some cd_NoAnswer) (tA_NoAnswer : PySem.W.typeIn K (.ref A_NoAnswer) = some (.type "type"))
    (m_NoRoot_NoAnswer : PySem.W.mroIn K C_NoRoot (.ref A_NoAnswer) = some false)
    (m_TooGreat_NoAnswer : PySem.W.mroIn K C_TooGreat (.ref A_NoAnswer) = some false)
    {A_NoMeasure : Addr} {cd_NoMeasure : ClassData} (aA_NoMeasure : PySem.W.nsIn K mainGlobals "NoMeasure" = some (some (.ref A_NoMeasure))) (zA_NoMeasure : PySem.W.clsIn K A_NoMeasure = some cd_NoMeasure) (tA_NoMeasure : PySem.W.typeIn K (.ref A_NoMeasure) = some (.type "type"))
    (m_NoRoot_NoMeasure : PySem.W.mroIn K C_NoRoot (.ref A_NoMeasure) = some false)
    (m_TooGreat_NoMeasure : PySem.W.mroIn K C_TooGreat (.ref A_NoMeasure) = some false)
    {A_NoShape : Addr} {cd_NoShape : ClassData} (aA_NoShape : PySem.W.nsIn K mainGlobals "NoShape" = some (some (.ref A_NoShape))) (zA_NoShape : PySem.W.clsIn K A_NoShape = some cd_NoShape) (tA_NoShape : PySem.W.typeIn K (.ref A_NoShape) = some (.type "type"))
    (m_NoRoot_NoShape : PySem.W.mroIn K C_NoRoot (.ref A_NoShape) = some false)
    (m_TooGreat_NoShape : PySem.W.mroIn K C_TooGreat (.ref A_NoShape) = some false)
    {A_NoTurn : Addr} {cd_NoTurn : ClassData} (aA_NoTurn : PySem.W.nsIn K mainGlobals "NoTurn" = some (some (.ref A_NoTurn))) (zA_NoTurn : PySem.W.clsIn K A_NoTurn = some cd_NoTurn) (tA_NoTurn : PySem.W.typeIn K (.ref A_NoTurn) = some (.type "type"))
    (m_NoRoot_NoTurn : PySem.W.mroIn K C_NoRoot (.ref A_NoTurn) = some false)
    (m_TooGreat_NoTurn : PySem.W.mroIn K C_TooGreat (.ref A_NoTurn) = some false)
    {A_NotLevel : Addr} {cd_NotLevel : ClassData} (aA_NotLevel : PySem.W.nsIn K mainGlobals "NotLevel" = some (some (.ref A_NotLevel))) (zA_NotLevel : PySem.W.clsIn K A_NotLevel = some cd_NotLevel) (tA_NotLevel : PySem.W.typeIn K (.ref A_NotLevel) = some (.type "type"))
    (m_NoRoot_NotLevel : PySem.W.mroIn K C_NoRoot (.ref A_NotLevel) = some false)
    (m_TooGreat_NotLevel : PySem.W.mroIn K C_TooGreat (.ref A_NotLevel) = some false)
    {A_NotOwn : Addr} {cd_NotOwn : ClassData} (aA_NotOwn : PySem.W.nsIn K mainGlobals "NotOwn" = some (some (.ref A_NotOwn))) (zA_NotOwn : PySem.W.clsIn K A_NotOwn = some cd_NotOwn) (tA_NotOwn : PySem.W.typeIn K (.ref A_NotOwn) = some (.type "type"))
    (m_NoRoot_NotOwn : PySem.W.mroIn K C_NoRoot (.ref A_NotOwn) = some false)
    (m_TooGreat_NotOwn : PySem.W.mroIn K C_TooGreat (.ref A_NotOwn) = some false)
    {A_NotPlain : Addr} {cd_NotPlain : ClassData} (aA_NotPlain : PySem.W.nsIn K mainGlobals "NotPlain" = some (some (.ref A_NotPlain))) (zA_NotPlain : PySem.W.clsIn K A_NotPlain = some cd_NotPlain) (tA_NotPlain : PySem.W.typeIn K (.ref A_NotPlain) = some (.type "type"))
    (m_NoRoot_NotPlain : PySem.W.mroIn K C_NoRoot (.ref A_NotPlain) = some false)
    (m_TooGreat_NotPlain : PySem.W.mroIn K C_TooGreat (.ref A_NotPlain) = some false)
    {A_Nought : Addr} {cd_Nought : ClassData} (aA_Nought : PySem.W.nsIn K mainGlobals "Nought" = some (some (.ref A_Nought))) (zA_Nought : PySem.W.clsIn K A_Nought = some cd_Nought) (tA_Nought : PySem.W.typeIn K (.ref A_Nought) = some (.type "type"))
    (m_NoRoot_Nought : PySem.W.mroIn K C_NoRoot (.ref A_Nought) = some false)
    (m_TooGreat_Nought : PySem.W.mroIn K C_TooGreat (.ref A_Nought) = some false)
    {cd_NoRoot : ClassData} (zA_NoRoot : PySem.W.clsIn K C_NoRoot = some cd_NoRoot) (tA_NoRoot : PySem.W.typeIn K (.ref C_NoRoot) = some (.type "type"))
    (m_TooGreat_NoRoot : PySem.W.mroIn K C_TooGreat (.ref C_NoRoot) = some false)
    {cd_TooGreat : ClassData} (zA_TooGreat : PySem.W.clsIn K C_TooGreat = some cd_TooGreat) (tA_TooGreat : PySem.W.typeIn K (.ref C_TooGreat) = some (.type "type"))
    (m_NoRoot_TooGreat : PySem.W.mroIn K C_NoRoot (.ref C_TooGreat) = some false)
    {t_MOST_NUMBER : Tok} (a_MOST_NUMBER : PySem.W.nsIn K mainGlobals "MOST_NUMBER" = some (some (.int (1000) t_MOST_NUMBER)))
    {t_MOST_PLACE : Tok} (a_MOST_PLACE : PySem.W.nsIn K mainGlobals "MOST_PLACE" = some (some (.int (300) t_MOST_PLACE)))
    : ∃ fd : FuncData, (∀ (s : Shared) (v : Value), BindsTo s fd ⟨[v], []⟩ [("_law_script", v)]) ∧ ∀ base : Heap, K.In base → base.Ns mainGlobals mg → FnOk l.prog w K mg base CX0 9 fa fd ["_law_script"] (lSp K spLawB) := by
  have e := hfa.symm.trans (PySem.W.mg_of X G a23)
  cases e
  have F0 := fun_mk (st := s_root) l0 c0 k0
  have F1 := fun_mk (st := s_is_square) l1 c1 k1
  have F2 := fun_mk (st := s_check_at_most) l2 c2 k2
  have F3 := fun_mk (st := s_check_number) l3 c3 k3
  have F4 := fun_mk (st := s_chain) l4 c4 k4
  have F5 := fun_mk (st := s_row_behind) l5 c5 k5
  have F6 := fun_mk (st := s_part) l6 c6 k6
  have F7 := fun_mk (st := s_part_of) l7 c7 k7
  have F8 := fun_mk (st := s_fraction) l8 c8 k8
  have F9 := fun_mk (st := s_fraction_of) l9 c9 k9
  have F10 := fun_mk (st := s_first_pair) l10 c10 k10
  have F11 := fun_mk (st := s_pair_behind) l11 c11 k11
  have F12 := fun_mk (st := s_plus_one) l12 c12 k12
  have F13 := fun_mk (st := s_minus_one) l13 c13 k13
  have F14 := fun_mk (st := s_point_of_round) l14 c14 k14
  have F15 := fun_mk (st := s_nearest) l15 c15 k15
  have F16 := fun_mk (st := s_last_pair_within) l16 c16 k16
  have F17 := fun_mk (st := s__law_wholes) l17 c17 k17
  have F18 := fun_mk (st := s__law_number) l18 c18 k18
  have F19 := fun_mk (st := s__law_due) l19 c19 k19
  have F20 := fun_mk (st := s__law_caught) l20 c20 k20
  have F21 := fun_mk (st := s__law_refused) l21 c21 k21
  have F22 := fun_mk (st := s__law_good) l22 c22 k22
  have F23 := fun_mk (st := s_law) l23 c23 k23
  have X_NoRoot : XC K C_NoRoot U_FormError := ⟨⟨_, _, _, _, _, _, _, _, _, _, _, _, _, _, lC_NoRoot⟩, ⟨_, _, _, _, _, _, _, _, _, lU_FormError, lN_FormError, sk_FormError, ni_FormError⟩, sa_NoRoot, ga_NoRoot, gh_NoRoot, cl_NoRoot, gg_NoRoot, gt_NoRoot⟩
  have FI_NoRoot := fun_mk (st := si_NoRoot) lI_NoRoot cI_NoRoot kI_NoRoot
  have X_TooGreat : XC K C_TooGreat U_FormError := ⟨⟨_, _, _, _, _, _, _, _, _, _, _, _, _, _, lC_TooGreat⟩, ⟨_, _, _, _, _, _, _, _, _, lU_FormError, lN_FormError, sk_FormError, ni_FormError⟩, sa_TooGreat, ga_TooGreat, gh_TooGreat, cl_TooGreat, gg_TooGreat, gt_TooGreat⟩
  have FI_TooGreat := fun_mk (st := si_TooGreat) lI_TooGreat cI_TooGreat kI_TooGreat
  have T : Txt K mg := {
    x_NoRoot := ⟨_, _, _, _, aC_NoRoot, PySem.W.mg_of X G aC_NoRoot, kC_NoRoot, X_NoRoot, hi_NoRoot, hf_NoRoot, FI_NoRoot.binds (ps := ["self", "number"]) fun _ _ _ _ _ _ us hl => match us, hl with | [_, _], _ => rfl, rfl, FI_NoRoot, fun f hf => by simp only [List.mem_cons, List.not_mem_nil, or_false] at hf; subst hf; exact tk_NoRoot_number⟩
    un_NoRoot_FormError := Under.mk aC_NoRoot X_NoRoot (PySem.W.mg_of X G aU_FormError)
    nf_NoRoot_number := NoAt.mk aC_NoRoot nf_NoRoot_number
    x_TooGreat := ⟨_, _, _, _, aC_TooGreat, PySem.W.mg_of X G aC_TooGreat, kC_TooGreat, X_TooGreat, hi_TooGreat, hf_TooGreat, FI_TooGreat.binds (ps := ["self", "number", "most"]) fun _ _ _ _ _ _ us hl => match us, hl with | [_, _, _], _ => rfl, rfl, FI_TooGreat, fun f hf => by simp only [List.mem_cons, List.not_mem_nil, or_false] at hf; rcases hf with hf | hf <;> (subst hf; first | exact tk_TooGreat_number | exact tk_TooGreat_most)⟩
    un_TooGreat_FormError := Under.mk aC_TooGreat X_TooGreat (PySem.W.mg_of X G aU_FormError)
    nf_TooGreat_number := NoAt.mk aC_TooGreat nf_TooGreat_number
    nf_TooGreat_most := NoAt.mk aC_TooGreat nf_TooGreat_most
    u_FormError := ⟨_, PySem.W.mg_of X G aU_FormError, _, _, _, _, _, _, _, _, _, _, _, _, _, _, _, _, lU_FormError⟩
    c_Apart := ⟨_, PySem.W.mg_of X G aA_Apart, SubX.no aC_NoRoot X_NoRoot zA_Apart tA_Apart m_NoRoot_Apart, SubX.no aC_TooGreat X_TooGreat zA_Apart tA_Apart m_TooGreat_Apart⟩
    c_NoAnswer := ⟨_, PySem.W.mg_of X G aA_NoAnswer, SubX.no aC_NoRoot X_NoRoot zA_NoAnswer tA_NoAnswer m_NoRoot_NoAnswer, SubX.no aC_TooGreat X_TooGreat zA_NoAnswer tA_NoAnswer m_TooGreat_NoAnswer⟩
    c_NoMeasure := ⟨_, PySem.W.mg_of X G aA_NoMeasure, SubX.no aC_NoRoot X_NoRoot zA_NoMeasure tA_NoMeasure m_NoRoot_NoMeasure, SubX.no aC_TooGreat X_TooGreat zA_NoMeasure tA_NoMeasure m_TooGreat_NoMeasure⟩
    c_NoShape := ⟨_, PySem.W.mg_of X G aA_NoShape, SubX.no aC_NoRoot X_NoRoot zA_NoShape tA_NoShape m_NoRoot_NoShape, SubX.no aC_TooGreat X_TooGreat zA_NoShape tA_NoShape m_TooGreat_NoShape⟩
    c_NoTurn := ⟨_, PySem.W.mg_of X G aA_NoTurn, SubX.no aC_NoRoot X_NoRoot zA_NoTurn tA_NoTurn m_NoRoot_NoTurn, SubX.no aC_TooGreat X_TooGreat zA_NoTurn tA_NoTurn m_TooGreat_NoTurn⟩
    c_NotLevel := ⟨_, PySem.W.mg_of X G aA_NotLevel, SubX.no aC_NoRoot X_NoRoot zA_NotLevel tA_NotLevel m_NoRoot_NotLevel, SubX.no aC_TooGreat X_TooGreat zA_NotLevel tA_NotLevel m_TooGreat_NotLevel⟩
    c_NotOwn := ⟨_, PySem.W.mg_of X G aA_NotOwn, SubX.no aC_NoRoot X_NoRoot zA_NotOwn tA_NotOwn m_NoRoot_NotOwn, SubX.no aC_TooGreat X_TooGreat zA_NotOwn tA_NotOwn m_TooGreat_NotOwn⟩
    c_NotPlain := ⟨_, PySem.W.mg_of X G aA_NotPlain, SubX.no aC_NoRoot X_NoRoot zA_NotPlain tA_NotPlain m_NoRoot_NotPlain, SubX.no aC_TooGreat X_TooGreat zA_NotPlain tA_NotPlain m_TooGreat_NotPlain⟩
    c_Nought := ⟨_, PySem.W.mg_of X G aA_Nought, SubX.no aC_NoRoot X_NoRoot zA_Nought tA_Nought m_NoRoot_Nought, SubX.no aC_TooGreat X_TooGreat zA_Nought tA_Nought m_TooGreat_Nought⟩
    c_NoRoot := ⟨_, PySem.W.mg_of X G aC_NoRoot, SubX.self aC_NoRoot, SubX.no aC_TooGreat X_TooGreat zA_NoRoot tA_NoRoot m_TooGreat_NoRoot⟩
    c_TooGreat := ⟨_, PySem.W.mg_of X G aC_TooGreat, SubX.no aC_NoRoot X_NoRoot zA_TooGreat tA_TooGreat m_NoRoot_TooGreat, SubX.self aC_TooGreat⟩
    z_ValueError := PySem.W.mg_none_of X G z_ValueError
    t_root := ⟨_, _, F0, PySem.W.mg_of X G a0, F0.binds (ps := ["number"]) fun _ _ _ _ _ _ us hl => match us, hl with | [_], _ => rfl⟩
    t_is_square := ⟨_, _, F1, PySem.W.mg_of X G a1, F1.binds (ps := ["number"]) fun _ _ _ _ _ _ us hl => match us, hl with | [_], _ => rfl⟩
    t_check_at_most := ⟨_, _, F2, PySem.W.mg_of X G a2, F2.binds (ps := ["number", "most"]) fun _ _ _ _ _ _ us hl => match us, hl with | [_, _], _ => rfl⟩
    t_check_number := ⟨_, _, F3, PySem.W.mg_of X G a3, F3.binds (ps := ["number"]) fun _ _ _ _ _ _ us hl => match us, hl with | [_], _ => rfl⟩
    t_chain := ⟨_, _, F4, PySem.W.mg_of X G a4, F4.binds (ps := ["number"]) fun _ _ _ _ _ _ us hl => match us, hl with | [_], _ => rfl⟩
    t_row_behind := ⟨_, _, F5, PySem.W.mg_of X G a5, F5.binds (ps := ["row", "number", "far"]) fun _ _ _ _ _ _ us hl => match us, hl with | [_, _, _], _ => rfl⟩
    t_part := ⟨_, _, F6, PySem.W.mg_of X G a6, F6.binds (ps := ["number", "k"]) fun _ _ _ _ _ _ us hl => match us, hl with | [_, _], _ => rfl⟩
    t_part_of := ⟨_, _, F7, PySem.W.mg_of X G a7, F7.binds (ps := ["rows", "k"]) fun _ _ _ _ _ _ us hl => match us, hl with | [_, _], _ => rfl⟩
    t_fraction := ⟨_, _, F8, PySem.W.mg_of X G a8, F8.binds (ps := ["number", "k"]) fun _ _ _ _ _ _ us hl => match us, hl with | [_, _], _ => rfl⟩
    t_fraction_of := ⟨_, _, F9, PySem.W.mg_of X G a9, F9.binds (ps := ["rows", "k"]) fun _ _ _ _ _ _ us hl => match us, hl with | [_, _], _ => rfl⟩
    t_first_pair := ⟨_, _, F10, PySem.W.mg_of X G a10, F10.binds (ps := ["rows"]) fun _ _ _ _ _ _ us hl => match us, hl with | [_], _ => rfl⟩
    t_pair_behind := ⟨_, _, F11, PySem.W.mg_of X G a11, F11.binds (ps := ["pair", "often"]) fun _ _ _ _ _ _ us hl => match us, hl with | [_, _], _ => rfl⟩
    t_plus_one := ⟨_, _, F12, PySem.W.mg_of X G a12, F12.binds (ps := ["number"]) fun _ _ _ _ _ _ us hl => match us, hl with | [_], _ => rfl⟩
    t_minus_one := ⟨_, _, F13, PySem.W.mg_of X G a13, F13.binds (ps := ["number"]) fun _ _ _ _ _ _ us hl => match us, hl with | [_], _ => rfl⟩
    t_point_of_round := ⟨_, _, F14, PySem.W.mg_of X G a14, F14.binds (ps := ["rows"]) fun _ _ _ _ _ _ us hl => match us, hl with | [_], _ => rfl⟩
    t_nearest := ⟨_, _, F15, PySem.W.mg_of X G a15, F15.binds (ps := ["number", "most"]) fun _ _ _ _ _ _ us hl => match us, hl with | [_, _], _ => rfl⟩
    t_last_pair_within := ⟨_, _, F16, PySem.W.mg_of X G a16, F16.binds (ps := ["rows", "most"]) fun _ _ _ _ _ _ us hl => match us, hl with | [_, _], _ => rfl⟩
    t__law_wholes := ⟨_, _, F17, PySem.W.mg_of X G a17, F17.binds (ps := ["_law_found", "_law_many"]) fun _ _ _ _ _ _ us hl => match us, hl with | [_, _], _ => rfl⟩
    t__law_number := ⟨_, _, F18, PySem.W.mg_of X G a18, F18.binds (ps := ["_law_cell"]) fun _ _ _ _ _ _ us hl => match us, hl with | [_], _ => rfl⟩
    t__law_due := ⟨_, _, F19, PySem.W.mg_of X G a19, F19.binds (ps := ["_law_number_here"]) fun _ _ _ _ _ _ us hl => match us, hl with | [_], _ => rfl⟩
    t__law_caught := ⟨_, _, F20, PySem.W.mg_of X G a20, F20.binds (ps := ["_law_way", "_law_number_here", "_law_k"]) fun _ _ _ _ _ _ us hl => match us, hl with | [_, _, _], _ => rfl⟩
    t__law_refused := ⟨_, _, F21, PySem.W.mg_of X G a21, F21.binds (ps := ["_law_e", "_law_due_here"]) fun _ _ _ _ _ _ us hl => match us, hl with | [_, _], _ => rfl⟩
    t__law_good := ⟨_, _, F22, PySem.W.mg_of X G a22, F22.binds (ps := ["_law_number_here", "_law_k", "_law_start"]) fun _ _ _ _ _ _ us hl => match us, hl with | [_, _, _], _ => rfl⟩
    t_law := ⟨_, _, F23, PySem.W.mg_of X G a23, F23.binds (ps := ["_law_script"]) fun _ _ _ _ _ _ us hl => match us, hl with | [_], _ => rfl⟩
    z_bool := PySem.W.mg_none_of X G z_bool
    z_int := PySem.W.mg_none_of X G z_int
    z_isinstance := PySem.W.mg_none_of X G z_isinstance
    z_len := PySem.W.mg_none_of X G z_len
    z_range := PySem.W.mg_none_of X G z_range
    z_tuple := PySem.W.mg_none_of X G z_tuple
    m_MOST_NUMBER := ⟨_, PySem.W.mg_of X G a_MOST_NUMBER⟩
    m_MOST_PLACE := ⟨_, PySem.W.mg_of X G a_MOST_PLACE⟩
  }
  refine ⟨PySem.W.fnOf "law" "law" (defArgs s_law) (defBody s_law) (defScope s_law) .none kV23 dc23 pm23 an23 cd23 ct23, fun s v => .of_eq rfl, fun base kb nb => ?_⟩
  have g_root := ok_root (P := l.prog) (w := w) (base := base) T 
  have g_row_behind := ok_row_behind (P := l.prog) (w := w) (base := base) T 
  have g_part_of := ok_part_of (P := l.prog) (w := w) (base := base) T 
  have g_first_pair := ok_first_pair (P := l.prog) (w := w) (base := base) T 
  have g_pair_behind := ok_pair_behind (P := l.prog) (w := w) (base := base) T 
  have g__law_wholes := ok__law_wholes (P := l.prog) (w := w) (base := base) T 
  have g__law_number := ok__law_number (P := l.prog) (w := w) (base := base) T 
  have g__law_due := ok__law_due (P := l.prog) (w := w) (base := base) T 
  have g__law_refused := ok__law_refused (P := l.prog) (w := w) (base := base) T 
  have g_is_square := ok_is_square (P := l.prog) (w := w) (base := base) T g_root
  have g_fraction_of := ok_fraction_of (P := l.prog) (w := w) (base := base) T g_first_pair g_pair_behind g_part_of
  have g_last_pair_within := ok_last_pair_within (P := l.prog) (w := w) (base := base) T 
  have gx_check_at_most := okx_check_at_most (P := l.prog) (w := w) (base := base) T 
  have g_point_of_round := ok_point_of_round (P := l.prog) (w := w) (base := base) T 
  have gx_check_number := okx_check_number (P := l.prog) (w := w) (base := base) T gx_check_at_most g_is_square
  have gx_chain := okx_chain (P := l.prog) (w := w) (base := base) T gx_check_number g_root g_row_behind
  have gx_part := okx_part (P := l.prog) (w := w) (base := base) T g_part_of gx_chain
  have gx_fraction := okx_fraction (P := l.prog) (w := w) (base := base) T gx_chain gx_check_at_most g_fraction_of
  have g_fraction := ok_fraction gx_fraction
  have gx_plus_one := okx_plus_one (P := l.prog) (w := w) (base := base) T g_point_of_round gx_chain
  have gx_minus_one := okx_minus_one (P := l.prog) (w := w) (base := base) T g_point_of_round gx_chain
  have gx_nearest := okx_nearest (P := l.prog) (w := w) (base := base) T g_last_pair_within gx_chain
  have g__law_caught := ok__law_caught (P := l.prog) (w := w) (base := base) T gx_chain gx_part gx_fraction gx_plus_one gx_minus_one gx_nearest
  have g__law_good := ok__law_good (P := l.prog) (w := w) (base := base) T g__law_due g__law_wholes g_fraction g__law_refused g__law_caught
  have g_law := ok_law (P := l.prog) (w := w) (base := base) T g__law_good g__law_number
  obtain ⟨f, fd, FT, GG⟩ := g_law
  have e1 := FT.mg.symm.trans (PySem.W.mg_of X G a23)
  cases e1
  have e2 := FT.fn.uniq F23
  subst e2
  exact GG
theorem walk {l : PySem.W.OpenLaw} {q : Program} {loose : List Str} {XP : (Str → Option Value) → Heap → Prop} {YP : World → Heap → Prop} {d : DefRec} {K : Params → PySem.W.Frag} (hn : l.most = some 63) (hdf : d.params.defaults = [])
    (hY : ∀ (w : World) (h : Heap), YP w h → (K w.params).In h)
    (F : ∀ (w : World) (mg : Str → Option Value) (fa : Addr) (h : Heap), (K w.params).In h → h.Ns mainGlobals mg → mg d.name = some (.ref fa) →
      ∃ fd : FuncData, (∀ (s : Shared) (u : Value), BindsTo s fd ⟨[u], []⟩ [("_law_script", u)]) ∧ ∀ base : Heap, (K w.params).In base → base.Ns mainGlobals mg → FnOk l.prog w (K w.params) mg base CX0 9 fa fd ["_law_script"] (lSp (K w.params) spLawB)) :
    PySem.W.WalkO q loose XP YP l.row.toRowW d [] (fun f vs => PySem.call f vs) :=
  L2.walk_ofB (k := 9) (x := "_law_script") hn hdf ⟨rfl, by decide, by decide⟩ hY F
end My
open PySem PySem.W PyProof.Rows
set_option maxRecDepth 100000 in
set_option maxHeartbeats 0 in
theorem PySem.Challenge.cw_formcycle_k69_no_chain_holds : PySem.Challenge.rw_formcycle_k69_no_chain.Holds := by
  w_on
  refine holds_law (by kernel_rfl) fun said => ?_
  refine holds_open (r := PySem.Challenge.rw_formcycle_k69_no_chain.row) (q := My.vw) (loose := []) (Xt := fun s => xlAt My.vw [] s && recOk (RowW.records (PySem.Challenge.rw_formcycle_k69_no_chain.row.toRowW)) s) (XP := XL My.vw []) (Yf := Hook.obs (kHook My.KK My.asK (fun _ => by kernel_rfl))) (Ya := Hook.val (kHook My.KK My.asK (fun _ => by kernel_rfl))) (YP := Hook.says (kHook My.KK My.asK (fun _ => by kernel_rfl))) (N := 7488) My.hl (Hook.of (kHook My.KK My.asK (fun _ => by kernel_rfl))) (Hook.keeps (kHook My.KK My.asK (fun _ => by kernel_rfl))) (fun s e => xl_of s (Bool.and_eq_true_iff.mp e).1) XL.keeps (by rfl) (by rfl) (by rfl) (fun s e => recFacts_of (Bool.and_eq_true_iff.mp e).2) (by rfl) said (by decide +kernel) ⟨rfl, rfl, rfl, rfl, rfl, by decide +kernel⟩ ?hw ?hc
  (case hw => w_witness2)
  k_fill
  refine My.walk (l := PySem.Challenge.rw_formcycle_k69_no_chain) rfl rfl (fun w h Y => PySem.W.kIn_of Y) ?F
  case F =>
    intro w mg fa h KX G hmg
    refine' My.all_mk KX G hmg ?a0 ?l0 ?c0 ?k0 ?a1 ?l1 ?c1 ?k1 ?a2 ?l2 ?c2 ?k2 ?a3 ?l3 ?c3 ?k3 ?a4 ?l4 ?c4 ?k4 ?a5 ?l5 ?c5 ?k5 ?a6 ?l6 ?c6 ?k6 ?a7 ?l7 ?c7 ?k7 ?a8 ?l8 ?c8 ?k8 ?a9 ?l9 ?c9 ?k9 ?a10 ?l10 ?c10 ?k10 ?a11 ?l11 ?c11 ?k11 ?a12 ?l12 ?c12 ?k12 ?a13 ?l13 ?c13 ?k13 ?a14 ?l14 ?c14 ?k14 ?a15 ?l15 ?c15 ?k15 ?a16 ?l16 ?c16 ?k16 ?a17 ?l17 ?c17 ?k17 ?a18 ?l18 ?c18 ?k18 ?a19 ?l19 ?c19 ?k19 ?a20 ?l20 ?c20 ?k20 ?a21 ?l21 ?c21 ?k21 ?a22 ?l22 ?c22 ?k22 ?a23 ?l23 ?c23 ?k23 ?z_bool ?z_int ?z_isinstance ?z_len ?z_range ?z_tuple ?z_ValueError ?aU_FormError ?lU_FormError ?lN_FormError ?sk_FormError ?ni_FormError ?aC_NoRoot ?lC_NoRoot ?kC_NoRoot ?sa_NoRoot ?ga_NoRoot ?gh_NoRoot ?cl_NoRoot ?gg_NoRoot ?gt_NoRoot ?hi_NoRoot ?hf_NoRoot ?lI_NoRoot ?cI_NoRoot ?kI_NoRoot ?tk_NoRoot_number ?nf_NoRoot_number ?aC_TooGreat ?lC_TooGreat ?kC_TooGreat ?sa_TooGreat ?ga_TooGreat ?gh_TooGreat ?cl_TooGreat ?gg_TooGreat ?gt_TooGreat ?hi_TooGreat ?hf_TooGreat ?lI_TooGreat ?cI_TooGreat ?kI_TooGreat ?tk_TooGreat_number ?nf_TooGreat_number ?tk_TooGreat_most ?nf_TooGreat_most ?aA_Apart ?zA_Apart ?tA_Apart ?m_NoRoot_Apart ?m_TooGreat_Apart ?aA_NoAnswer ?zA_NoAnswer ?tA_NoAnswer ?m_NoRoot_NoAnswer ?m_TooGreat_NoAnswer ?aA_NoMeasure ?zA_NoMeasure ?tA_NoMeasure ?m_NoRoot_NoMeasure ?m_TooGreat_NoMeasure ?aA_NoShape ?zA_NoShape ?tA_NoShape ?m_NoRoot_NoShape ?m_TooGreat_NoShape ?aA_NoTurn ?zA_NoTurn ?tA_NoTurn ?m_NoRoot_NoTurn ?m_TooGreat_NoTurn ?aA_NotLevel ?zA_NotLevel ?tA_NotLevel ?m_NoRoot_NotLevel ?m_TooGreat_NotLevel ?aA_NotOwn ?zA_NotOwn ?tA_NotOwn ?m_NoRoot_NotOwn ?m_TooGreat_NotOwn ?aA_NotPlain ?zA_NotPlain ?tA_NotPlain ?m_NoRoot_NotPlain ?m_TooGreat_NotPlain ?aA_Nought ?zA_Nought ?tA_Nought ?m_NoRoot_Nought ?m_TooGreat_Nought ?zA_NoRoot ?tA_NoRoot ?m_TooGreat_NoRoot ?zA_TooGreat ?tA_TooGreat ?m_NoRoot_TooGreat ?a_MOST_NUMBER ?a_MOST_PLACE
    (case a0 => k_is)
    (case l0 => k_is)
    (case c0 => k_is)
    (case k0 => k_is)
    (case a1 => k_is)
    (case l1 => k_is)
    (case c1 => k_is)
    (case k1 => k_is)
    (case a2 => k_is)
    (case l2 => k_is)
    (case c2 => k_is)
    (case k2 => k_is)
    (case a3 => k_is)
    (case l3 => k_is)
    (case c3 => k_is)
    (case k3 => k_is)
    (case a4 => k_is)
    (case l4 => k_is)
    (case c4 => k_is)
    (case k4 => k_is)
    (case a5 => k_is)
    (case l5 => k_is)
    (case c5 => k_is)
    (case k5 => k_is)
    (case a6 => k_is)
    (case l6 => k_is)
    (case c6 => k_is)
    (case k6 => k_is)
    (case a7 => k_is)
    (case l7 => k_is)
    (case c7 => k_is)
    (case k7 => k_is)
    (case a8 => k_is)
    (case l8 => k_is)
    (case c8 => k_is)
    (case k8 => k_is)
    (case a9 => k_is)
    (case l9 => k_is)
    (case c9 => k_is)
    (case k9 => k_is)
    (case a10 => k_is)
    (case l10 => k_is)
    (case c10 => k_is)
    (case k10 => k_is)
    (case a11 => k_is)
    (case l11 => k_is)
    (case c11 => k_is)
    (case k11 => k_is)
    (case a12 => k_is)
    (case l12 => k_is)
    (case c12 => k_is)
    (case k12 => k_is)
    (case a13 => k_is)
    (case l13 => k_is)
    (case c13 => k_is)
    (case k13 => k_is)
    (case a14 => k_is)
    (case l14 => k_is)
    (case c14 => k_is)
    (case k14 => k_is)
    (case a15 => k_is)
    (case l15 => k_is)
    (case c15 => k_is)
    (case k15 => k_is)
    (case a16 => k_is)
    (case l16 => k_is)
    (case c16 => k_is)
    (case k16 => k_is)
    (case a17 => k_is)
    (case l17 => k_is)
    (case c17 => k_is)
    (case k17 => k_is)
    (case a18 => k_is)
    (case l18 => k_is)
    (case c18 => k_is)
    (case k18 => k_is)
    (case a19 => k_is)
    (case l19 => k_is)
    (case c19 => k_is)
    (case k19 => k_is)
    (case a20 => k_is)
    (case l20 => k_is)
    (case c20 => k_is)
    (case k20 => k_is)
    (case a21 => k_is)
    (case l21 => k_is)
    (case c21 => k_is)
    (case k21 => k_is)
    (case a22 => k_is)
    (case l22 => k_is)
    (case c22 => k_is)
    (case k22 => k_is)
    (case a23 => k_is)
    (case l23 => k_is)
    (case c23 => k_is)
    (case k23 => k_is)
    (case z_bool => k_is)
    (case z_int => k_is)
    (case z_isinstance => k_is)
    (case z_len => k_is)
    (case z_range => k_is)
    (case z_tuple => k_is)
    (case z_ValueError => k_is)
    (case aU_FormError => k_is)
    (case lU_FormError => k_is)
    (case lN_FormError => k_is)
    (case sk_FormError => rfl)
    (case ni_FormError => rfl)
    (case aC_NoRoot => k_is)
    (case lC_NoRoot => k_is)
    (case kC_NoRoot => k_is)
    (case sa_NoRoot => k_is)
    (case ga_NoRoot => k_is)
    (case gh_NoRoot => k_is)
    (case cl_NoRoot => k_is)
    (case gg_NoRoot => k_is)
    (case gt_NoRoot => k_is)
    (case hi_NoRoot => k_is)
    (case hf_NoRoot => k_is)
    (case lI_NoRoot => k_is)
    (case cI_NoRoot => k_is)
    (case kI_NoRoot => k_is)
    (case tk_NoRoot_number => k_is)
    (case nf_NoRoot_number => k_is)
    (case aC_TooGreat => k_is)
    (case lC_TooGreat => k_is)
    (case kC_TooGreat => k_is)
    (case sa_TooGreat => k_is)
    (case ga_TooGreat => k_is)
    (case gh_TooGreat => k_is)
    (case cl_TooGreat => k_is)
    (case gg_TooGreat => k_is)
    (case gt_TooGreat => k_is)
    (case hi_TooGreat => k_is)
    (case hf_TooGreat => k_is)
    (case lI_TooGreat => k_is)
    (case cI_TooGreat => k_is)
    (case kI_TooGreat => k_is)
    (case tk_TooGreat_number => k_is)
    (case nf_TooGreat_number => k_is)
    (case tk_TooGreat_most => k_is)
    (case nf_TooGreat_most => k_is)
    (case aA_Apart => k_is)
    (case zA_Apart => k_is)
    (case tA_Apart => k_is)
    (case m_NoRoot_Apart => k_is)
    (case m_TooGreat_Apart => k_is)
    (case aA_NoAnswer => k_is)
    (case zA_NoAnswer => k_is)
    (case tA_NoAnswer => k_is)
    (case m_NoRoot_NoAnswer => k_is)
    (case m_TooGreat_NoAnswer => k_is)
    (case aA_NoMeasure => k_is)
    (case zA_NoMeasure => k_is)
    (case tA_NoMeasure => k_is)
    (case m_NoRoot_NoMeasure => k_is)
    (case m_TooGreat_NoMeasure => k_is)
    (case aA_NoShape => k_is)
    (case zA_NoShape => k_is)
    (case tA_NoShape => k_is)
    (case m_NoRoot_NoShape => k_is)
    (case m_TooGreat_NoShape => k_is)
    (case aA_NoTurn => k_is)
    (case zA_NoTurn => k_is)
    (case tA_NoTurn => k_is)
    (case m_NoRoot_NoTurn => k_is)
    (case m_TooGreat_NoTurn => k_is)
    (case aA_NotLevel => k_is)
    (case zA_NotLevel => k_is)
    (case tA_NotLevel => k_is)
    (case m_NoRoot_NotLevel => k_is)
    (case m_TooGreat_NotLevel => k_is)
    (case aA_NotOwn => k_is)
    (case zA_NotOwn => k_is)
    (case tA_NotOwn => k_is)
    (case m_NoRoot_NotOwn => k_is)
    (case m_TooGreat_NotOwn => k_is)
    (case aA_NotPlain => k_is)
    (case zA_NotPlain => k_is)
    (case tA_NotPlain => k_is)
    (case m_NoRoot_NotPlain => k_is)
    (case m_TooGreat_NotPlain => k_is)
    (case aA_Nought => k_is)
    (case zA_Nought => k_is)
    (case tA_Nought => k_is)
    (case m_NoRoot_Nought => k_is)
    (case m_TooGreat_Nought => k_is)
    (case zA_NoRoot => k_is)
    (case tA_NoRoot => k_is)
    (case m_TooGreat_NoRoot => k_is)
    (case zA_TooGreat => k_is)
    (case tA_TooGreat => k_is)
    (case m_NoRoot_TooGreat => k_is)
    (case a_MOST_NUMBER => k_is)
    (case a_MOST_PLACE => k_is)


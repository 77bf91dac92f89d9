import PyProof.Rows.All
import Wide.All
import OpenK.AllK
import Wide.FinOn
import Lean
import PyProof.EqAt
import PyProof.EqKinds
import PyProof.TupleCall
import PyProof.Rows.CallKwBuiltin
import KE.KMinKey
import KE.KIntText
import KE.KRevIter
import KE.IntTextLaws
import PySem.Challenge.RW_planwell_k06_terms_by_classes
set_option Elab.async false
set_option linter.all false
set_option maxRecDepth 100000
namespace L2
open PySem PySem.W PyProof.Rows
section
variable (T : String -> Option Builtin) (P : Program) (W : World) (m : Nat) (an : Option Value)
def runT : Nat -> SharedT -> Thread -> Option SharedT
  | 0, _, _ => none
  | k + 1, x, th => match through th with
    | true => some x
    | false => match stepOk m an th with
      | false => none
      | true => match stepT (denote T) P W x th with
        | none => none
        | some r => runT k r.1 r.2
theorem runT_of : ∀ {k : Nat} {x y : SharedT} {th : Thread}, runT T P W m an k x th = some y -> topRun T P W m an k x.abs th = some y.abs
  | 0, _, _, _, h => by cases h
  | k + 1, x, y, th, h => by
    unfold runT at h
    unfold topRun
    cases a : through th with
    | true => rw [a] at h; cases h; rfl
    | false =>
      rw [a] at h
      cases b : stepOk m an th with
      | false => rw [b] at h; cases h
      | true =>
        rw [b] at h
        cases c : stepT (denote T) P W x th with
        | none => rw [c] at h; cases h
        | some r =>
          rw [c] at h
          rw [stepT_spec (s' := r.1) (t' := r.2) c]
          exact runT_of h
end
noncomputable def bootT (Q : Params) : BT := ((boot_heap Q).objs.toList.foldl (fun r o => (r.1.ins r.2 o, r.2 + 1)) (BT.nil, 0)).1
noncomputable def bootS (Q : Params) (os : OsState) : SharedT := ⟨bootT Q, 11, {}, #[], boot_drawn, boot_toks, os⟩
theorem bootS_abs (Q : Params) (os : OsState) : (bootS Q os).abs = ⟨boot_heap Q, #[], boot_drawn, boot_toks, os⟩ := by kernel_rfl
theorem boot_size (Q : Params) : ((boot_heap Q).isNs mainGlobals && (#[] : Array GenState).size == 0, (boot_heap Q).objs.size, (boot_heap Q).nsMap mainGlobals "__annotations__") = (true, 11, some (.ref 6)) := by kernel_rfl
theorem leftT {p q : Program} {loose : List Str} {Xt : Shared -> Bool} {α : Type} {Yf : Shared -> α} {Ya : World -> α} {N : Nat} {g : Bool} (e : opening p = plainProg p.main.scope.names) (hN : Nat.ble 600 N = true) (f : ∀ s, fenceModules? p s = some s)
    (h : ∀ (w : World) (os : OsState), (runT treeTable p w 11 (some (.ref 6)) N (bootS w.params os) (topStub p)).map (fun x =>
      ((staticsOk (importedModules p.main.body) (boot_heap w.params) x.abs.heap && namesBound p x.abs.heap && gensDone x.abs && laidKept (boot_heap w.params) x.abs.heap),
        openSeen q loose (importedModules p.main.body) Xt g x.abs, Yf x.abs)) = some (true, openGood q loose, Ya w)) : LeftO p q loose Xt Yf Ya N g := fun w => by
  obtain ⟨⟨h0, gs, d, k, os⟩, a, b⟩ := Option.map_eq_some_iff.mp (boot_open e hN f w)
  obtain ⟨rfl, rfl, rfl, rfl⟩ : h0 = boot_heap w.params /\ gs = #[] /\ d = boot_drawn /\ k = boot_toks := by simpa using b
  obtain ⟨z1, z2, z3⟩ : _ /\ _ /\ _ := by simpa only [Prod.mk.injEq] using boot_size w.params
  obtain ⟨x, r, l⟩ := Option.map_eq_some_iff.mp (h w os)
  have r' := runT_of _ _ _ _ _ r
  rw [bootS_abs] at r'
  obtain ⟨l1, l2, l3⟩ : _ /\ _ /\ _ := by simpa only [Prod.mk.injEq] using l
  have t : topFrom treeTable p w N ⟨boot_heap w.params, #[], boot_drawn, boot_toks, os⟩ = some x.abs := by
    unfold topFrom
    dsimp only
    rw [z1, z2, z3, r']
    show (match staticsOk (importedModules p.main.body) (boot_heap w.params) x.abs.heap && namesBound p x.abs.heap && gensDone x.abs && laidKept (boot_heap w.params) x.abs.heap with | true => some x.abs | false => none) = _
    rw [l1]
  unfold openEnds
  rw [a]
  show (topFrom treeTable p w N _).map _ = _
  rw [t]
  exact congrArg some (Prod.ext l2 l3)
end L2
set_option Elab.async false
set_option linter.all false
set_option maxRecDepth 100000
namespace Pw
open PySem
def tp (i : Nat) : Stmt := PySem.Challenge.pw_planwell_k06_terms_by_classes.main.body.getD i (.Pass ⟨0, 0, 0, 0⟩)
def sub (i j : Nat) : Stmt := match tp i with
  | .ClassDef _ _ _ b .. => b.getD j (.Pass ⟨0, 0, 0, 0⟩)
  | _ => .Pass ⟨0, 0, 0, 0⟩
def fQF (n q : String) (s : Stmt) (d : Value) (m : String) (t c : Nat) : FuncData := match s with
  | .FunctionDef _ a b _ _ _ sc _ _ _ => PySem.W.fnOf (.ofString n) (.ofString q) a b sc d .none .none (.str (.ofString m) t) none (.ref c) .none
  | _ => PySem.W.fnOf (.ofString n) (.ofString q) { posonlyargs := [], args := [], vararg := none, kwonlyargs := [], kw_defaults := [], kwarg := none, defaults := [] } [] { kind := .function, names := [], isGenerator := false, isCoroutine := false } d .none .none (.str (.ofString m) t) none (.ref c) .none
def fQ (n q : String) (s : Stmt) (d : Value) (m : String) (t c : Nat) : Obj := ⟨.type "function", none, .func (fQF n q s d m t c), #[]⟩
def cO (n q : String) (t : Nat) (l a : Int) (r : Nat) (A B : Value) (c e : Nat) : Obj := { cls := .type "code", data := .fields #[.str (.ofString n) t, .str (.ofString q) (t + 1), .str (.ofString "/claim/cut.py") (t + 2), .int l 0, .int a 0, .int 0 0, .int 0 0, .int 3 0, .ref r, .bool true, .int 181 0, .ref (r + 1), .none, A, B, .ref c, .int ((e : Int) - 1) 0, .int l 0, .str (.ofString "/claim/cut.py") e] }
def dO (n : Nat) (P : Params) (l : List (String × Nat × Value)) : Obj := { cls := .type "dict", data := .dict (l.map fun e => ⟨PyData.keyHash P (.ofString e.1), .str (.ofString e.1) e.2.1, e.2.2⟩).toArray n }
def tO (l : List Value) : Obj := { cls := .type "tuple", data := .seq l.toArray }
def KP (P : Params) : PySem.W.Frag :=
  (nat_lit 2, ({ cls := Value.none, data := Data.dict #[] } : Obj)) ::
  (nat_lit 3, dO 43 P [("__name__", 165, (.str "law_planwell_k06_terms_by_classes" 789)), ("__doc__", 166, .none), ("__package__", 167, .none), ("__loader__", 168, (.builtin "__main__.__loader__#opaque")), ("__spec__", 169, .none), ("__annotations__", 170, (.ref 6)), ("__builtins__", 171, (.ref 4)), ("__file__", 173, (.str "/claim/cut.py" 172)), ("__cached__", 174, .none), ("_wall", 193, (.ref 21)), ("PlanError", 213, (.ref 31)), ("BadFraction", 229, (.ref 44)), ("NOUGHT", 234, (.ref 47)), ("greatest_divisor", 243, (.ref 54)), ("fraction", 253, (.ref 62)), ("minus", 261, (.ref 69)), ("sign", 268, (.ref 76)), ("shown_fraction", 277, (.ref 83)), ("Term", 352, (.ref 140)), ("Number", 409, (.ref 189)), ("Entry", 473, (.ref 241)), ("Negative", 537, (.ref 295)), ("Joined", 592, (.ref 335)), ("Plus", 634, (.ref 368)), ("Minus", 676, (.ref 401)), ("Times", 718, (.ref 434)), ("Sum", 788, (.ref 488)), ("_law_at", 798, (.ref 497)), ("_law_mixed", 807, (.ref 504)), ("_law_reserved", 814, (.ref 511)), ("_law_pool", 820, (.ref 516)), ("_law_fraction", 831, (.ref 523)), ("_law_tree", 837, (.ref 528)), ("_law_less", 848, (.ref 535)), ("_law_made", 857, (.ref 542)), ("_law_parts", 863, (.ref 547)), ("_law_number_text", 871, (.ref 554)), ("_law_shown", 877, (.ref 559)), ("_law_put", 883, (.ref 564)), ("_law_entries", 892, (.ref 571)), ("_law_depth", 898, (.ref 576)), ("_law_good", 907, (.ref 583)), ("law", 925, (.ref 590))]) ::
  (nat_lit 4, ({ cls := Value.type "module", dict := some 0 } : Obj)) ::
  (nat_lit 6, dO 0 P []) ::
  (nat_lit 20, cO "_wall" "_wall" 187 1 1 15 (.ref 17) (.ref 18) 19 192) ::
  (nat_lit 21, fQ "_wall" "_wall" (tp 0) .none "__main__" 164 20) ::
  (nat_lit 29, tO []) ::
  (nat_lit 30, dO 3 P [("__module__", 203, (.str "planwell.errors" 194)), ("__firstlineno__", 207, (.int 5 206)), ("__static_attributes__", 208, (.ref 29)), ("__weakref__", 210, (.ref 32)), ("__doc__", 211, .none)]) ::
  (nat_lit 31, ({ cls := Value.type "type", data := Data.cls { name := Str.ofString "PlanError", bases := [Value.type "ValueError"], mro := [Value.ref 31, Value.type "ValueError", Value.type "Exception", Value.type "BaseException", Value.type "object"], ns := 30, qualname := Str.ofString "PlanError", subclasses := [Value.ref 44] }, slots := #[some (Value.ref 22), none, some (Value.str (Str.ofString "PlanError") 196), some (Value.str (Str.ofString "PlanError") 204), some (Value.builtin "ValueError.__new__"), some (Value.bool Bool.true)] } : Obj)) ::
  (nat_lit 32, ({ cls := Value.type "getset_descriptor", data := Data.fields #[Value.str (Str.ofString "__weakref__") 209, Value.ref 31, Value.builtin "ExceptionGroup.__weakref__", Value.none] } : Obj)) ::
  (nat_lit 42, tO []) ::
  (nat_lit 43, dO 2 P [("__module__", 221, (.str "planwell.errors" 194)), ("__firstlineno__", 225, (.int 7 224)), ("__static_attributes__", 226, (.ref 42)), ("__doc__", 227, .none)]) ::
  (nat_lit 44, ({ cls := Value.type "type", data := Data.cls { name := Str.ofString "BadFraction", bases := [Value.ref 31], mro := [Value.ref 44, Value.ref 31, Value.type "ValueError", Value.type "Exception", Value.type "BaseException", Value.type "object"], ns := 43, qualname := Str.ofString "BadFraction" }, slots := #[some (Value.ref 35), none, some (Value.str (Str.ofString "BadFraction") 214), some (Value.str (Str.ofString "BadFraction") 222), some (Value.builtin "ValueError.__new__"), some (Value.bool Bool.true)] } : Obj)) ::
  (nat_lit 47, tO [(.int 0 232), (.int 1 233)]) ::
  (nat_lit 53, cO "greatest_divisor" "greatest_divisor" 235 11 2 48 (.ref 50) (.ref 51) 52 242) ::
  (nat_lit 54, fQ "greatest_divisor" "greatest_divisor" (tp 6) .none "planwell.fractions" 230 53) ::
  (nat_lit 55, tO [(.int 1 244)]) ::
  (nat_lit 61, cO "fraction" "fraction" 245 17 2 56 (.ref 58) (.ref 59) 60 252) ::
  (nat_lit 62, fQ "fraction" "fraction" (tp 7) (.ref 55) "planwell.fractions" 230 61) ::
  (nat_lit 68, cO "minus" "minus" 254 24 2 63 (.ref 65) (.ref 66) 67 260) ::
  (nat_lit 69, fQ "minus" "minus" (tp 8) .none "planwell.fractions" 230 68) ::
  (nat_lit 75, cO "sign" "sign" 262 26 1 70 (.ref 72) (.ref 73) 74 267) ::
  (nat_lit 76, fQ "sign" "sign" (tp 9) .none "planwell.fractions" 230 75) ::
  (nat_lit 82, cO "shown_fraction" "shown_fraction" 269 32 1 77 (.ref 79) (.ref 80) 81 276) ::
  (nat_lit 83, fQ "shown_fraction" "shown_fraction" (tp 10) .none "planwell.fractions" 230 82) ::
  (nat_lit 96, cO "parts" "Term.parts" 292 41 1 91 (.ref 93) (.ref 94) 95 297) ::
  (nat_lit 97, fQ "parts" "Term.parts" (sub 12 0) .none "planwell.terms" 278 96) ::
  (nat_lit 103, cO "told" "Term.told" 299 44 1 98 (.ref 100) (.ref 101) 102 304) ::
  (nat_lit 104, fQ "told" "Term.told" (sub 12 1) .none "planwell.terms" 278 103) ::
  (nat_lit 110, cO "shown" "Term.shown" 306 47 1 105 (.ref 107) (.ref 108) 109 311) ::
  (nat_lit 111, fQ "shown" "Term.shown" (sub 12 2) .none "planwell.terms" 278 110) ::
  (nat_lit 117, cO "put" "Term.put" 313 50 3 112 (.ref 114) (.ref 115) 116 320) ::
  (nat_lit 118, fQ "put" "Term.put" (sub 12 3) .none "planwell.terms" 278 117) ::
  (nat_lit 124, cO "laid" "Term.laid" 322 53 2 119 (.ref 121) (.ref 122) 123 328) ::
  (nat_lit 125, fQ "laid" "Term.laid" (sub 12 4) .none "planwell.terms" 278 124) ::
  (nat_lit 131, cO "entries" "Term.entries" 330 56 1 126 (.ref 128) (.ref 129) 130 337) ::
  (nat_lit 132, fQ "entries" "Term.entries" (sub 12 5) .none "planwell.terms" 278 131) ::
  (nat_lit 136, cO "depth" "Term.depth" 339 62 1 133 .none .none 135 343) ::
  (nat_lit 137, fQ "depth" "Term.depth" (sub 12 6) .none "planwell.terms" 278 136) ::
  (nat_lit 138, tO []) ::
  (nat_lit 139, dO 4 P [("__module__", 287, (.str "planwell.terms" 278)), ("__firstlineno__", 291, (.int 39 290)), ("parts", 298, (.ref 97)), ("told", 305, (.ref 104)), ("shown", 312, (.ref 111)), ("put", 321, (.ref 118)), ("laid", 329, (.ref 125)), ("entries", 338, (.ref 132)), ("depth", 344, (.ref 137)), ("__static_attributes__", 345, (.ref 138)), ("__dict__", 347, (.ref 141)), ("__weakref__", 349, (.ref 142)), ("__doc__", 350, .none)]) ::
  (nat_lit 140, ({ cls := Value.type "type", data := Data.cls { name := Str.ofString "Term", bases := [Value.type "object"], mro := [Value.ref 140, Value.type "object"], ns := 139, qualname := Str.ofString "Term", subclasses := [Value.ref 189, Value.ref 241, Value.ref 295, Value.ref 335, Value.ref 488] }, slots := #[none, none, some (Value.str (Str.ofString "Term") 280), some (Value.str (Str.ofString "Term") 288), some (Value.builtin "object.__new__"), some (Value.bool Bool.true)] } : Obj)) ::
  (nat_lit 141, ({ cls := Value.type "getset_descriptor", data := Data.fields #[Value.str (Str.ofString "__dict__") 346, Value.ref 140, Value.builtin "function.__dict__", Value.builtin "function.__dict__#set"] } : Obj)) ::
  (nat_lit 142, ({ cls := Value.type "getset_descriptor", data := Data.fields #[Value.str (Str.ofString "__weakref__") 348, Value.ref 140, Value.builtin "ExceptionGroup.__weakref__", Value.none] } : Obj)) ::
  (nat_lit 157, cO "__init__" "Number.__init__" 365 66 2 152 (.ref 154) (.ref 155) 156 371) ::
  (nat_lit 158, fQ "__init__" "Number.__init__" (sub 13 0) .none "planwell.terms" 278 157) ::
  (nat_lit 164, cO "told" "Number.told" 373 69 1 159 (.ref 161) (.ref 162) 163 378) ::
  (nat_lit 165, fQ "told" "Number.told" (sub 13 1) .none "planwell.terms" 278 164) ::
  (nat_lit 171, cO "shown" "Number.shown" 380 72 1 166 (.ref 168) (.ref 169) 170 386) ::
  (nat_lit 172, fQ "shown" "Number.shown" (sub 13 2) .none "planwell.terms" 278 171) ::
  (nat_lit 178, cO "put" "Number.put" 388 78 3 173 (.ref 175) (.ref 176) 177 395) ::
  (nat_lit 179, fQ "put" "Number.put" (sub 13 3) .none "planwell.terms" 278 178) ::
  (nat_lit 185, cO "laid" "Number.laid" 397 81 2 180 (.ref 182) (.ref 183) 184 403) ::
  (nat_lit 186, fQ "laid" "Number.laid" (sub 13 4) .none "planwell.terms" 278 185) ::
  (nat_lit 187, tO [(.str "worth" 405)]) ::
  (nat_lit 188, dO 2 P [("__module__", 360, (.str "planwell.terms" 278)), ("__firstlineno__", 364, (.int 64 363)), ("__init__", 372, (.ref 158)), ("told", 379, (.ref 165)), ("shown", 387, (.ref 172)), ("put", 396, (.ref 179)), ("laid", 404, (.ref 186)), ("__static_attributes__", 406, (.ref 187)), ("__doc__", 407, .none)]) ::
  (nat_lit 189, ({ cls := Value.type "type", data := Data.cls { name := Str.ofString "Number", bases := [Value.ref 140], mro := [Value.ref 189, Value.ref 140, Value.type "object"], ns := 188, qualname := Str.ofString "Number" }, slots := #[some (Value.ref 145), none, some (Value.str (Str.ofString "Number") 353), some (Value.str (Str.ofString "Number") 361), some (Value.builtin "object.__new__"), some (Value.bool Bool.true)] } : Obj)) ::
  (nat_lit 204, cO "__init__" "Entry.__init__" 422 85 3 199 (.ref 201) (.ref 202) 203 429) ::
  (nat_lit 205, fQ "__init__" "Entry.__init__" (sub 14 0) .none "planwell.terms" 278 204) ::
  (nat_lit 211, cO "told" "Entry.told" 431 89 1 206 (.ref 208) (.ref 209) 210 436) ::
  (nat_lit 212, fQ "told" "Entry.told" (sub 14 1) .none "planwell.terms" 278 211) ::
  (nat_lit 218, cO "shown" "Entry.shown" 438 92 1 213 (.ref 215) (.ref 216) 217 445) ::
  (nat_lit 219, fQ "shown" "Entry.shown" (sub 14 2) .none "planwell.terms" 278 218) ::
  (nat_lit 223, cO "put" "Entry.put" 447 99 3 220 .none .none 222 451) ::
  (nat_lit 224, fQ "put" "Entry.put" (sub 14 3) .none "planwell.terms" 278 223) ::
  (nat_lit 230, cO "laid" "Entry.laid" 453 102 2 225 (.ref 227) (.ref 228) 229 459) ::
  (nat_lit 231, fQ "laid" "Entry.laid" (sub 14 4) .none "planwell.terms" 278 230) ::
  (nat_lit 237, cO "entries" "Entry.entries" 461 105 1 232 (.ref 234) (.ref 235) 236 466) ::
  (nat_lit 238, fQ "entries" "Entry.entries" (sub 14 5) .none "planwell.terms" 278 237) ::
  (nat_lit 239, tO [(.str "name" 468), (.str "places" 469)]) ::
  (nat_lit 240, dO 2 P [("__module__", 417, (.str "planwell.terms" 278)), ("__firstlineno__", 421, (.int 83 420)), ("__init__", 430, (.ref 205)), ("told", 437, (.ref 212)), ("shown", 446, (.ref 219)), ("put", 452, (.ref 224)), ("laid", 460, (.ref 231)), ("entries", 467, (.ref 238)), ("__static_attributes__", 470, (.ref 239)), ("__doc__", 471, .none)]) ::
  (nat_lit 241, ({ cls := Value.type "type", data := Data.cls { name := Str.ofString "Entry", bases := [Value.ref 140], mro := [Value.ref 241, Value.ref 140, Value.type "object"], ns := 240, qualname := Str.ofString "Entry" }, slots := #[some (Value.ref 192), none, some (Value.str (Str.ofString "Entry") 410), some (Value.str (Str.ofString "Entry") 418), some (Value.builtin "object.__new__"), some (Value.bool Bool.true)] } : Obj)) ::
  (nat_lit 256, cO "__init__" "Negative.__init__" 486 109 2 251 (.ref 253) (.ref 254) 255 492) ::
  (nat_lit 257, fQ "__init__" "Negative.__init__" (sub 15 0) .none "planwell.terms" 278 256) ::
  (nat_lit 263, cO "parts" "Negative.parts" 494 112 1 258 (.ref 260) (.ref 261) 262 499) ::
  (nat_lit 264, fQ "parts" "Negative.parts" (sub 15 1) .none "planwell.terms" 278 263) ::
  (nat_lit 270, cO "told" "Negative.told" 501 115 1 265 (.ref 267) (.ref 268) 269 506) ::
  (nat_lit 271, fQ "told" "Negative.told" (sub 15 2) .none "planwell.terms" 278 270) ::
  (nat_lit 277, cO "shown" "Negative.shown" 508 118 1 272 (.ref 274) (.ref 275) 276 514) ::
  (nat_lit 278, fQ "shown" "Negative.shown" (sub 15 3) .none "planwell.terms" 278 277) ::
  (nat_lit 284, cO "put" "Negative.put" 516 122 3 279 (.ref 281) (.ref 282) 283 523) ::
  (nat_lit 285, fQ "put" "Negative.put" (sub 15 4) .none "planwell.terms" 278 284) ::
  (nat_lit 291, cO "laid" "Negative.laid" 525 125 2 286 (.ref 288) (.ref 289) 290 531) ::
  (nat_lit 292, fQ "laid" "Negative.laid" (sub 15 5) .none "planwell.terms" 278 291) ::
  (nat_lit 293, tO [(.str "one" 533)]) ::
  (nat_lit 294, dO 2 P [("__module__", 481, (.str "planwell.terms" 278)), ("__firstlineno__", 485, (.int 107 484)), ("__init__", 493, (.ref 257)), ("parts", 500, (.ref 264)), ("told", 507, (.ref 271)), ("shown", 515, (.ref 278)), ("put", 524, (.ref 285)), ("laid", 532, (.ref 292)), ("__static_attributes__", 534, (.ref 293)), ("__doc__", 535, .none)]) ::
  (nat_lit 295, ({ cls := Value.type "type", data := Data.cls { name := Str.ofString "Negative", bases := [Value.ref 140], mro := [Value.ref 295, Value.ref 140, Value.type "object"], ns := 294, qualname := Str.ofString "Negative" }, slots := #[some (Value.ref 244), none, some (Value.str (Str.ofString "Negative") 474), some (Value.str (Str.ofString "Negative") 482), some (Value.builtin "object.__new__"), some (Value.bool Bool.true)] } : Obj)) ::
  (nat_lit 310, cO "__init__" "Joined.__init__" 550 129 5 305 (.ref 307) (.ref 308) 309 559) ::
  (nat_lit 311, fQ "__init__" "Joined.__init__" (sub 16 0) .none "planwell.terms" 278 310) ::
  (nat_lit 317, cO "parts" "Joined.parts" 561 135 1 312 (.ref 314) (.ref 315) 316 566) ::
  (nat_lit 318, fQ "parts" "Joined.parts" (sub 16 1) .none "planwell.terms" 278 317) ::
  (nat_lit 324, cO "told" "Joined.told" 568 138 1 319 (.ref 321) (.ref 322) 323 573) ::
  (nat_lit 325, fQ "told" "Joined.told" (sub 16 2) .none "planwell.terms" 278 324) ::
  (nat_lit 331, cO "shown" "Joined.shown" 575 141 1 326 (.ref 328) (.ref 329) 330 583) ::
  (nat_lit 332, fQ "shown" "Joined.shown" (sub 16 3) .none "planwell.terms" 278 331) ::
  (nat_lit 333, tO [(.str "mark" 585), (.str "one" 586), (.str "other" 587), (.str "word" 588)]) ::
  (nat_lit 334, dO 2 P [("__module__", 545, (.str "planwell.terms" 278)), ("__firstlineno__", 549, (.int 127 548)), ("__init__", 560, (.ref 311)), ("parts", 567, (.ref 318)), ("told", 574, (.ref 325)), ("shown", 584, (.ref 332)), ("__static_attributes__", 589, (.ref 333)), ("__doc__", 590, .none)]) ::
  (nat_lit 335, ({ cls := Value.type "type", data := Data.cls { name := Str.ofString "Joined", bases := [Value.ref 140], mro := [Value.ref 335, Value.ref 140, Value.type "object"], ns := 334, qualname := Str.ofString "Joined", subclasses := [Value.ref 368, Value.ref 401, Value.ref 434] }, slots := #[some (Value.ref 298), none, some (Value.str (Str.ofString "Joined") 538), some (Value.str (Str.ofString "Joined") 546), some (Value.builtin "object.__new__"), some (Value.bool Bool.true)] } : Obj)) ::
  (nat_lit 350, cO "__init__" "Plus.__init__" 605 148 3 345 (.ref 347) (.ref 348) 349 612) ::
  (nat_lit 351, fQ "__init__" "Plus.__init__" (sub 17 0) .none "planwell.terms" 278 350) ::
  (nat_lit 357, cO "put" "Plus.put" 614 151 3 352 (.ref 354) (.ref 355) 356 621) ::
  (nat_lit 358, fQ "put" "Plus.put" (sub 17 1) .none "planwell.terms" 278 357) ::
  (nat_lit 364, cO "laid" "Plus.laid" 623 154 2 359 (.ref 361) (.ref 362) 363 629) ::
  (nat_lit 365, fQ "laid" "Plus.laid" (sub 17 2) .none "planwell.terms" 278 364) ::
  (nat_lit 366, tO []) ::
  (nat_lit 367, dO 2 P [("__module__", 600, (.str "planwell.terms" 278)), ("__firstlineno__", 604, (.int 146 603)), ("__init__", 613, (.ref 351)), ("put", 622, (.ref 358)), ("laid", 630, (.ref 365)), ("__static_attributes__", 631, (.ref 366)), ("__doc__", 632, .none)]) ::
  (nat_lit 368, ({ cls := Value.type "type", data := Data.cls { name := Str.ofString "Plus", bases := [Value.ref 335], mro := [Value.ref 368, Value.ref 335, Value.ref 140, Value.type "object"], ns := 367, qualname := Str.ofString "Plus" }, slots := #[some (Value.ref 338), none, some (Value.str (Str.ofString "Plus") 593), some (Value.str (Str.ofString "Plus") 601), some (Value.builtin "object.__new__"), some (Value.bool Bool.true)] } : Obj)) ::
  (nat_lit 383, cO "__init__" "Minus.__init__" 647 158 3 378 (.ref 380) (.ref 381) 382 654) ::
  (nat_lit 384, fQ "__init__" "Minus.__init__" (sub 18 0) .none "planwell.terms" 278 383) ::
  (nat_lit 390, cO "put" "Minus.put" 656 161 3 385 (.ref 387) (.ref 388) 389 663) ::
  (nat_lit 391, fQ "put" "Minus.put" (sub 18 1) .none "planwell.terms" 278 390) ::
  (nat_lit 397, cO "laid" "Minus.laid" 665 164 2 392 (.ref 394) (.ref 395) 396 671) ::
  (nat_lit 398, fQ "laid" "Minus.laid" (sub 18 2) .none "planwell.terms" 278 397) ::
  (nat_lit 399, tO []) ::
  (nat_lit 400, dO 2 P [("__module__", 642, (.str "planwell.terms" 278)), ("__firstlineno__", 646, (.int 156 645)), ("__init__", 655, (.ref 384)), ("put", 664, (.ref 391)), ("laid", 672, (.ref 398)), ("__static_attributes__", 673, (.ref 399)), ("__doc__", 674, .none)]) ::
  (nat_lit 401, ({ cls := Value.type "type", data := Data.cls { name := Str.ofString "Minus", bases := [Value.ref 335], mro := [Value.ref 401, Value.ref 335, Value.ref 140, Value.type "object"], ns := 400, qualname := Str.ofString "Minus" }, slots := #[some (Value.ref 371), none, some (Value.str (Str.ofString "Minus") 635), some (Value.str (Str.ofString "Minus") 643), some (Value.builtin "object.__new__"), some (Value.bool Bool.true)] } : Obj)) ::
  (nat_lit 416, cO "__init__" "Times.__init__" 689 168 3 411 (.ref 413) (.ref 414) 415 696) ::
  (nat_lit 417, fQ "__init__" "Times.__init__" (sub 19 0) .none "planwell.terms" 278 416) ::
  (nat_lit 423, cO "put" "Times.put" 698 171 3 418 (.ref 420) (.ref 421) 422 705) ::
  (nat_lit 424, fQ "put" "Times.put" (sub 19 1) .none "planwell.terms" 278 423) ::
  (nat_lit 430, cO "laid" "Times.laid" 707 174 2 425 (.ref 427) (.ref 428) 429 713) ::
  (nat_lit 431, fQ "laid" "Times.laid" (sub 19 2) .none "planwell.terms" 278 430) ::
  (nat_lit 432, tO []) ::
  (nat_lit 433, dO 2 P [("__module__", 684, (.str "planwell.terms" 278)), ("__firstlineno__", 688, (.int 166 687)), ("__init__", 697, (.ref 417)), ("put", 706, (.ref 424)), ("laid", 714, (.ref 431)), ("__static_attributes__", 715, (.ref 432)), ("__doc__", 716, .none)]) ::
  (nat_lit 434, ({ cls := Value.type "type", data := Data.cls { name := Str.ofString "Times", bases := [Value.ref 335], mro := [Value.ref 434, Value.ref 335, Value.ref 140, Value.type "object"], ns := 433, qualname := Str.ofString "Times" }, slots := #[some (Value.ref 404), none, some (Value.str (Str.ofString "Times") 677), some (Value.str (Str.ofString "Times") 685), some (Value.builtin "object.__new__"), some (Value.bool Bool.true)] } : Obj)) ::
  (nat_lit 449, cO "__init__" "Sum.__init__" 731 178 4 444 (.ref 446) (.ref 447) 448 739) ::
  (nat_lit 450, fQ "__init__" "Sum.__init__" (sub 20 0) .none "planwell.terms" 278 449) ::
  (nat_lit 456, cO "parts" "Sum.parts" 741 183 1 451 (.ref 453) (.ref 454) 455 746) ::
  (nat_lit 457, fQ "parts" "Sum.parts" (sub 20 1) .none "planwell.terms" 278 456) ::
  (nat_lit 463, cO "told" "Sum.told" 748 186 1 458 (.ref 460) (.ref 461) 462 753) ::
  (nat_lit 464, fQ "told" "Sum.told" (sub 20 2) .none "planwell.terms" 278 463) ::
  (nat_lit 470, cO "shown" "Sum.shown" 755 189 1 465 (.ref 467) (.ref 468) 469 763) ::
  (nat_lit 471, fQ "shown" "Sum.shown" (sub 20 3) .none "planwell.terms" 278 470) ::
  (nat_lit 477, cO "put" "Sum.put" 765 195 3 472 (.ref 474) (.ref 475) 476 772) ::
  (nat_lit 478, fQ "put" "Sum.put" (sub 20 4) .none "planwell.terms" 278 477) ::
  (nat_lit 484, cO "laid" "Sum.laid" 774 200 2 479 (.ref 481) (.ref 482) 483 780) ::
  (nat_lit 485, fQ "laid" "Sum.laid" (sub 20 5) .none "planwell.terms" 278 484) ::
  (nat_lit 486, tO [(.str "binder" 782), (.str "group" 783), (.str "one" 784)]) ::
  (nat_lit 487, dO 2 P [("__module__", 726, (.str "planwell.terms" 278)), ("__firstlineno__", 730, (.int 176 729)), ("__init__", 740, (.ref 450)), ("parts", 747, (.ref 457)), ("told", 754, (.ref 464)), ("shown", 764, (.ref 471)), ("put", 773, (.ref 478)), ("laid", 781, (.ref 485)), ("__static_attributes__", 785, (.ref 486)), ("__doc__", 786, .none)]) ::
  (nat_lit 488, ({ cls := Value.type "type", data := Data.cls { name := Str.ofString "Sum", bases := [Value.ref 140], mro := [Value.ref 488, Value.ref 140, Value.type "object"], ns := 487, qualname := Str.ofString "Sum" }, slots := #[some (Value.ref 437), none, some (Value.str (Str.ofString "Sum") 719), some (Value.str (Str.ofString "Sum") 727), some (Value.builtin "object.__new__"), some (Value.bool Bool.true)] } : Obj)) ::
  (nat_lit 496, cO "_law_at" "_law_at" 791 203 2 491 (.ref 493) (.ref 494) 495 797) ::
  (nat_lit 497, fQ "_law_at" "_law_at" (tp 22) .none "law_planwell_k06_terms_by_classes" 789 496) ::
  (nat_lit 503, cO "_law_mixed" "_law_mixed" 799 207 2 498 (.ref 500) (.ref 501) 502 806) ::
  (nat_lit 504, fQ "_law_mixed" "_law_mixed" (tp 23) .none "law_planwell_k06_terms_by_classes" 789 503) ::
  (nat_lit 510, cO "_law_reserved" "_law_reserved" 808 210 0 505 (.ref 507) (.ref 508) 509 813) ::
  (nat_lit 511, fQ "_law_reserved" "_law_reserved" (tp 24) .none "law_planwell_k06_terms_by_classes" 789 510) ::
  (nat_lit 515, cO "_law_pool" "_law_pool" 815 213 1 512 .none .none 514 819) ::
  (nat_lit 516, fQ "_law_pool" "_law_pool" (tp 25) .none "law_planwell_k06_terms_by_classes" 789 515) ::
  (nat_lit 522, cO "_law_fraction" "_law_fraction" 821 223 1 517 (.ref 519) (.ref 520) 521 830) ::
  (nat_lit 523, fQ "_law_fraction" "_law_fraction" (tp 26) .none "law_planwell_k06_terms_by_classes" 789 522) ::
  (nat_lit 527, cO "_law_tree" "_law_tree" 832 230 4 524 .none .none 526 836) ::
  (nat_lit 528, fQ "_law_tree" "_law_tree" (tp 27) .none "law_planwell_k06_terms_by_classes" 789 527) ::
  (nat_lit 534, cO "_law_less" "_law_less" 838 244 2 529 (.ref 531) (.ref 532) 533 847) ::
  (nat_lit 535, fQ "_law_less" "_law_less" (tp 28) .none "law_planwell_k06_terms_by_classes" 789 534) ::
  (nat_lit 541, cO "_law_made" "_law_made" 849 253 1 536 (.ref 538) (.ref 539) 540 856) ::
  (nat_lit 542, fQ "_law_made" "_law_made" (tp 29) .none "law_planwell_k06_terms_by_classes" 789 541) ::
  (nat_lit 546, cO "_law_parts" "_law_parts" 858 267 1 543 .none .none 545 862) ::
  (nat_lit 547, fQ "_law_parts" "_law_parts" (tp 30) .none "law_planwell_k06_terms_by_classes" 789 546) ::
  (nat_lit 553, cO "_law_number_text" "_law_number_text" 864 271 1 548 (.ref 550) (.ref 551) 552 870) ::
  (nat_lit 554, fQ "_law_number_text" "_law_number_text" (tp 31) .none "law_planwell_k06_terms_by_classes" 789 553) ::
  (nat_lit 558, cO "_law_shown" "_law_shown" 872 274 1 555 .none .none 557 876) ::
  (nat_lit 559, fQ "_law_shown" "_law_shown" (tp 32) .none "law_planwell_k06_terms_by_classes" 789 558) ::
  (nat_lit 563, cO "_law_put" "_law_put" 878 285 3 560 .none .none 562 882) ::
  (nat_lit 564, fQ "_law_put" "_law_put" (tp 33) .none "law_planwell_k06_terms_by_classes" 789 563) ::
  (nat_lit 570, cO "_law_entries" "_law_entries" 884 293 1 565 (.ref 567) (.ref 568) 569 891) ::
  (nat_lit 571, fQ "_law_entries" "_law_entries" (tp 34) .none "law_planwell_k06_terms_by_classes" 789 570) ::
  (nat_lit 575, cO "_law_depth" "_law_depth" 893 300 1 572 .none .none 574 897) ::
  (nat_lit 576, fQ "_law_depth" "_law_depth" (tp 35) .none "law_planwell_k06_terms_by_classes" 789 575) ::
  (nat_lit 582, cO "_law_good" "_law_good" 899 302 2 577 (.ref 579) (.ref 580) 581 906) ::
  (nat_lit 583, fQ "_law_good" "_law_good" (tp 36) .none "law_planwell_k06_terms_by_classes" 789 582) ::
  (nat_lit 589, cO "law" "law" 908 312 1 584 (.ref 586) (.ref 587) 588 924) ::
  (nat_lit 590, fQ "law" "law" (tp 37) .none "law_planwell_k06_terms_by_classes" 789 589) ::
  []
def posOf (s : Stmt) : Pos := match s with | .FunctionDef _ _ _ _ _ _ _ _ _ p => p | _ => ⟨0, 0, 0, 0⟩
def KA : List Addr := [2, 3, 4, 6, 20, 21, 29, 30, 31, 32, 42, 43, 44, 47, 53, 54, 55, 61, 62, 68, 69, 75, 76, 82, 83, 96, 97, 103, 104, 110, 111, 117, 118, 124, 125, 131, 132, 136, 137, 138, 139, 140, 141, 142, 157, 158, 164, 165, 171, 172, 178, 179, 185, 186, 187, 188, 189, 204, 205, 211, 212, 218, 219, 223, 224, 230, 231, 237, 238, 239, 240, 241, 256, 257, 263, 264, 270, 271, 277, 278, 284, 285, 291, 292, 293, 294, 295, 310, 311, 317, 318, 324, 325, 331, 332, 333, 334, 335, 350, 351, 357, 358, 364, 365, 366, 367, 368, 383, 384, 390, 391, 397, 398, 399, 400, 401, 416, 417, 423, 424, 430, 431, 432, 433, 434, 449, 450, 456, 457, 463, 464, 470, 471, 477, 478, 484, 485, 486, 487, 488, 496, 497, 503, 504, 510, 511, 515, 516, 522, 523, 527, 528, 534, 535, 541, 542, 546, 547, 553, 554, 558, 559, 563, 564, 570, 571, 575, 576, 582, 583, 589, 590]
def qView : Program := PySem.W.view PySem.Challenge.pw_planwell_k06_terms_by_classes [0, 2, 3, 5, 6, 8, 9, 10, 12, 13, 14, 15, 16, 17, 18, 19, 20, 22, 23, 24, 25, 26, 27, 28, 29, 30, 31, 32, 33, 34, 35, 36, 37]
end Pw
section
open PySem PySem.W PyProof.Rows
theorem Pw.left : LeftO PySem.Challenge.pw_planwell_k06_terms_by_classes Pw.qView ["fraction"] (fun s => xlAt Pw.qView [] s && recOk [] s) (fun s => Pw.KA.map s.heap.get?) (fun w => (Pw.KP w.params).map fun p => some p.2) 8968 :=
  L2.leftT (by kernel_rfl) (by kernel_rfl) (fun _ => by kernel_rfl) fun w os => by kernel_rfl
end
-- CHANGE: your row's module here, as the last of these rows
set_option Elab.async false
set_option linter.all false
set_option maxRecDepth 100000
namespace L2
open PySem PySem.Spec PyProof.Rows
abbrev Key := Sum Int Str
def keyIs : Key -> Value -> Bool
  | .inl k, v => Value.isInt k v
  | .inr x, v => Value.isStrOf x v
def keyH (w : World) : Key -> Int
  | .inl k => hashInt k
  | .inr x => hashStr w x
theorem keyIs_shape : ∀ {k : Key} {v : Value}, keyIs k v = true -> (∃ i t, k = Sum.inl i /\ v = Value.int i t) ∨ (∃ x t, k = Sum.inr x /\ v = Value.str x t)
  | .inl i, v, h => by
    obtain ⟨t, e⟩ := Value.isInt_shape (k := i) (v := v) h
    exact .inl ⟨i, t, rfl, e⟩
  | .inr x, v, h => by
    obtain ⟨t, e⟩ := Value.isStrOf_shape (x := x) (v := v) h
    exact .inr ⟨x, t, rfl, e⟩
theorem keyIs_int (i : Int) (t : Tok) : keyIs (.inl i) (.int i t) = true := by simp [keyIs, Value.isInt]
theorem keyIs_str (x : Str) (t : Tok) : keyIs (.inr x) (.str x t) = true := by simp [keyIs, Value.isStrOf]
theorem key_ll (a b : Int) : decide ((Sum.inl a : Key) = Sum.inl b) = (a == b) := by
  by_cases e : a = b
  · subst e; simp
  · have h : ¬ (Sum.inl a : Key) = Sum.inl b := fun q => e (Sum.inl.inj q)
    rw [decide_eq_false h]
    exact (beq_eq_false_iff_ne.mpr e).symm
theorem key_rr (a b : Str) : decide ((Sum.inr a : Key) = Sum.inr b) = decide (a = b) := by
  by_cases e : a = b
  · subst e; simp
  · have h : ¬ (Sum.inr a : Key) = Sum.inr b := fun q => e (Sum.inr.inj q)
    rw [decide_eq_false h, decide_eq_false e]
theorem key_lr (a : Int) (b : Str) : decide ((Sum.inl a : Key) = Sum.inr b) = false := decide_eq_false (fun q => nomatch q)
theorem key_rl (a : Str) (b : Int) : decide ((Sum.inr a : Key) = Sum.inl b) = false := decide_eq_false (fun q => nomatch q)
def mixKind (prog : Program) (w : World) : PySem.KeyKind prog w Key where
  is := keyIs
  hash := keyH w
  inj := fun v a b ha hb => by
    rcases keyIs_shape ha with ⟨i, t, rfl, rfl⟩ | ⟨x, t, rfl, rfl⟩
    · rcases keyIs_shape hb with ⟨j, u, rfl, e⟩ | ⟨y, u, rfl, e⟩
      · injection e with e1 _; rw [e1]
      · exact nomatch e
    · rcases keyIs_shape hb with ⟨j, u, rfl, e⟩ | ⟨y, u, rfl, e⟩
      · exact nomatch e
      · injection e with e1 _; rw [e1]
  byValue := fun k v h => by
    rcases keyIs_shape h with ⟨i, t, rfl, rfl⟩ | ⟨x, t, rfl, rfl⟩ <;> rfl
  pyHash := fun hv h => by
    rcases keyIs_shape hv with ⟨i, t, rfl, rfl⟩ | ⟨x, t, rfl, rfl⟩
    · exact wpAny_pyHash_int h
    · exact wpAny_pyHash_str h
  eqBool := fun hu hv h => by
    rcases keyIs_shape hu with ⟨i, t, rfl, rfl⟩ | ⟨x, t, rfl, rfl⟩
    · rcases keyIs_shape hv with ⟨j, u, rfl, rfl⟩ | ⟨y, u, rfl, rfl⟩
      · rw [key_ll] at h; exact wpAny_eqBool_int h
      · rw [key_lr] at h; exact SeqAt.EqAt.int_str i t y u _ _ _ _ h
    · rcases keyIs_shape hv with ⟨j, u, rfl, rfl⟩ | ⟨y, u, rfl, rfl⟩
      · rw [key_rl] at h; exact SeqAt.EqAt.str_int x t j u _ _ _ _ h
      · rw [key_rr] at h; exact wpAny_eqBool_str h
  «strs» := fun k x t v h => by
    rcases keyIs_shape h with ⟨i, u, rfl, e⟩ | ⟨y, u, rfl, e⟩
    · exact nomatch e
    · injection e with e1 _
      subst e1
      cases v <;> rfl
theorem mixKind_int (prog : Program) (w : World) (i : Int) (t : Tok) : (mixKind prog w).is (.inl i) (.int i t) = true := keyIs_int i t
theorem mixKind_str (prog : Program) (w : World) (x : Str) (t : Tok) : (mixKind prog w).is (.inr x) (.str x t) = true := keyIs_str x t
end L2
namespace L2
open PySem PySem.Spec PyProof.Rows
inductive V where
  | non | bl (b : Bool) | int (i : Int) | str (x : Str) | byt (b : Array UInt8) | flt (b : UInt64) | ref (a : Addr) | ty (n : String)
  deriving DecidableEq
def RelV : V -> Value -> Prop
  | .non, u => u = Value.none
  | .bl b, u => u = Value.bool b
  | .int i, u => ∃ t, u = Value.int i t
  | .str x, u => ∃ t, u = Value.str x t
  | .byt b, u => ∃ t, u = Value.bytes b t
  | .flt b, u => ∃ t, u = Value.float b t
  | .ref a, u => u = Value.ref a
  | .ty n, u => u = Value.type n
abbrev Vals : List V -> List Value -> Prop := Paired RelV
theorem Vals.length {xs : List V} {us : List Value} (r : Vals xs us) : xs.length = us.length := Paired.length r
theorem Vals.get : ∀ {xs : List V} {us : List Value} {i : Nat} {x : V}, Vals xs us -> xs[i]? = some x -> ∃ u, us[i]? = some u /\ RelV x u
  | _, _, _, _, .nil, e => by simp at e
  | _, _, 0, _, .cons r _, e => by simp at e; subst e; exact ⟨_, rfl, r⟩
  | _, _, i + 1, x, .cons _ t, e => by
    obtain ⟨u, h1, h2⟩ := Vals.get (i := i) (x := x) t (by simpa using e)
    exact ⟨u, by simpa using h1, h2⟩
theorem Vals.append : ∀ {xs ys : List V} {us ws : List Value}, Vals xs us -> Vals ys ws -> Vals (xs ++ ys) (us ++ ws)
  | _, _, _, _, .nil, s => s
  | _, _, _, _, .cons r t, s => .cons r (Vals.append t s)
theorem Vals.take : ∀ {xs : List V} {us : List Value} (n : Nat), Vals xs us -> Vals (xs.take n) (us.take n)
  | _, _, 0, _ => .nil
  | _, _, _ + 1, .nil => .nil
  | _, _, n + 1, .cons r t => .cons r (Vals.take n t)
theorem Vals.drop : ∀ {xs : List V} {us : List Value} (n : Nat), Vals xs us -> Vals (xs.drop n) (us.drop n)
  | _, _, 0, r => r
  | _, _, _ + 1, .nil => .nil
  | _, _, n + 1, .cons _ t => Vals.drop n t
def RelO : Option V -> Option Value -> Prop
  | some v, some u => RelV v u
  | none, none => True
  | _, _ => False
def KV {κ : Type} : List (κ × V) -> List (κ × Value) -> Prop := Paired fun (p : κ × V) (q : κ × Value) => p.1 = q.1 /\ RelV p.2 q.2
def kV : Key -> V
  | .inl i => .int i
  | .inr x => .str x
def IsTupN (h : Heap) (a : Addr) (items : Array Value) : Prop := ∃ o, h.get? a = some o /\ (o.cls = .type "tuple" /\ o.dict = none) /\ ∃ n, o.data = .seq items n
theorem IsTupN.tup {h : Heap} {a : Addr} {items : Array Value} (x : IsTupN h a items) : IsTup h a items := let ⟨o, e, c, r⟩ := x; ⟨o, e, c.1, r⟩
theorem IsTupN.lt {h : Heap} {a : Addr} {items : Array Value} (x : IsTupN h a items) : a < h.objs.size := x.tup.lt
theorem IsTupN.new (h : Heap) (items : Array Value) : IsTupN (h.push { cls := .type "tuple", data := .seq items }) h.objs.size items := ⟨_, Heap.get?_push_size _ rfl, ⟨rfl, rfl⟩, _, rfl⟩
inductive HO where
  /-- a list -/
  | lst (xs : List V)
  /-- a tuple (never changes) -/
  | tup (xs : List V)
  /-- a dict whose keys are ints and texts; one whose keys are tuples of ints and texts (the empty one is both) -/
  | dK (kvs : List (Key × V)) | dT (kvs : List (List Key × V))
  /-- a set of ints: its members, its size -/
  | set (S : Int -> Bool) (n : Nat)
  /-- an instance of the class at C, its dict at dx, its attributes -/
  | ins (C dx : Addr) (fs : List (Str × V))
  /-- the dict of the instance at x -/
  | own (x : Addr)
  /-- the dict of an exception -/
  | xd (fs : List (Str × V))
  /-- a bound method, f of x -/
  | met (f x : Addr)
  /-- a range object lo, lo + 1, .. below hi -/
  | rng (lo hi : Int)
  /-- a thing that is known to the object (the script; a dict while a loop walks it): read, never written while it is so -/
  | frz (o : Obj) (u : HO)
  /-- a code object's table -/
  | tbl (ps : Array Value)
  /-- any other thing, by what is true of its one object (a def of one's own: SetO a S n := HO.ext fun h => ..) -/
  | ext (φ : Heap -> Prop)
abbrev Hp := Addr -> Option HO
def upd (H : Hp) (a : Addr) (o : HO) : Hp := fun b => if b = a then some o else H b
theorem upd_same {H : Hp} {a : Addr} {o : HO} : upd H a o a = some o := by unfold upd; rw [if_pos rfl]
theorem upd_ne {H : Hp} {a b : Addr} {o : HO} (h : b ≠ a) : upd H a o b = H b := by unfold upd; rw [if_neg h]
theorem upd_upd {H : Hp} {a : Addr} {o u : HO} : upd (upd H a o) a u = upd H a u := by
  funext b; unfold upd; split <;> rfl
theorem ne_of_none {H : Hp} {a b : Addr} {o : HO} (h : H a = some o) (h' : H b = none) : a ≠ b := by
  intro e; subst e; rw [h] at h'; cases h'
section
variable (P : Program) (w : World)
def ObjOk (H : Hp) (h : Heap) (a : Addr) : HO -> Prop
  | .lst xs => xs.length <= sizeLine /\ ∃ (its : List Value) (n : Nat), Vals xs its /\ h.get? a = some { cls := .type "list", data := .seq its.toArray n }
  | .tup xs => xs.length <= sizeLine /\ ∃ its : List Value, Vals xs its /\ IsTupN h a its.toArray
  | .dK kvs => kvs.length <= sizeLine /\ (a == sysModules) = false /\ ∃ vs, KV kvs vs /\ h.DictOf (mixKind P w) a vs
  | .dT kvs => kvs.length <= sizeLine /\ (a == sysModules) = false /\ ∃ xs : List (List Key × Addr × Value),
      Paired (fun (p : List Key × V) (q : List Key × Addr × Value) => p.1 = q.1 /\ H q.2.1 = some (.tup (p.1.map kV)) /\ RelV p.2 q.2.2) kvs xs /\
      ∃ o es ep, h.get? a = some o /\ o.ExactDict /\ o.data = .dict es ep /\ es.toList = xs.map (entryOfKey (tupleKind (mixKind P w))) /\ (xs.map (·.1)).Nodup
  | .set S n => h.SetOf (intKind P w) a S n
  | .ins C dx fs => H dx = some (.own a) /\ fs.length <= 1000 /\ dx ≠ a /\ h.get? a = some (PySem.W.instObj C dx) /\
      ∃ mA, h.Ns1 dx mA /\ (∀ f, RelO (fs.lookup f) (mA f)) /\ PySem.Within mA (fs.map (·.1))
  | .own _ => ∃ o, h.get? a = some o
  | .xd fs => ∃ mA, h.Ns1 a mA /\ ∀ f, RelO (fs.lookup f) (mA f)
  | .rng lo hi => ∃ t u v, h.get? a = some { cls := .type "range", data := .fields #[.int lo t, .int hi u, .int 1 v] }
  | .frz o u => h.get? a = some o /\ ObjOk H h a u
  | .tbl ps => h.get? a = some { cls := .none, data := .fields ps }
  | .met f x => h.get? a = some (PySem.W.methodObj (.ref f) (.ref x))
  | .ext φ => φ h /\ (∃ o, h.get? a = some o) /\ ∀ h1 h2 : Heap, φ h1 -> (∀ o, h1.get? a = some o -> h2.get? a = some o) -> φ h2
def HOk (H : Hp) (h : Heap) : Prop := ∀ a o, H a = some o -> ObjOk P w H h a o
end
section
variable {P : Program} {w : World} {H H' : Hp} {h h' : Heap} {a : Addr} {o : HO}
theorem ObjOk.lt (x : ObjOk P w H h a o) : a < h.objs.size := by
  cases o with
  | lst xs => obtain ⟨_, _, _, _, e⟩ := x; exact Heap.lt_size e
  | tup xs => obtain ⟨_, _, _, p⟩ := x; exact p.lt
  | dK kvs => obtain ⟨_, _, _, _, o, _, _, e, _⟩ := x; exact Heap.lt_size e
  | dT kvs => obtain ⟨_, _, _, _, o, _, _, e, _⟩ := x; exact Heap.lt_size e
  | set S n => obtain ⟨o, _, _, _, e, _⟩ := x; exact Heap.lt_size e
  | ins C dx fs => obtain ⟨_, _, _, e, _⟩ := x; exact Heap.lt_size e
  | own y => obtain ⟨_, e⟩ := x; exact Heap.lt_size e
  | xd fs => obtain ⟨_, ⟨_, _, _, e, _⟩, _⟩ := x; exact Heap.lt_size e
  | rng lo hi => obtain ⟨_, _, _, e⟩ := x; exact Heap.lt_size e
  | frz ob u => obtain ⟨e, _⟩ := x; exact Heap.lt_size e
  | tbl ps => exact Heap.lt_size (show h.get? a = some _ from x)
  | met f y => exact Heap.lt_size (show h.get? a = some _ from x)
  | ext φ => obtain ⟨_, ⟨_, e⟩, _⟩ := x; exact Heap.lt_size e
theorem Paired.mapP {α β : Type} {F G : α -> β -> Prop} : ∀ {l₁ : List α} {l₂ : List β}, Paired F l₁ l₂ -> (∀ a b, F a b -> G a b) -> Paired G l₁ l₂
  | _, _, .nil, _ => .nil
  | _, _, .cons r t, f => .cons (f _ _ r) (Paired.mapP t f)
theorem ObjOk.stay (x : ObjOk P w H h a o) (k : ∀ b u, (b = a ∨ H b = some (.own a)) -> h.get? b = some u -> h'.get? b = some u)
    (ho : ∀ b, H b = some (.own a) -> H' b = some (.own a)) (ht : ∀ b xs, H b = some (.tup xs) -> H' b = some (.tup xs)) : ObjOk P w H' h' a o := by
  induction o with
  | lst xs => obtain ⟨z, its, n, r, e⟩ := x; exact ⟨z, its, n, r, k _ _ (.inl rfl) e⟩
  | tup xs => obtain ⟨z, its, r, ob, e, c⟩ := x; exact ⟨z, its, r, ob, k _ _ (.inl rfl) e, c⟩
  | dK kvs => obtain ⟨z, y, vs, r, ob, es, ep, e, c⟩ := x; exact ⟨z, y, vs, r, ob, es, ep, k _ _ (.inl rfl) e, c⟩
  | dT kvs =>
    obtain ⟨z, y, xs, r, ob, es, ep, e, c⟩ := x
    exact ⟨z, y, xs, Paired.mapP r fun p q z => ⟨z.1, ht _ _ z.2.1, z.2.2⟩, ob, es, ep, k _ _ (.inl rfl) e, c⟩
  | set S n => obtain ⟨ob, es, ep, t, e, c⟩ := x; exact ⟨ob, es, ep, t, k _ _ (.inl rfl) e, c⟩
  | ins C dx fs =>
    obtain ⟨d, z, ne, e, mA, ⟨od, es, ep, e2, c⟩, r⟩ := x
    exact ⟨ho _ d, z, ne, k _ _ (.inl rfl) e, mA, ⟨od, es, ep, k _ _ (.inr d) e2, c⟩, r⟩
  | own y => obtain ⟨ob, e⟩ := x; exact ⟨ob, k _ _ (.inl rfl) e⟩
  | xd fs => obtain ⟨mA, ⟨od, es, ep, e, c⟩, r⟩ := x; exact ⟨mA, ⟨od, es, ep, k _ _ (.inl rfl) e, c⟩, r⟩
  | rng lo hi => obtain ⟨t, u, v, e⟩ := x; exact ⟨t, u, v, k _ _ (.inl rfl) e⟩
  | frz ob u ih => obtain ⟨e, q⟩ := x; exact ⟨k _ _ (.inl rfl) e, ih q⟩
  | tbl ps =>
    have e : h.get? a = some { cls := .none, data := .fields ps } := x
    show h'.get? a = some { cls := .none, data := .fields ps }
    exact k a _ (.inl rfl) e
  | met f y =>
    have e : h.get? a = some (PySem.W.methodObj (.ref f) (.ref y)) := x
    show h'.get? a = some (PySem.W.methodObj (.ref f) (.ref y))
    exact k a _ (.inl rfl) e
  | ext φ => obtain ⟨p, ⟨o, e⟩, st⟩ := x; exact ⟨st _ _ p fun o q => k _ _ (.inl rfl) q, ⟨o, k _ _ (.inl rfl) e⟩, st⟩
theorem HOk.lt (x : HOk P w H h) (e : H a = some o) : a < h.objs.size := (x a o e).lt
theorem HOk.fresh (x : HOk P w H h) (e : h.objs.size <= a) : H a = none := by
  cases q : H a with
  | none => rfl
  | some u => exact absurd (Nat.lt_of_lt_of_le (x.lt q) e) (Nat.lt_irrefl _)
theorem HOk.kept (x : HOk P w H h) (k : ∀ b u, h.get? b = some u -> h'.get? b = some u) : HOk P w H h' := fun a o e =>
  (x a o e).stay (fun b u _ q => k b u q) (fun _ q => q) fun _ _ q => q
theorem HOk.laid (x : HOk P w H h) (k : ∀ b u, h.get? b = some u -> h'.get? b = some u) (hp : h.objs.size <= a) (new : ObjOk P w (upd H a o) h' a o) : HOk P w (upd H a o) h' := fun b u e => by
  have hn := x.fresh hp
  by_cases hb : b = a
  · subst hb; rw [upd_same] at e; cases e; exact new
  · rw [upd_ne hb] at e
    exact (x b u e).stay (fun c v _ q => k c v q) (fun c q => by rw [upd_ne (ne_of_none q hn)]; exact q) fun c xs q => by rw [upd_ne (ne_of_none q hn)]; exact q
end
def Rd (H : Hp) (a : Addr) (u : HO) : Prop := H a = some u ∨ ∃ o, H a = some (.frz o u)
theorem Rd.ok {P : Program} {w : World} {H : Hp} {h : Heap} {a : Addr} {u : HO} (r : Rd H a u) (x : HOk P w H h) : ObjOk P w H h a u := by
  rcases r with r | ⟨o, r⟩
  · exact x a u r
  · obtain ⟨_, q⟩ := x a _ r
    exact q
def Mut : Option HO -> Prop
  | some (.lst _) => True
  | some (.dK _) => True
  | some (.dT _) => True
  | some (.set _ _) => True
  | some (.ins _ _ _) => True
  | some (.ext _) => True
  | _ => False
section
variable {P : Program} {w : World} {H : Hp} {h h' : Heap} {x e : Addr} {o' : HO}
theorem HOk.write (ok : HOk P w H h) (mu : Mut (H x)) (he : e = x ∨ H e = some (.own x)) (k : ∀ b u, b ≠ e -> h.get? b = some u -> h'.get? b = some u) (heo : ∃ u, h'.get? e = some u)
    (new : ObjOk P w (upd H x o') h' x o') : HOk P w (upd H x o') h' := fun b u q => by
  have nown : ∀ c y, H c = some (.own y) -> c ≠ x := fun c y r z => by subst z; rw [r] at mu; exact mu
  have ntup : ∀ c xs, H c = some (.tup xs) -> c ≠ x := fun c xs r z => by subst z; rw [r] at mu; exact mu
  by_cases hb : b = x
  · subst hb; rw [upd_same] at q; cases q; exact new
  · rw [upd_ne hb] at q
    by_cases hbe : b = e
    · have q' : H b = some (.own x) := by
        rcases he with z | z
        · exact absurd (hbe.trans z) hb
        · rw [hbe]; exact z
      rw [q] at q'; cases q'
      obtain ⟨v, hv⟩ := heo
      exact ⟨v, by rw [hbe]; exact hv⟩
    · refine (ok b u q).stay (fun c v hc r => k c v ?_ r) (fun c r => by rw [upd_ne (nown c b r)]; exact r) fun c xs r => by rw [upd_ne (ntup c xs r)]; exact r
      rcases hc with rfl | hc
      · exact hbe
      · rintro rfl
        rcases he with z | z
        · exact nown c b hc z
        · rw [hc] at z; cases z; exact hb rfl
end
structure Un (fs ex : List Addr) (H H' : Hp) (h h' : Heap) : Prop where
  keep : ∀ b o, h.get? b = some o -> H b = none -> b ∉ fs -> b ∉ ex -> h'.get? b = some o
  slot : ∀ b o, h.get? b = some o -> H b = none -> b ∈ fs -> b ∉ ex -> ∃ sl, h'.get? b = some { o with slots := sl }
  free : ∀ b o, h.get? b = some o -> H b = none -> b ∉ ex -> H' b = none
  there : ∀ b o, h.get? b = some o -> b ∉ ex -> ∃ o', h'.get? b = some o'
  tups : ∀ b xs, H b = some (.tup xs) -> H' b = some (.tup xs)
  frzs : ∀ b o u, H b = some (.frz o u) -> H' b = some (.frz o u)
  tbls : ∀ b ps, H b = some (.tbl ps) -> ∃ more, H' b = some (.tbl (ps ++ more))
section
variable {fs fs' ex ex' : List Addr} {H H1 H2 : Hp} {h h1 h2 h' : Heap} {a x e : Addr} {o : HO}
theorem Un.any (u : Un fs ex H H1 h h1) {b : Addr} {ob : Obj} (q : h.get? b = some ob) (n : H b = none) (hx : b ∉ ex) : ∃ sl, h1.get? b = some { ob with slots := sl } := by
  by_cases hb : b ∈ fs
  · exact u.slot b ob q n hb hx
  · exact ⟨ob.slots, u.keep b ob q n hb hx⟩
theorem Un.kept (k : ∀ b u, h.get? b = some u -> h'.get? b = some u) : Un fs ex H H h h' :=
  ⟨fun b ob q _ _ _ => k b ob q, fun b ob q _ _ _ => ⟨ob.slots, k b ob q⟩, fun _ _ _ n _ => n, fun b ob q _ => ⟨ob, k b ob q⟩, fun _ _ q => q, fun _ _ _ q => q, fun _ ps q => ⟨#[], by rw [q]; simp⟩⟩
theorem Un.refl : Un fs ex H H h h := Un.kept fun _ _ q => q
theorem Un.laid (k : ∀ b u, h.get? b = some u -> h'.get? b = some u) (hp : h.objs.size <= a) (hn : H a = none) : Un fs ex H (upd H a o) h h' where
  keep := fun b u q _ _ _ => k b u q
  slot := fun b u q _ _ _ => ⟨u.slots, k b u q⟩
  free := fun b u q n _ => by rw [upd_ne (Nat.ne_of_lt (Nat.lt_of_lt_of_le (Heap.lt_size q) hp))]; exact n
  there := fun b u q _ => ⟨u, k b u q⟩
  tups := fun b xs q => by rw [upd_ne (ne_of_none q hn)]; exact q
  frzs := fun b u xs q => by rw [upd_ne (ne_of_none q hn)]; exact q
  tbls := fun b ps q => ⟨#[], by rw [upd_ne (ne_of_none q hn), q]; simp⟩
theorem Un.write (mu : Mut (H x)) (he : e = x ∨ H e = some (.own x)) (k : ∀ b u, b ≠ e -> h.get? b = some u -> h'.get? b = some u) (heo : ∃ u, h'.get? e = some u) : Un fs ex H (upd H x o) h h' := by
  have hx : ∀ b, H b = none -> b ≠ x := fun b n z => by subst z; rw [n] at mu; exact mu
  have hb : ∀ b, H b = none -> b ≠ e := fun b n z => by
    subst z
    rcases he with r | r
    · exact hx b n r
    · rw [n] at r; cases r
  have hm : ∀ b u, H b = some u -> ¬ Mut (some u) -> b ≠ x := fun b u q nm z => by subst z; rw [q] at mu; exact nm mu
  refine ⟨fun b u q n _ _ => k b u (hb b n) q, fun b u q n _ _ => ⟨u.slots, k b u (hb b n) q⟩, fun b u q n _ => by rw [upd_ne (hx b n)]; exact n, fun b u q _ => ?_,
    fun b xs q => by rw [upd_ne (hm b _ q fun z => z)]; exact q, fun b u xs q => by rw [upd_ne (hm b _ q fun z => z)]; exact q, fun b ps q => ⟨#[], by rw [upd_ne (hm b _ q fun z => z), q]; simp⟩⟩
  by_cases hbe : b = e
  · subst hbe; exact heo
  · exact ⟨u, k b u hbe q⟩
end
def trk (h : Heap) (H : Hp) : List Addr := (List.range h.objs.size).filter fun a => (H a).isSome
def hidT (h : Heap) (H : Hp) : Heap := PySem.W.hideAll h (trk h H)
theorem hidT_size (h : Heap) (H : Hp) : (hidT h H).objs.size = h.objs.size := PySem.W.hideAll_size _ _
theorem hidT_get {h : Heap} {H : Hp} {b : Addr} {o : Obj} (e : h.get? b = some o) (n : H b = none) : (hidT h H).get? b = some o :=
  PySem.W.hideAll_get _ e fun hm => by
    have q : (H b).isSome = true := (List.mem_filter.mp hm).2
    rw [n] at q; simp at q
theorem of_hidT {h : Heap} {H : Hp} {b : Addr} {o : Obj} (e : (hidT h H).get? b = some o) : h.get? b = some o /\ H b = none := by
  have e' : h.get? b = some o := PySem.W.of_hideAll (trk h H) e
  refine ⟨e', ?_⟩
  cases q : H b with
  | none => rfl
  | some x =>
    have hm : b ∈ trk h H := List.mem_filter.mpr ⟨List.mem_range.mpr (Heap.lt_size e'), by simp [q]⟩
    have z : (hidT h H).get? b = none := PySem.W.hideAll_none (trk h H) hm
    rw [z] at e; cases e
end L2
namespace L2
open PySem PySem.Spec PyProof.Rows
structure Mod (K : PySem.W.Frag) (mg : Str -> Option Value) (base : Heap) : Prop where
  kin : K.In base
  glob : base.Ns mainGlobals mg
  blt : ∃ mb, base.Ns builtinsNs mb /\ ∀ x : Str, x ≠ "__name__" -> mb x = bootBuiltins x
  nolimit : base.NoLimit
structure Cx where
  prog : Program
  w : World
  K : PySem.W.Frag
  mg : Str -> Option Value
  base : Heap
  A : Around
  N : List Str
  s₀ : Shared
  H₀ : Hp
  env : Env
  outer : List Env
  stack : List Env
  ex : List Addr
  fn : Str -> Bool
  calm : Bool
  pn : List (Addr × Obj)
  xe : Value -> Shared -> Prop
def frs (l : List Env) : List Addr := l.filterMap (·.frame)
abbrev Cx.fs (X : Cx) : List Addr := frs X.outer
def Vis (sc : Scope) (x : Str) : Prop := sc.names.lookup x = some .local ∨ sc.names.lookup x = some .cell ∨ sc.names.lookup x = some .free
def Loc (sc : Scope) (x : Str) : Prop := sc.names.lookup x = some .local ∨ sc.names.lookup x = some .cell
def Look (env : Env) (h : Heap) (m : Str -> Option Value) (x : Str) (u : Value) : Prop :=
  (env.kindOf x = some .local /\ m x = some u) ∨ ((env.kindOf x = some .cell ∨ env.kindOf x = some .free) /\ ∃ c, env.cells.lookup x = some c /\ h.IsCell c (some u))
structure Cx.Ok (X : Cx) : Prop where
  mod : Mod X.K X.mg X.base
  kind : X.env.scope.kind = .function
  glob : X.env.globals = mainGlobals
  blt : X.env.builtins = builtinsNs
  above : X.s₀.heap.objs.size <= X.env.locals
  inj : ∀ x y c, X.env.cells.lookup x = some c -> X.env.cells.lookup y = some c -> x = y
  has : ∀ x, (X.env.kindOf x = some .cell ∨ X.env.kindOf x = some .free) -> ∃ c, X.env.cells.lookup x = some c
  cab : ∀ x c, X.fn x = true -> X.env.cells.lookup x = some c -> X.s₀.heap.objs.size <= c
  hd : X.calm = true -> X.A.handled = none
  frames : X.A.frames = some X.stack
  stk : X.stack = X.outer ∨ (X.stack = X.env :: X.outer /\ X.env.frame = some X.env.locals)
  exf : ∀ b ∈ X.ex, b ≠ X.env.locals /\ ∀ x c, X.env.cells.lookup x = some c -> c ≠ b
  bs : ∀ b o, X.base.get? b = some o -> X.s₀.heap.get? b = some o /\ X.H₀ b = none
  bsz : X.base.objs.size <= X.s₀.heap.objs.size
  noex : ∀ b o, X.base.get? b = some o -> b ∉ X.ex
  exfs : ∀ b ∈ X.ex, b ∉ X.fs
  funs : X.s₀.heap.FunFrames X.base X.outer
  frf : ∀ b ∈ X.fs, X.H₀ b = none
structure Inv (X : Cx) (pins : List (Addr × Obj)) (σ : List (Option V)) (H : Hp) (s : Shared) : Prop where
  ok : X.Ok
  os : s.os = X.s₀.os
  bare : AllBare s.gens
  base : Un X.fs X.ex X.H₀ H X.s₀.heap s.heap
  loc : ∃ m, s.heap.Ns X.env.locals m /\ ∀ (i : Nat) (x : Str) (v : V), X.N[i]? = some x -> σ[i]? = some (some v) -> Vis X.env.scope x -> ∃ u, RelV v u /\ Look X.env s.heap m x u
  cell : ∀ x c, X.env.cells.lookup x = some c -> ∃ v, s.heap.IsCell c v
  free : H X.env.locals = none
  freeC : ∀ x c, X.env.cells.lookup x = some c -> H c = none
  pin : ∀ p ∈ X.pn ++ pins, s.heap.get? p.1 = some p.2 /\ H p.1 = none /\ p.1 ≠ X.env.locals /\ p.1 ∉ X.fs /\ ∀ v, p.2.data ≠ .cell v
  hok : HOk X.prog X.w H s.heap
  len : σ.length = X.N.length
section
variable {X : Cx} {pins : List (Addr × Obj)} {σ : List (Option V)} {H H' : Hp} {s : Shared} {h' : Heap}
theorem Cx.Ok.nofr (ok : X.Ok) {b : Addr} {o : Obj} (e : X.base.get? b = some o) : b ∉ X.fs := fun hb => by
  have := (ok.funs.mem hb).1
  rw [e] at this; cases this
theorem Inv.bs (I : Inv X pins σ H s) : ∀ b o, X.base.get? b = some o -> s.heap.get? b = some o /\ H b = none := fun b o e =>
  ⟨I.base.keep b o (I.ok.bs b o e).1 (I.ok.bs b o e).2 (I.ok.nofr e) (I.ok.noex b o e), I.base.free b o (I.ok.bs b o e).1 (I.ok.bs b o e).2 (I.ok.noex b o e)⟩
theorem Inv.bk (I : Inv X pins σ H s) : ∀ b o, X.base.get? b = some o -> s.heap.get? b = some o := fun b o e => (I.bs b o e).1
theorem Inv.mod (I : Inv X pins σ H s) : Mod X.K X.mg X.base := I.ok.mod
theorem Inv.kIn (I : Inv X pins σ H s) : X.K.In s.heap := I.ok.mod.kin.keeps I.bk
theorem Inv.lt (I : Inv X pins σ H s) : X.env.locals < s.heap.objs.size := let ⟨_, hn, _⟩ := I.loc; hn.lt
theorem Inv.sz (I : Inv X pins σ H s) : X.s₀.heap.objs.size <= s.heap.objs.size := Nat.le_trans I.ok.above (Nat.le_of_lt I.lt)
theorem Inv.nofs (I : Inv X pins σ H s) {a : Addr} (h : s.heap.objs.size <= a) : a ∉ X.fs := fun hb => by
  obtain ⟨_, o, ho, _⟩ := I.ok.funs.mem hb
  exact absurd (Nat.lt_of_lt_of_le (Heap.lt_size ho) (Nat.le_trans I.sz h)) (Nat.lt_irrefl _)
theorem Inv.cne (I : Inv X pins σ H s) : ∀ x c, X.env.cells.lookup x = some c -> c ≠ X.env.locals := fun x c e z => by
  obtain ⟨v, o, ho, hd⟩ := I.cell x c e
  obtain ⟨m, ⟨o', es, ep, ho', hd', _⟩, _⟩ := I.loc
  rw [z, ho'] at ho; cases ho; rw [hd'] at hd; cases hd
theorem Inv.funs (I : Inv X pins σ H s) : s.heap.FunFrames X.base X.outer := by
  have all : ∀ (l : List Env), (∀ b ∈ frs l, b ∈ X.fs) -> X.s₀.heap.FunFrames X.base l -> s.heap.FunFrames X.base l := by
    intro l
    induction l with
    | nil => intro _ _; trivial
    | cons env r ih =>
      intro hs hl
      obtain ⟨hk, ⟨L, o, hf, hn, ho, hd⟩, hr⟩ := hl
      have hL : L ∈ X.fs := hs L (by unfold frs; rw [List.filterMap_cons, hf]; exact List.mem_cons_self)
      obtain ⟨sl, e⟩ := I.base.slot L o ho (I.ok.frf L hL) hL fun z => I.ok.exfs L z hL
      exact ⟨hk, ⟨L, _, hf, hn, e, hd⟩, ih (fun b hb => hs b (by unfold frs; rw [List.filterMap_cons, hf]; exact List.mem_cons_of_mem _ hb)) hr⟩
  exact all X.outer (fun _ hb => hb) I.ok.funs
theorem Inv.stack (I : Inv X pins σ H s) : s.heap.FunFrames X.base X.stack := by
  rcases I.ok.stk with e | ⟨e, hf⟩
  · rw [e]; exact I.funs
  · rw [e]
    obtain ⟨m, hn, _⟩ := I.loc
    refine .cons (by rw [I.ok.kind]; decide) hf hn ?_ I.funs
    exact Heap.get?_none_of_le (Nat.le_trans I.ok.bsz I.ok.above)
theorem Inv.stkSub (I : Inv X pins σ H s) : ∀ b ∈ frs X.stack, b ∈ X.env.locals :: X.fs := fun b hb => by
  rcases I.ok.stk with e | ⟨e, hf⟩
  · rw [e] at hb; exact List.mem_cons_of_mem _ hb
  · rw [e] at hb
    unfold frs at hb
    rw [List.filterMap_cons, hf] at hb
    exact hb
theorem Inv.stkFree (I : Inv X pins σ H s) : ∀ b ∈ frs X.stack, H b = none := fun b hb => by
  rcases List.mem_cons.mp (I.stkSub b hb) with e | hb
  · rw [e]; exact I.free
  · obtain ⟨_, o, ho, _⟩ := I.ok.funs.mem hb
    exact I.base.free b o ho (I.ok.frf b hb) fun z => I.ok.exfs b z hb
theorem Inv.step {g' : Array GenState} {t' : Nat} {d' : Drawn} {ch : List Addr} (I : Inv X pins σ H s)
    (hch : ∀ b ∈ ch, (b ∈ X.ex ∨ X.s₀.heap.objs.size <= b) /\ b ≠ X.env.locals /\ (∀ x c, X.env.cells.lookup x = some c -> c ≠ b) /\ ∀ p ∈ X.pn ++ pins, p.1 ≠ b)
    (keep : ∀ b o, b ≠ X.env.locals -> b ∉ X.fs -> b ∉ ch -> s.heap.get? b = some o -> H b = none -> h'.get? b = some o)
    (slot : ∀ b o, b ≠ X.env.locals -> b ∈ X.fs -> b ∉ ch -> s.heap.get? b = some o -> H b = none -> ∃ sl, h'.get? b = some { o with slots := sl }) (free : ∀ b o, b ∉ ch -> s.heap.get? b = some o -> H b = none -> H' b = none)
    (there : ∀ b o, b ∉ ch -> s.heap.get? b = some o -> ∃ o', h'.get? b = some o')
    (tups : ∀ b xs, H b = some (.tup xs) -> H' b = some (.tup xs)) (frzs : ∀ b o u, H b = some (.frz o u) -> H' b = some (.frz o u)) (tbls : ∀ b ps, H b = some (.tbl ps) -> ∃ more, H' b = some (.tbl (ps ++ more)))
    (ns : ∀ m, s.heap.Ns X.env.locals m -> h'.Ns X.env.locals m) (hok : HOk X.prog X.w H' h') (hg : AllBare g') :
    Inv X pins σ H' { s with heap := h', gens := g', drawn := d', toks := t' } := by
  have neL : ∀ b o, X.s₀.heap.get? b = some o -> b ≠ X.env.locals := fun b o e => Nat.ne_of_lt (Nat.lt_of_lt_of_le (Heap.lt_size e) I.ok.above)
  have neC : ∀ b o, X.s₀.heap.get? b = some o -> b ∉ X.ex -> b ∉ ch := fun b o e hx hb => by
    rcases (hch b hb).1 with z | z
    · exact hx z
    · exact absurd (Nat.lt_of_lt_of_le (Heap.lt_size e) z) (Nat.lt_irrefl _)
  have cellK : ∀ x c, X.env.cells.lookup x = some c -> ∀ v, s.heap.IsCell c v -> h'.IsCell c v := fun x c e v ⟨o, ho, hd⟩ => by
    have nch : c ∉ ch := fun z => (hch c z).2.2.1 x c e rfl
    by_cases hc : c ∈ X.fs
    · obtain ⟨sl, q⟩ := slot c o (I.cne x c e) hc nch ho (I.freeC x c e)
      exact ⟨_, q, hd⟩
    · exact ⟨o, keep c o (I.cne x c e) hc nch ho (I.freeC x c e), hd⟩
  refine ⟨I.ok, I.os, hg, ⟨fun b o e n hb hx => ?_, fun b o e n hb hx => ?_, fun b o e n hx => ?_, fun b o e hx => ?_, fun b xs e => tups b xs (I.base.tups b xs e), fun b o xs e => frzs b o xs (I.base.frzs b o xs e), fun b ps e => ?_⟩, ?_, fun x c e => ?_, ?_, fun x c e => ?_, fun p hp => ?_, hok, I.len⟩
  · exact keep b o (neL b o e) hb (neC b o e hx) (I.base.keep b o e n hb hx) (I.base.free b o e n hx)
  · obtain ⟨sl, e1⟩ := I.base.slot b o e n hb hx
    obtain ⟨sl', e2⟩ := slot b _ (neL b o e) hb (neC b o e hx) e1 (I.base.free b o e n hx)
    exact ⟨sl', e2⟩
  · obtain ⟨o', e1⟩ := I.base.there b o e hx
    exact free b o' (neC b o e hx) e1 (I.base.free b o e n hx)
  · obtain ⟨o', e1⟩ := I.base.there b o e hx
    exact there b o' (neC b o e hx) e1
  · obtain ⟨m1, e1⟩ := I.base.tbls b ps e
    obtain ⟨m2, e2⟩ := tbls b _ e1
    exact ⟨m1 ++ m2, by rw [e2, Array.append_assoc]⟩
  · obtain ⟨m, hn, hl⟩ := I.loc
    refine ⟨m, ns m hn, fun i x v e1 e2 e3 => ?_⟩
    obtain ⟨u, r, l⟩ := hl i x v e1 e2 e3
    refine ⟨u, r, ?_⟩
    rcases l with l | ⟨k, c, e, z⟩
    · exact .inl l
    · exact .inr ⟨k, c, e, cellK x c e _ z⟩
  · obtain ⟨v, z⟩ := I.cell x c e
    exact ⟨v, cellK x c e v z⟩
  · obtain ⟨m, ⟨o, _, _, ho, _⟩, _⟩ := I.loc
    exact free _ o (fun z => (hch _ z).2.1 rfl) ho I.free
  · obtain ⟨v, o, ho, hd⟩ := I.cell x c e
    exact free c o (fun z => (hch c z).2.2.1 x c e rfl) ho (I.freeC x c e)
  · obtain ⟨e, n, ne, nf, d⟩ := I.pin p hp
    have nch : p.1 ∉ ch := fun z => (hch p.1 z).2.2.2 p hp rfl
    exact ⟨keep p.1 p.2 ne nf nch e n, free p.1 p.2 nch e n, ne, nf, d⟩
theorem Inv.un {t' : Nat} (I : Inv X pins σ H s) (u : Un X.fs [] H H' s.heap h') (hok : HOk X.prog X.w H' h') : Inv X pins σ H' { s with heap := h', toks := t' } := by
  obtain ⟨m, ⟨o, es, ep, ho, r⟩, _⟩ := id I.loc
  obtain ⟨sl, hL⟩ := u.any ho I.free (by simp)
  exact I.step (g' := s.gens) (d' := s.drawn) (ch := []) (fun _ z => nomatch z) (fun b o _ hb _ e n => u.keep b o e n hb (by simp)) (fun b o _ hb _ e n => u.slot b o e n hb (by simp)) (fun b o _ e n => u.free b o e n (by simp)) (fun b o _ e => u.there b o e (by simp)) u.tups u.frzs u.tbls (fun m' hm => by
    obtain ⟨o', es', ep', ho', r'⟩ := hm
    rw [ho] at ho'; cases ho'
    exact ⟨_, es', ep', hL, r'⟩) hok I.bare
theorem Inv.call {g' : Array GenState} {t' : Nat} {d' : Drawn} {ch : List Addr} (I : Inv X pins σ H s) (u : Un (frs X.stack) ch H H' s.heap h') (hok : HOk X.prog X.w H' h') (hg : AllBare g')
    (hch : ∀ b ∈ ch, (b ∈ X.ex ∨ X.s₀.heap.objs.size <= b) /\ b ≠ X.env.locals /\ (∀ x c, X.env.cells.lookup x = some c -> c ≠ b) /\ ∀ p ∈ X.pn ++ pins, p.1 ≠ b) :
    Inv X pins σ H' { s with heap := h', gens := g', drawn := d', toks := t' } := by
  obtain ⟨m, ⟨o, es, ep, ho, r⟩, _⟩ := id I.loc
  obtain ⟨sl, hL⟩ := u.any ho I.free fun z => (hch _ z).2.1 rfl
  exact I.step (ch := ch) hch (fun b o hL hb hc e n => u.keep b o e n (fun z => (List.mem_cons.mp (I.stkSub b z)).elim hL hb) hc) (fun b o _ _ hc e n => u.any e n hc) (fun b o hc e n => u.free b o e n hc) (fun b o hc e => u.there b o e hc) u.tups u.frzs u.tbls (fun m' hm => by
    obtain ⟨o', es', ep', ho', r'⟩ := hm
    rw [ho] at ho'; cases ho'
    exact ⟨_, es', ep', hL, r'⟩) hok hg
theorem Inv.turned {t' : Nat} {it : Addr} (I : Inv X pins σ H s) (k : ∀ b o, b ≠ it -> s.heap.get? b = some o -> h'.get? b = some o) (hn : H it = none) (hL : it ≠ X.env.locals)
    (h1 : it ∈ X.ex ∨ X.s₀.heap.objs.size <= it) (h2 : ∀ x c, X.env.cells.lookup x = some c -> c ≠ it) (h3 : ∀ p ∈ X.pn ++ pins, p.1 ≠ it) : Inv X pins σ H { s with heap := h', toks := t' } := by
  have nit : ∀ b u, H b = some u -> b ≠ it := fun b u e z => by rw [z, hn] at e; cases e
  refine I.step (g' := s.gens) (d' := s.drawn) (ch := [it]) (fun b hb => ?_) (fun b o _ _ hc e _ => k b o (fun z => hc (by simp [z])) e) (fun b o _ _ hc e _ => ⟨o.slots, k b o (fun z => hc (by simp [z])) e⟩) (fun _ _ _ _ n => n)
    (fun b o hc e => ⟨o, k b o (fun z => hc (by simp [z])) e⟩) (fun _ _ e => e) (fun _ _ _ e => e) (fun b ps e => ⟨#[], by rw [e]; simp⟩) (fun m hm => ?_) (fun b u e => ?_) I.bare
  · have e : b = it := by simpa using hb
    subst e
    exact ⟨h1, hL, h2, h3⟩
  · obtain ⟨o, es, ep, ho, r⟩ := hm
    exact ⟨o, es, ep, k _ o (Ne.symm hL) ho, r⟩
  · refine (I.hok b u e).stay (fun c v hc q => k c v ?_ q) (fun _ q => q) fun _ _ q => q
    rcases hc with z | z
    · rw [z]; exact nit b u e
    · exact nit c _ z
theorem Inv.tok (I : Inv X pins σ H s) (t : Nat) : Inv X pins σ H { s with toks := t } := I.un (h' := s.heap) (t' := t) Un.refl I.hok
theorem Inv.kept {t' : Nat} (I : Inv X pins σ H s) (k : ∀ b u, s.heap.get? b = some u -> h'.get? b = some u) : Inv X pins σ H { s with heap := h', toks := t' } := I.un (Un.kept k) (I.hok.kept k)
theorem Inv.laid {a : Addr} {o : HO} {t' : Nat} (I : Inv X pins σ H s) (k : ∀ b u, s.heap.get? b = some u -> h'.get? b = some u) (hp : s.heap.objs.size <= a) (new : ObjOk X.prog X.w (upd H a o) h' a o) :
    Inv X pins σ (upd H a o) { s with heap := h', toks := t' } := I.un (Un.laid k hp (I.hok.fresh hp)) (I.hok.laid k hp new)
theorem Inv.write {x e : Addr} {o : HO} {t' : Nat} (I : Inv X pins σ H s) (mu : Mut (H x)) (he : e = x ∨ H e = some (.own x)) (k : ∀ b u, b ≠ e -> s.heap.get? b = some u -> h'.get? b = some u) (heo : ∃ u, h'.get? e = some u)
    (new : ObjOk X.prog X.w (upd H x o) h' x o) : Inv X pins σ (upd H x o) { s with heap := h', toks := t' } := I.un (Un.write mu he k heo) (I.hok.write mu he k heo new)
theorem Inv.pins_of {pins' : List (Addr × Obj)} (I : Inv X pins σ H s) (h : ∀ p ∈ pins', s.heap.get? p.1 = some p.2 /\ H p.1 = none /\ p.1 ≠ X.env.locals /\ p.1 ∉ X.fs /\ ∀ v, p.2.data ≠ .cell v) : Inv X pins' σ H s :=
  ⟨I.ok, I.os, I.bare, I.base, I.loc, I.cell, I.free, I.freeC, fun p hp => (List.mem_append.mp hp).elim (fun z => I.pin p (List.mem_append_left _ z)) (h p), I.hok, I.len⟩
theorem nodup_ix {N : List Str} (hN : N.Nodup) {i j : Nat} {x : Str} (a : N[i]? = some x) (b : N[j]? = some x) : i = j := by
  obtain ⟨h1, e1⟩ := List.getElem?_eq_some_iff.mp a
  obtain ⟨h2, e2⟩ := List.getElem?_eq_some_iff.mp b
  exact (List.getElem_inj hN).mp (e1.trans e2.symm)
theorem store_ok2 {M : Model} {A : Around} {E : Value -> Shared -> Prop} {i : Nat} {x : Str} {v : V} {u : Value} {Q : Unit -> Shared -> Prop} (I : Inv X pins σ H s) (hN : X.N.Nodup) (hi : X.N[i]? = some x) (hx : Loc X.env.scope x) (r : RelV v u)
    (h : ∀ s', Inv X pins (σ.set i (some v)) H s' -> (∃ a, Heap.SameBut a s.heap s'.heap /\ (a = X.env.locals ∨ X.env.cells.lookup x = some a)) -> Q () s') (hf : X.fn x = true ∨ X.env.scope.names.lookup x = some .local := by first | exact .inl rfl | exact .inr rfl | assumption) : wpAny M A (storeName X.env x u) Q E s := by
  obtain ⟨m, hn, hl⟩ := id I.loc
  have hcls : (X.env.scope.kind == .class || (X.env.scope.kind == .module && X.env.locals != X.env.globals)) = false := by rw [I.ok.kind]; rfl
  have hiσ : i < σ.length := by rw [I.len]; exact (List.getElem?_eq_some_iff.mp hi).1
  have cne := I.cne
  have tracked : ∀ {a : Addr} {h' : Heap}, (∃ o, s.heap.get? a = some o /\ H a = none) -> Heap.SameBut a s.heap h' -> HOk X.prog X.w H h' := fun {a h'} ha hs b ob e => by
    obtain ⟨_, _, hfree⟩ := ha
    refine (I.hok b ob e).stay (fun c w' hc q => (hs.2 c ?_).trans q) (fun _ q => q) fun _ _ q => q
    rintro rfl
    rcases hc with rfl | hc
    · rw [hfree] at e; cases e
    · rw [hfree] at hc; cases hc
  rcases hx with hk | hk
  · refine wpAny_storeName_local hk hn (fun h' hn' hs => ?_) hcls
    obtain ⟨oL, _, _, hoL, _⟩ := id hn
    refine h _ ⟨I.ok, I.os, I.bare, ⟨fun b o e n hb hx => ?_, fun b o e n hb hx => ?_, I.base.free, fun b o e hx => ?_, I.base.tups, I.base.frzs, I.base.tbls⟩, ⟨_, hn', fun j y v' e1 e2 e3 => ?_⟩, fun y c e => ?_, I.free, I.freeC, fun p hp => ?_, tracked ⟨oL, hoL, I.free⟩ hs, by simpa using I.len⟩ ⟨_, hs, .inl rfl⟩
    · exact (hs.2 b (Nat.ne_of_lt (Nat.lt_of_lt_of_le (Heap.lt_size e) I.ok.above))).trans (I.base.keep b o e n hb hx)
    · obtain ⟨sl, e1⟩ := I.base.slot b o e n hb hx
      exact ⟨sl, (hs.2 b (Nat.ne_of_lt (Nat.lt_of_lt_of_le (Heap.lt_size e) I.ok.above))).trans e1⟩
    · obtain ⟨o', e1⟩ := I.base.there b o e hx
      exact ⟨o', (hs.2 b (Nat.ne_of_lt (Nat.lt_of_lt_of_le (Heap.lt_size e) I.ok.above))).trans e1⟩
    · by_cases hj : j = i
      · subst hj
        rw [hi] at e1; cases e1
        rw [List.getElem?_set_self hiσ] at e2
        cases e2
        exact ⟨u, r, .inl ⟨hk, by simp⟩⟩
      · rw [List.getElem?_set_ne (Ne.symm hj)] at e2
        obtain ⟨u', r', q⟩ := hl j y v' e1 e2 e3
        refine ⟨u', r', ?_⟩
        rcases q with ⟨k, e⟩ | ⟨k, c, e, z⟩
        · refine .inl ⟨k, ?_⟩
          have : y ≠ x := fun e => hj (nodup_ix hN e1 (e ▸ hi))
          simp [this, e]
        · exact .inr ⟨k, c, e, z.sameBut hs (cne y c e)⟩
    · obtain ⟨w', z⟩ := I.cell y c e
      exact ⟨w', z.sameBut hs (cne y c e)⟩
    · obtain ⟨e, n, ne, nf, d⟩ := I.pin p hp
      exact ⟨(hs.2 p.1 ne).trans e, n, ne, nf, d⟩
  · have hfn : X.fn x = true := by
      rcases hf with z | z
      · exact z
      · rw [z] at hk; cases hk
    obtain ⟨c, hc⟩ := I.ok.has x (.inl hk)
    obtain ⟨w', z⟩ := I.cell x c hc
    refine wpAny_storeName_cell I.ok.kind hk hc z (fun h' hc' hs => ?_)
    obtain ⟨oc, hoc, hocd⟩ := id z
    refine h { s with heap := h' } ⟨I.ok, I.os, I.bare, ⟨fun b o e n hb hx => ?_, fun b o e n hb hx => ?_, I.base.free, fun b o e hx => ?_, I.base.tups, I.base.frzs, I.base.tbls⟩, ⟨m, hn.sameBut hs (Ne.symm (cne x c hc)), fun j y v' e1 e2 e3 => ?_⟩, fun y c' e => ?_, I.free, I.freeC, fun p hp => ?_, tracked ⟨oc, hoc, I.freeC x c hc⟩ hs, by simpa using I.len⟩ ⟨c, hs, .inr hc⟩
    · exact (hs.2 b (Nat.ne_of_lt (Nat.lt_of_lt_of_le (Heap.lt_size e) (I.ok.cab x c hfn hc)))).trans (I.base.keep b o e n hb hx)
    · obtain ⟨sl, e1⟩ := I.base.slot b o e n hb hx
      exact ⟨sl, (hs.2 b (Nat.ne_of_lt (Nat.lt_of_lt_of_le (Heap.lt_size e) (I.ok.cab x c hfn hc)))).trans e1⟩
    · obtain ⟨o', e1⟩ := I.base.there b o e hx
      exact ⟨o', (hs.2 b (Nat.ne_of_lt (Nat.lt_of_lt_of_le (Heap.lt_size e) (I.ok.cab x c hfn hc)))).trans e1⟩
    · by_cases hj : j = i
      · subst hj
        rw [hi] at e1; cases e1
        rw [List.getElem?_set_self hiσ] at e2
        cases e2
        exact ⟨u, r, .inr ⟨.inl hk, c, hc, hc'⟩⟩
      · rw [List.getElem?_set_ne (Ne.symm hj)] at e2
        obtain ⟨u', r', q⟩ := hl j y v' e1 e2 e3
        refine ⟨u', r', ?_⟩
        rcases q with q | ⟨k, c', e, z'⟩
        · exact .inl q
        · refine .inr ⟨k, c', e, z'.sameBut hs ?_⟩
          rintro rfl
          exact hj (nodup_ix hN e1 (I.ok.inj _ _ _ e hc ▸ hi))
    · by_cases hcc : c' = c
      · subst hcc; exact ⟨_, hc'⟩
      · obtain ⟨w2, z2⟩ := I.cell y c' e
        exact ⟨w2, z2.sameBut hs hcc⟩
    · obtain ⟨e, n, ne, nf, d⟩ := I.pin p hp
      refine ⟨(hs.2 p.1 ?_).trans e, n, ne, nf, d⟩
      intro q
      rw [q, hoc] at e
      have q' : oc = p.2 := Option.some.inj e
      exact d w' (by rw [← q']; exact hocd)
theorem store_ok {M : Model} {A : Around} {E : Value -> Shared -> Prop} {i : Nat} {x : Str} {v : V} {u : Value} {Q : Unit -> Shared -> Prop} (I : Inv X pins σ H s) (hN : X.N.Nodup) (hi : X.N[i]? = some x) (hx : Loc X.env.scope x) (r : RelV v u)
    (h : ∀ s', Inv X pins (σ.set i (some v)) H s' -> Q () s') (hf : X.fn x = true ∨ X.env.scope.names.lookup x = some .local := by first | exact .inl rfl | exact .inr rfl | assumption) : wpAny M A (storeName X.env x u) Q E s :=
  store_ok2 I hN hi hx r (fun s' I' _ => h s' I') hf
theorem Inv.call' {s' : Shared} {ch : List Addr} (I : Inv X pins σ H s) (ho : s'.os = s.os) (u : Un (frs X.stack) ch H H' s.heap s'.heap) (hok : HOk X.prog X.w H' s'.heap) (hg : AllBare s'.gens)
    (hch : ∀ b ∈ ch, (b ∈ X.ex ∨ X.s₀.heap.objs.size <= b) /\ b ≠ X.env.locals /\ (∀ x c, X.env.cells.lookup x = some c -> c ≠ b) /\ ∀ p ∈ X.pn ++ pins, p.1 ≠ b) : Inv X pins σ H' s' := by
  obtain ⟨h', g', d', t', o'⟩ := s'
  have e : o' = s.os := ho
  subst e
  exact I.call (g' := g') (t' := t') (d' := d') u hok hg hch
end
abbrev XK := Value -> Option Addr -> Hp -> Prop
abbrev St := List (Option V)
abbrev VK := V -> Hp -> Prop
abbrev TE := St -> Hp -> VK -> Prop
abbrev TT := St -> Hp -> (Bool -> Hp -> Prop) -> Prop
abbrev TA := St -> Hp -> (List V -> Hp -> Prop) -> Prop
structure Ends where
  nx : St -> Hp -> Prop
  rt : VK
  bk : St -> Hp -> Prop := fun _ _ => False
  ct : St -> Hp -> Prop := fun _ _ => False
abbrev TS := Ends -> St -> Hp -> Prop
def EP (X : Cx) (pins : List (Addr × Obj)) (σ : St) (Q : VK) (u : Value) (s' : Shared) : Prop := ∃ v H', Inv X pins σ H' s' /\ RelV v u /\ Q v H'
def TP (X : Cx) (pins : List (Addr × Obj)) (σ : St) (Q : Bool -> Hp -> Prop) (b : Bool) (s' : Shared) : Prop := ∃ H', Inv X pins σ H' s' /\ Q b H'
def AP (X : Cx) (pins : List (Addr × Obj)) (σ : St) (Q : List V -> Hp -> Prop) (us : List Value) (s' : Shared) : Prop := ∃ vs H', Inv X pins σ H' s' /\ Vals vs us /\ Q vs H'
def SP (X : Cx) (pins : List (Addr × Obj)) (D : Ends) (f : Flow) (s' : Shared) : Prop :=
  match f with
  | .next => ∃ σ' H', Inv X pins σ' H' s' /\ D.nx σ' H'
  | .brk => ∃ σ' H', Inv X pins σ' H' s' /\ D.bk σ' H'
  | .cont => ∃ σ' H', Inv X pins σ' H' s' /\ D.ct σ' H'
  | .ret u => ∃ v σ' H', Inv X pins σ' H' s' /\ RelV v u /\ D.rt v H'
def PE (X : Cx) (e : Expr) (t : TE) : Prop :=
  ∀ (pins : List (Addr × Obj)) (s : Shared) (σ : St) (H : Hp) (Q : VK), Inv X pins σ H s -> t σ H Q -> wpAny (model X.prog X.w) X.A (eval e X.env) (EP X pins σ Q) X.xe s
def PT (X : Cx) (e : Expr) (t : TT) : Prop :=
  ∀ (pins : List (Addr × Obj)) (s : Shared) (σ : St) (H : Hp) (Q : Bool -> Hp -> Prop), Inv X pins σ H s -> t σ H Q -> wpAny (model X.prog X.w) X.A (isTrue e X.env (eval e X.env)) (TP X pins σ Q) X.xe s
def PW (X : Cx) (e : Expr) (t : TT) : Prop :=
  ∀ (whole : Sem Value) (pins : List (Addr × Obj)) (s : Shared) (σ : St) (H : Hp) (Q : Bool -> Hp -> Prop), Inv X pins σ H s -> t σ H Q -> wpAny (model X.prog X.w) X.A (isTrue e X.env whole) (TP X pins σ Q) X.xe s
theorem PW.pt {X : Cx} {e : Expr} {t : TT} (h : PW X e t) : PT X e t := h _
def PA (X : Cx) (es : List Expr) (t : TA) : Prop :=
  ∀ (pos : Pos) (pins : List (Addr × Obj)) (s : Shared) (σ : St) (H : Hp) (Q : List V -> Hp -> Prop), Inv X pins σ H s -> t σ H Q -> wpAny (model X.prog X.w) X.A (spliced (backTo pos (starEach es X.env))) (AP X pins σ Q) X.xe s
def PS (X : Cx) (st : Stmt) (t : TS) : Prop :=
  ∀ (pins : List (Addr × Obj)) (s : Shared) (σ : St) (H : Hp) (D : Ends), Inv X pins σ H s -> t D σ H -> wpAny (model X.prog X.w) X.A (exec st X.env) (SP X pins D) X.xe s
def PSs (X : Cx) (st : List Stmt) (t : TS) : Prop :=
  ∀ (pins : List (Addr × Obj)) (s : Shared) (σ : St) (H : Hp) (D : Ends), Inv X pins σ H s -> t D σ H -> wpAny (model X.prog X.w) X.A (execs st X.env) (SP X pins D) X.xe s
theorem thn {α : Type} {t : Sem α} {Q Q' : α -> Shared -> Prop} {M : Model} {A : Around} {E : Value -> Shared -> Prop} {s : Shared} (h : wpAny M A t Q E s) (hQ : ∀ a s, Q a s -> Q' a s) : wpAny M A t Q' E s := wpAny_mono h hQ fun _ _ x => x
end L2
namespace L2
open PySem PySem.Spec PyProof.Rows
section
variable {X : Cx}
def tVar (i : Nat) : TE := fun σ H Q => ∃ v, σ[i]? = some (some v) /\ Q v H
def tC (v : V) : TE := fun _ H Q => Q v H
theorem pe_var {i : Nat} {x : Str} {pos : Pos} (hN : X.N[i]? = some x) (hv : Vis X.env.scope x) (hd : (x == ("__debug__" : Str)) = false := by decide) (hcd : (x == ("__classdict__" : Str)) = false := by decide) : PE X (.Name x pos) (tVar i) := by
  intro pins s σ H Q I h
  obtain ⟨v, e, h⟩ := h
  obtain ⟨m, hn, hl⟩ := I.loc
  obtain ⟨u, r, l⟩ := hl i x v hN e hv
  have fin : EP X pins σ Q u s := ⟨v, H, I, r, h⟩
  rcases l with ⟨hk, hm⟩ | ⟨hk, c, hc, hcell⟩
  · exact wpAny_Name (wpAny_loadName_local I.ok.kind hk hn hm fin) hd
  · rcases hk with hk | hk
    · exact wpAny_Name (wpAny_loadName_cell I.ok.kind hk hc hcell fin) hd
    · exact wpAny_Name (wpAny_loadName_free I.ok.kind hk hc hcell fin hcd) hd
theorem pe_int {i j pos} : PE X (.Constant (.int i) j pos) (tC (.int i)) := fun _ _ _ H _ I h => wpAny_Constant_int ⟨.int i, H, I.tok _, ⟨_, rfl⟩, h⟩
theorem pe_bl {b j pos} : PE X (.Constant (.bool b) j pos) (tC (.bl b)) := fun _ _ _ H _ I h => Constant_bool ⟨.bl b, H, I, rfl, h⟩
theorem pe_str {x j pos} : PE X (.Constant (.str x) j pos) (tC (.str x)) := fun _ _ _ H _ I h => Calls.Constant_str ⟨.str x, H, I.tok _, ⟨_, rfl⟩, h⟩
def Gl (X : Cx) (x : Str) : Prop := X.env.kindOf x = some .globalImplicit
theorem ld_glob {E : Value -> Shared -> Prop} {pins : List (Addr × Obj)} {s : Shared} {σ : St} {H : Hp} {x : Str} {u : Value} {pos : Pos} {Q : Value -> Shared -> Prop} (I : Inv X pins σ H s) (hg : Gl X x) (hm : X.mg x = some u) (h : Q u s)
    (hd : (x == ("__debug__" : Str)) = false := by decide) : wpAny (model X.prog X.w) X.A (eval (.Name x pos) X.env) Q E s :=
  Calls.Name_function_global I.ok.kind hg (Calls.loadGlobal_global (by rw [I.ok.glob]; exact I.mod.glob.keeps I.bk) hm h) hd
theorem ld_blt {E : Value -> Shared -> Prop} {pins : List (Addr × Obj)} {s : Shared} {σ : St} {H : Hp} {x : Str} {u : Value} {pos : Pos} {Q : Value -> Shared -> Prop} (I : Inv X pins σ H s) (hg : Gl X x) (hm : X.mg x = none) (hv : bootBuiltins x = some u) (h : Q u s)
    (hn : x ≠ "__name__" := by decide) (hd : (x == ("__debug__" : Str)) = false := by decide) : wpAny (model X.prog X.w) X.A (eval (.Name x pos) X.env) Q E s := by
  obtain ⟨mb, h1, h2⟩ := I.mod.blt
  exact Calls.Name_function_global I.ok.kind hg (Calls.loadGlobal_builtin (by rw [I.ok.glob]; exact I.mod.glob.keeps I.bk) hm (by rw [I.ok.blt]; exact h1.keeps I.bk) ((h2 x hn).trans hv) h) hd
theorem pe_glob {x : Str} {v : V} {u : Value} {pos : Pos} (hg : Gl X x) (hm : X.mg x = some u) (r : RelV v u) (hd : (x == ("__debug__" : Str)) = false := by decide) : PE X (.Name x pos) (tC v) :=
  fun _ _ _ H _ I h => ld_glob I hg hm ⟨v, H, I, r, h⟩ hd
theorem pe_bltn {x : Str} {v : V} {u : Value} {pos : Pos} (hg : Gl X x) (hm : X.mg x = none) (hv : bootBuiltins x = some u) (r : RelV v u) (hn : x ≠ "__name__" := by decide) (hd : (x == ("__debug__" : Str)) = false := by decide) : PE X (.Name x pos) (tC v) :=
  fun _ _ _ H _ I h => ld_blt I hg hm hv ⟨v, H, I, r, h⟩ hn hd
variable {a b : Expr} {ta tb : TE} {pos : Pos}
variable {tA tB' : TT} {rest : List Expr}
def tAnd (t u : TT) : TT := fun σ H Q => t σ H fun c H1 => if c = true then u σ H1 Q else Q false H1
def tOr (t u : TT) : TT := fun σ H Q => t σ H fun c H1 => if c = true then Q true H1 else u σ H1 Q
def tNot (t : TT) : TT := fun σ H Q => t σ H fun c H1 => Q (!c) H1
theorem pw_and1 (ha : PT X a tA) : PW X (.BoolOp .And [a] pos) tA := by
  intro wh pins s σ H Q I h
  refine isTrue_and (thn (ha pins s σ H Q I h) fun c s1 e => ?_)
  cases c with
  | true => exact isTrue_and_nil e
  | false => exact e
theorem pw_or1 (ha : PT X a tA) : PW X (.BoolOp .Or [a] pos) tA := by
  intro wh pins s σ H Q I h
  refine isTrue_or (thn (ha pins s σ H Q I h) fun c s1 e => ?_)
  cases c with
  | false => exact isTrue_or_nil e
  | true => exact e
theorem pw_and (ha : PT X a tA) (hb : PW X (.BoolOp .And (b :: rest) pos) tB') : PW X (.BoolOp .And (a :: b :: rest) pos) (tAnd tA tB') := by
  intro wh pins s σ H Q I h
  refine isTrue_and (thn (ha pins s σ H _ I h) fun c s1 ⟨H1, I1, q1⟩ => ?_)
  cases c with
  | true => exact hb wh pins s1 σ H1 Q I1 q1
  | false => exact ⟨H1, I1, q1⟩
theorem pw_or (ha : PT X a tA) (hb : PW X (.BoolOp .Or (b :: rest) pos) tB') : PW X (.BoolOp .Or (a :: b :: rest) pos) (tOr tA tB') := by
  intro wh pins s σ H Q I h
  refine isTrue_or (thn (ha pins s σ H _ I h) fun c s1 ⟨H1, I1, q1⟩ => ?_)
  cases c with
  | true => exact ⟨H1, I1, q1⟩
  | false => exact hb wh pins s1 σ H1 Q I1 q1
theorem pt_not (ha : PT X a tA) : PT X (.UnaryOp .Not a pos) (tNot tA) := by
  intro pins s σ H Q I h
  exact isTrue_not (ha pins s σ H (fun c H1 => Q (!c) H1) I h)
def tAndV (ta tb : TE) : TE := fun σ H Q => ta σ H fun x H1 => ∃ c, x = .bl c /\ if c = true then tb σ H1 Q else Q (.bl false) H1
theorem pe_one {op} {t : TE} (h : PE X a t) : PE X (.BoolOp op [a] pos) t := fun pins s σ H Q I hw => BoolOp_one (h pins s σ H Q I hw)
theorem pe_and (ha : PE X a ta) (hb : PE X (.BoolOp .And (b :: rest) pos) tb) : PE X (.BoolOp .And (a :: b :: rest) pos) (tAndV ta tb) := by
  intro pins s σ H Q I h
  refine BoolOp_and (thn (ha pins s σ H _ I h) fun v s1 ⟨x, H1, I1, r1, q1⟩ => ?_)
  obtain ⟨c, rfl, q1⟩ := q1
  cases r1
  refine wpAny_truthy_bool ?_
  cases c with
  | true => exact hb pins s1 σ H1 Q I1 q1
  | false => exact ⟨.bl false, H1, I1, rfl, q1⟩
def tIf (t : TT) (ta tb : TE) : TE := fun σ H Q => t σ H fun c H1 => if c = true then ta σ H1 Q else tb σ H1 Q
theorem pe_ifExp {c : Expr} (hc : PT X c tA) (ha : PE X a ta) (hb : PE X b tb) : PE X (.IfExp c a b pos) (tIf tA ta tb) := by
  intro pins s σ H Q I h
  refine wpAny_IfExp (thn (hc pins s σ H _ I h) fun d s1 ⟨H1, I1, q1⟩ => ?_)
  cases d with
  | true => exact ha pins s1 σ H1 Q I1 q1
  | false => exact hb pins s1 σ H1 Q I1 q1
end
end L2
namespace L2
open PySem PySem.Spec PyProof.Rows
def SqL (K : PySem.W.Frag) (H : Hp) (a : Addr) (xs : List V) : Prop :=
  Rd H a (.lst xs) ∨
    ∃ (o : Obj) (its : Array Value) (n : Nat), K.lookup a = some o /\ o.cls = .type "list" /\ o.dict = none /\ o.data = .seq its n /\ its.size <= sizeLine /\ Vals xs its.toList
def SqT (K : PySem.W.Frag) (H : Hp) (a : Addr) (xs : List V) : Prop :=
  Rd H a (.tup xs) ∨
    ∃ (o : Obj) (its : Array Value) (n : Nat), K.lookup a = some o /\ o.cls = .type "tuple" /\ o.data = .seq its n /\ its.size <= sizeLine /\ Vals xs its.toList
def absV : Value -> Option V
  | .none => some .non
  | .bool b => some (.bl b)
  | .int i _ => some (.int i)
  | .str x _ => some (.str x)
  | .bytes b _ => some (.byt b)
  | .float b _ => some (.flt b)
  | .ref a => some (.ref a)
  | .type n => some (.ty n)
  | _ => none
theorem RelV.abs {x : V} {u : Value} (r : RelV x u) : absV u = some x := by
  cases x with
  | non => cases r; rfl
  | bl _ => cases r; rfl
  | int _ => obtain ⟨t, rfl⟩ := r; rfl
  | str _ => obtain ⟨t, rfl⟩ := r; rfl
  | byt _ => obtain ⟨t, rfl⟩ := r; rfl
  | flt _ => obtain ⟨t, rfl⟩ := r; rfl
  | ref _ => cases r; rfl
  | ty _ => cases r; rfl
theorem RelV.inj {x y : V} {u : Value} (r : RelV x u) (q : RelV y u) : x = y := Option.some.inj (r.abs.symm.trans q.abs)
theorem Vals.inj : ∀ {xs ys : List V} {us : List Value}, Vals xs us -> Vals ys us -> xs = ys
  | _, _, _, .nil, .nil => rfl
  | _, _, _, .cons r t, .cons r' t' => by rw [r.inj r', Vals.inj t t']
section
variable {X : Cx} {pins : List (Addr × Obj)} {σ : St} {H : Hp} {s : Shared} {a : Addr} {xs ys : List V}
theorem SqL.of {K : PySem.W.Frag} (h : H a = some (.lst xs)) : SqL K H a xs := .inl (.inl h)
theorem Inv.list (I : Inv X pins σ H s) (h : SqL X.K H a xs) : ∃ its : List Value, Vals xs its /\ PlainL s.heap a its.toArray /\ xs.length <= sizeLine := by
  rcases h with h | ⟨o, its, n, hk, hc, hd, hs, hz, r⟩
  · obtain ⟨z, its, n, r, e⟩ := h.ok I.hok
    exact ⟨its, r, ⟨_, n, e, rfl, rfl, rfl⟩, z⟩
  · refine ⟨its.toList, r, ⟨o, n, I.kIn a o hk, hc, hd, by simpa using hs⟩, ?_⟩
    have e := r.length
    simp only [Array.length_toList] at e
    omega
theorem Inv.tuple (I : Inv X pins σ H s) (h : SqT X.K H a xs) : ∃ its : List Value, Vals xs its /\ IsTup s.heap a its.toArray /\ xs.length <= sizeLine := by
  rcases h with h | ⟨o, its, n, hk, hc, hs, hz, r⟩
  · obtain ⟨z, its, r, p⟩ := h.ok I.hok
    exact ⟨its, r, p.tup, z⟩
  · refine ⟨its.toList, r, ⟨o, I.kIn a o hk, hc, n, by simpa using hs⟩, ?_⟩
    have e := r.length
    simp only [Array.length_toList] at e
    omega
theorem Inv.list_inj (I : Inv X pins σ H s) (h : SqL X.K H a xs) (h' : SqL X.K H a ys) : xs = ys := by
  obtain ⟨its, r, ⟨o, n, e, _, _, d⟩, _⟩ := I.list h
  obtain ⟨its', r', ⟨o', n', e', _, _, d'⟩, _⟩ := I.list h'
  rw [e] at e'; cases e'
  rw [d] at d'
  injection d' with d1 _
  have : its = its' := by simpa using congrArg Array.toList d1
  subst this
  exact r.inj r'
theorem Inv.tuple_inj (I : Inv X pins σ H s) (h : SqT X.K H a xs) (h' : SqT X.K H a ys) : xs = ys := by
  obtain ⟨its, r, ⟨o, e, _, n, d⟩, _⟩ := I.tuple h
  obtain ⟨its', r', ⟨o', e', _, n', d'⟩, _⟩ := I.tuple h'
  rw [e] at e'; cases e'
  rw [d] at d'
  injection d' with d1 _
  have : its = its' := by simpa using congrArg Array.toList d1
  subst this
  exact r.inj r'
end
abbrev Cx.wish (X : Cx) (E : Value -> Shared -> Prop) : Cx := { X with xe := E }
abbrev Cx.nox (X : Cx) : Cx := X.wish fun _ _ => False
theorem Cx.Ok.wish {X : Cx} (ok : X.Ok) (E : Value -> Shared -> Prop) : (X.wish E).Ok :=
  ⟨ok.mod, ok.kind, ok.glob, ok.blt, ok.above, ok.inj, ok.has, ok.cab, ok.hd, ok.frames, ok.stk, ok.exf, ok.bs, ok.bsz, ok.noex, ok.exfs, ok.funs, ok.frf⟩
theorem Cx.Ok.unwish {X : Cx} {E : Value -> Shared -> Prop} (ok : (X.wish E).Ok) : X.Ok :=
  ⟨ok.mod, ok.kind, ok.glob, ok.blt, ok.above, ok.inj, ok.has, ok.cab, ok.hd, ok.frames, ok.stk, ok.exf, ok.bs, ok.bsz, ok.noex, ok.exfs, ok.funs, ok.frf⟩
section
variable {X : Cx} {pins : List (Addr × Obj)} {σ : St} {H : Hp} {s : Shared} {E : Value -> Shared -> Prop}
theorem Inv.wish (I : Inv X pins σ H s) (E : Value -> Shared -> Prop) : Inv (X.wish E) pins σ H s := ⟨I.ok.wish E, I.os, I.bare, I.base, I.loc, I.cell, I.free, I.freeC, I.pin, I.hok, I.len⟩
theorem Inv.unwish (I : Inv (X.wish E) pins σ H s) : Inv X pins σ H s := ⟨I.ok.unwish, I.os, I.bare, I.base, I.loc, I.cell, I.free, I.freeC, I.pin, I.hok, I.len⟩
theorem SP.unwish {D : Ends} {f : Flow} {s' : Shared} (h : SP (X.wish E) pins D f s') : SP X pins D f s' := by
  cases f with
  | next => obtain ⟨σ', H', I, q⟩ := h; exact ⟨σ', H', I.unwish, q⟩
  | brk => obtain ⟨σ', H', I, q⟩ := h; exact ⟨σ', H', I.unwish, q⟩
  | cont => obtain ⟨σ', H', I, q⟩ := h; exact ⟨σ', H', I.unwish, q⟩
  | ret u => obtain ⟨v, σ', H', I, r, q⟩ := h; exact ⟨v, σ', H', I.unwish, r, q⟩
theorem PSs.nox {st : List Stmt} {t : TS} (h : PSs X.nox st t) : PSs X st t := fun pins s σ H D I hw =>
  wpAny_mono (h pins s σ H D (I.wish _) hw) (fun _ _ q => q.unwish) fun _ _ z => False.elim z
end
section
variable {X : Cx} {st : Stmt} {rest : List Stmt} {t u : TS} {e : Expr} {te : TE} {pos : Pos}
def tNext : TS := fun D σ H => D.nx σ H
def tSeq (t u : TS) : TS := fun D σ H => t { D with nx := u D } σ H
theorem pss_nil : PSs X [] tNext := fun _ _ σ H _ I h => wpAny_execs_nil ⟨σ, H, I, h⟩
theorem pss_cons (h1 : PS X st t) (h2 : PSs X rest u) : PSs X (st :: rest) (tSeq t u) := by
  intro pins s σ H D I h
  refine wpAny_execs_cons (thn (h1 pins s σ H { D with nx := u D } I h) fun f s1 q => ?_)
  cases f with
  | next =>
    obtain ⟨σ', H', I', q⟩ := q
    exact h2 pins s1 σ' H' D I' q
  | ret v => exact q
  | brk => exact q
  | cont => exact q
theorem pss_one (h1 : PS X st t) : PSs X [st] t := by
  intro pins s σ H D I h
  refine wpAny_execs_cons (thn (h1 pins s σ H D I h) fun f s1 q => ?_)
  cases f with
  | next => exact wpAny_execs_nil q
  | ret v => exact q
  | brk => exact q
  | cont => exact q
theorem Inv.quiet {pins : List (Addr × Obj)} {σ : St} {H : Hp} {s : Shared} (I : Inv X pins σ H s) : interactive X.env = false := by simp [interactive, I.ok.kind]
def tDrop (te : TE) : TS := fun D σ H => te σ H fun _ H1 => D.nx σ H1
theorem ps_expr (he : PE X e te) (hs : swapsWith e none pos.line X.env = pure false := by rfl) : PS X (.Expr e pos) (tDrop te) := by
  intro pins s σ H D I h
  exact wpAny_Expr_any (thn (he pins s σ H _ I h) fun v s1 ⟨x, H1, I1, r1, q1⟩ => ⟨σ, H1, I1, q1⟩) I.quiet hs
def tRet (te : TE) : TS := fun D σ H => te σ H D.rt
theorem ps_ret (he : PE X e te) : PS X (.Return (some e) pos) (tRet te) := by
  intro pins s σ H D I h
  exact wpAny_Return_some (thn (he pins s σ H _ I h) fun v s1 ⟨x, H1, I1, r1, q1⟩ => ⟨x, σ, H1, I1, r1, q1⟩)
def tIfS (c : TT) (t u : TS) : TS := fun D σ H => c σ H fun b H1 => if b = true then t D σ H1 else u D σ H1
theorem ps_if {c : Expr} {a b : List Stmt} {tc : TT} (hc : PT X c tc) (ha : PSs X a t) (hb : PSs X b u) : PS X (.If c a b pos) (tIfS tc t u) := by
  intro pins s σ H D I h
  refine wpAny_If (thn (hc pins s σ H _ I h) fun d s1 ⟨H1, I1, q1⟩ => ?_)
  cases d with
  | true => exact ha pins s1 σ H1 D I1 q1
  | false => exact hb pins s1 σ H1 D I1 q1
def tNever : TS := fun _ _ _ => False
theorem pss_never {sts : List Stmt} : PSs X sts tNever := fun _ _ _ _ _ _ h => h.elim
end
abbrev TG := V -> St -> Hp -> (St -> Hp -> Prop) -> Prop
abbrev TGs := List V -> St -> Hp -> (St -> Hp -> Prop) -> Prop
def PG (X : Cx) (target : Expr) (t : TG) : Prop :=
  ∀ (pins : List (Addr × Obj)) (s : Shared) (σ : St) (H : Hp) (v : V) (u : Value) (Q : St -> Hp -> Prop), Inv X pins σ H s -> RelV v u -> t v σ H Q ->
    wpAny (model X.prog X.w) X.A (assign target X.env u) (fun _ s' => ∃ σ' H', Inv X pins σ' H' s' /\ Q σ' H') X.xe s
def PGs (X : Cx) (ts : List Expr) (t : TGs) : Prop :=
  ∀ (pins : List (Addr × Obj)) (s : Shared) (σ : St) (H : Hp) (vs : List V) (us : List Value) (Q : St -> Hp -> Prop), Inv X pins σ H s -> Vals vs us -> t vs σ H Q ->
    wpAny (model X.prog X.w) X.A (assignInOrder ((assignEach ts X.env).map (·.2)) us) (fun _ s' => ∃ σ' H', Inv X pins σ' H' s' /\ Q σ' H') X.xe s
section
variable {X : Cx} {pos : Pos}
def gName (i : Nat) : TG := fun v σ H Q => Q (σ.set i (some v)) H
theorem pg_name {i : Nat} {x : Str} (hN : X.N.Nodup) (hi : X.N[i]? = some x) (hx : Loc X.env.scope x) (hf : X.fn x = true ∨ X.env.scope.names.lookup x = some .local := by first | exact .inl rfl | exact .inr rfl | assumption) : PG X (.Name x pos) (gName i) := by
  intro pins s σ H v u Q I r h
  exact wpAny_assign_Name (store_ok I hN hi hx r (fun s' I' => ⟨_, H, I', h⟩) hf)
def gNil : TGs := fun vs σ H Q => vs = [] /\ Q σ H
def gCons (t : TG) (u : TGs) : TGs := fun vs σ H Q => ∃ v r, vs = v :: r /\ t v σ H fun σ' H' => u r σ' H' Q
theorem pgs_nil : PGs X [] gNil := by
  intro pins s σ H vs us Q I r h
  obtain ⟨e, h⟩ := h
  subst e
  cases r
  exact assignInOrder_nil ⟨σ, H, I, h⟩
theorem pgs_cons {e : Expr} {es : List Expr} {t : TG} {u : TGs} (h1 : PG X e t) (h2 : PGs X es u)
    (hs : (assignEach (e :: es) X.env).map (·.2) = assign e X.env :: (assignEach es X.env).map (·.2) := by rfl) : PGs X (e :: es) (gCons t u) := by
  intro pins s σ H vs us Q I r h
  obtain ⟨v, vr, e1, h⟩ := h
  subst e1
  cases r with
  | cons r rr =>
    rw [hs]
    refine assignInOrder_cons (thn (h1 pins s σ H _ _ _ I r h) fun _ s1 ⟨σ1, H1, I1, q1⟩ => ?_)
    exact h2 pins s1 σ1 H1 _ _ Q I1 rr q1
def gTup (K : PySem.W.Frag) (n : Nat) (t : TGs) : TG := fun v σ H Q => ∃ a xs, v = .ref a /\ SqT K H a xs /\ xs.length = n /\ t xs σ H Q
theorem pg_tup {es : List Expr} {k : Nat} {t : TGs} {n : Nat} (hc : X.calm = true) (h : PGs X es t)
    (hn : (assignEach es X.env).length = n := by rfl) (hst : (assignEach es X.env).findIdx? (·.1) = none := by rfl) : PG X (.Tuple es k pos) (gTup X.K n t) := by
  intro pins s σ H v u Q I r hw
  obtain ⟨a, xs, e1, hq, hl, hw⟩ := hw
  subst e1
  cases r
  obtain ⟨its, rv, ht, hz⟩ := I.tuple hq
  refine assign_Tuple_tuple (I.ok.hd hc) ht (by simp [hn, ← hl, rv.length]) hst fun h' hx => ?_
  have I1 : Inv X pins σ H { s with heap := h' } := I.kept (t' := s.toks) fun b o e => hx b o (Nat.ne_of_lt (Heap.lt_size e)) e
  exact h pins _ σ H xs _ Q I1 (by simpa using rv) hw
def tAsg (te : TE) (g : TG) : TS := fun D σ H => te σ H fun x H1 => g x σ H1 D.nx
theorem ps_set {i : Nat} {x : Str} {e : Expr} {te : TE} {pos' : Pos} (hN : X.N.Nodup) (hi : X.N[i]? = some x) (hx : Loc X.env.scope x) (he : PE X e te) (hs : swapsWith e (some (.Name x pos')) pos.line X.env = pure false := by rfl) (hf : X.fn x = true ∨ X.env.scope.names.lookup x = some .local := by first | exact .inl rfl | exact .inr rfl | assumption) :
    PS X (.Assign [.Name x pos'] e pos) (tAsg te (gName i)) := by
  intro pins s σ H D I h
  refine wpAny_Assign_Name (thn (he pins s σ H _ I h) fun v s1 ⟨y, H1, I1, r1, q1⟩ => ?_) hs
  exact store_ok I1 hN hi hx r1 (fun s2 I2 => ⟨_, H1, I2, q1⟩) hf
def tPar (i j : Nat) (ta : TA) : TS := fun D σ H => ta σ H fun vs H1 => ∃ v w, vs = [v, w] /\ D.nx ((σ.set i (some v)).set j (some w)) H1
theorem ps_par {i j : Nat} {x y : Str} {a b : Expr} {ta : TA} {px py pt : Pos} {kt k2 pt2} (hc : X.calm = true) (hN : X.N.Nodup) (hi : X.N[i]? = some x) (hj : X.N[j]? = some y) (hij : i ≠ j)
    (hx : X.env.scope.names.lookup x = some .local) (hy : X.env.scope.names.lookup y = some .local) (ha : PA X [a, b] ta)
    (hw : swappedStores [.Tuple [.Name x px, .Name y py] kt pt] (.Tuple [a, b] k2 pt2) X.env = pure (some [x, y]))
    (hs : swapsWithSole [.Tuple [.Name x px, .Name y py] kt pt] (.Tuple [a, b] k2 pt2) pos.line X.env = pure false := by rfl) :
    PS X (.Assign [.Tuple [.Name x px, .Name y py] kt pt] (.Tuple [a, b] k2 pt2) pos) (tPar i j ta) := by
  intro pins s σ H D I h
  rw [exec_Assign_arm]
  refine wpAny_bind (wpAny_standAt ?_)
  rw [hs]
  refine wpAny_bind (wpAny_pure ?_)
  rw [if_neg (by decide)]
  refine wpAny_bind (Tuple_ (thn (ha _ pins s σ H _ I h) fun us s1 ⟨vs, H1, I1, r1, q1⟩ => ?_))
  obtain ⟨v, w, e1, q1⟩ := q1
  subst e1
  obtain ⟨u1, u2, rfl, rv, rw'⟩ : ∃ u1 u2, us = [u1, u2] /\ RelV v u1 /\ RelV w u2 := by
    cases r1 with
    | cons p q =>
      cases q with
      | cons p' q' =>
        cases q'
        exact ⟨_, _, rfl, p, p'⟩
  refine wpAny_newObj_type ?_ (by show 2 <= sizeLine; decide)
  have I2 : Inv X pins σ H1 { s1 with heap := s1.heap.push { cls := .type "tuple", data := .seq [u1, u2].toArray } } := I1.kept (t' := s1.toks) fun b o e => Heap.get?_push_of_some _ e
  rw [hw]
  refine wpAny_bind (wpAny_pure ?_)
  show wpAny (model X.prog X.w) X.A (do rule "assign.swapped-stores"; let items ← unpackItems (.ref s1.heap.objs.size) 2 none; assignInOrder [fun v => bindName X.env y v, fun v => bindName X.env x v] items.reverse; pure Flow.next) _ _ _
  refine wpAny_bind (wpAny_rule (wpAny_bind (unpackItems_tuple (items := #[u1, u2]) (I.ok.hd hc) (IsTup.new s1.heap _) fun h' hx' => ?_)))
  have I3 := I2.kept (h' := h') (t' := s1.toks) fun b o e => hx' b o (Nat.ne_of_lt (Heap.lt_size e)) e
  show wpAny _ _ (assignInOrder [fun v => bindName X.env y v, fun v => bindName X.env x v] [u2, u1] >>= fun _ => pure Flow.next) _ _ _
  refine wpAny_bind (assignInOrder_cons (wpAny_bindName (store_ok I3 hN hj (.inl hy) rw' (fun s2 I4 => ?_) (.inr hy))))
  refine assignInOrder_cons (wpAny_bindName (store_ok I4 hN hi (.inl hx) rv (fun s3 I5 => assignInOrder_nil (wpAny_pure ?_)) (.inr hx)))
  rw [List.set_comm _ _ (Ne.symm hij)] at I5
  exact ⟨_, H1, I5, q1⟩
end
section
variable {X : Cx} {pos : Pos}
def tWhile (c : TT) (tb : TS) : TS := fun D σ H => ∃ W : Nat -> St -> Hp -> Prop, (∃ m, W m σ H) /\ ∀ m σ H, W m σ H ->
  c σ H fun b H1 => if b = true then ∃ N : St -> Hp -> Prop, (∀ σ' H', N σ' H' -> ∃ m', m' < m /\ W m' σ' H') /\ tb { D with nx := N, ct := N, bk := D.nx } σ H1 else D.nx σ H1
theorem ps_while {c : Expr} {body : List Stmt} {tc : TT} {tb : TS} (hp : PassesOwn (model X.prog X.w) X.A X.env X.xe) (hc : PT X c tc) (hb : PSs X body tb) : PS X (.While c body [] pos) (tWhile tc tb) := by
  intro pins s σ H D I h
  obtain ⟨W, ⟨m0, w0⟩, turn⟩ := h
  refine wpAny_While (codeAny_whileLoop (fun n s' => ∃ σ' H', Inv X pins σ' H' s' /\ W n σ' H') ?_ m0 ⟨σ, H, I, w0⟩)
  rintro n s1 ⟨σ1, H1, I1, w1⟩
  refine wpAny_passesOwn hp (thn (hc pins s1 σ1 H1 _ I1 (turn n σ1 H1 w1)) fun b s2 ⟨H2, I2, q2⟩ => ?_)
  cases b with
  | true =>
    obtain ⟨N, hN, q2⟩ := q2
    rw [if_pos rfl]
    refine wpAny_passesOwn hp (thn (hb pins s2 σ1 H2 _ I2 q2) fun f s3 q3 => ?_)
    cases f with
    | next =>
      obtain ⟨σ3, H3, I3, n3⟩ := q3
      obtain ⟨m', hm, w3⟩ := hN σ3 H3 n3
      exact ⟨m', hm, σ3, H3, I3, w3⟩
    | cont =>
      obtain ⟨σ3, H3, I3, n3⟩ := q3
      obtain ⟨m', hm, w3⟩ := hN σ3 H3 n3
      exact ⟨m', hm, σ3, H3, I3, w3⟩
    | brk => exact q3
    | ret v => exact q3
  | false =>
    rw [if_neg Bool.false_ne_true]
    exact wpAny_execs_nil ⟨σ1, H2, I2, q2⟩
end
structure It where
  go : Nat -> Hp -> Prop
  yld : Nat -> Hp -> V -> Hp -> Prop
  stop : Nat -> Hp -> Prop
def FpOk (X : Cx) (pins : List (Addr × Obj)) (H : Hp) (b : Addr) : Prop :=
  H b = none /\ b ≠ X.env.locals /\ b ∉ X.fs /\ (b ∈ X.ex ∨ X.s₀.heap.objs.size <= b) /\ (∀ x c, X.env.cells.lookup x = some c -> c ≠ b) /\ ∀ p ∈ X.pn ++ pins, p.1 ≠ b
theorem Inv.fpOk {X : Cx} {pins : List (Addr × Obj)} {σ : St} {H H' : Hp} {s : Shared} {b : Addr} (I : Inv X pins σ H s) (hb : s.heap.objs.size <= b) (hn : H' b = none) : FpOk X pins H' b := by
  refine ⟨hn, Nat.ne_of_gt (Nat.lt_of_lt_of_le I.lt hb), I.nofs hb, .inr (Nat.le_trans I.sz hb), fun x c e z => ?_, fun p hp z => ?_⟩
  · obtain ⟨v, q⟩ := I.cell x c e
    exact absurd (Nat.lt_of_lt_of_le q.lt (by rw [z]; exact hb)) (Nat.lt_irrefl _)
  · exact absurd (Nat.lt_of_lt_of_le (Heap.lt_size (I.pin p hp).1) (by rw [z]; exact hb)) (Nat.lt_irrefl _)
structure Turn (P : Program) (w : World) (K : PySem.W.Frag) (tg : Expr) (J : It) (fp : List Addr) (it : Addr) (tn : Nat -> Heap -> Prop) : Prop where
  mem : it ∈ fp
  obj : ∀ i h, tn i h -> ∀ b ∈ fp, ∃ o, h.get? b = some o /\ ∀ v, o.data ≠ .cell v
  keep : ∀ i h h', tn i h -> (∀ b ∈ fp, ∀ o, h.get? b = some o -> h'.get? b = some o) -> tn i h'
  item : ∀ (X : Cx), X.prog = P -> X.w = w -> X.K = K -> X.calm = true -> ∀ (i : Nat) (pins : List (Addr × Obj)) (s : Shared) (σ : St) (H : Hp) (E : Value -> Shared -> Prop), Inv X pins σ H s -> (∀ b ∈ fp, FpOk X pins H b) -> tn i s.heap -> J.go i H ->
    wpAny (model P w) X.A (pyNext (.ref it)) (fun r s1 => ∃ u, r = some u /\
      wpAny (model P w) X.A (letOwnedTupleGo tg (.ref it) u) (fun _ s2 => ∃ x H', Inv X pins σ H' s2 /\ RelV x u /\ J.yld i H x H' /\ tn (i + 1) s2.heap /\ ∀ b ∈ fp, H' b = none) E s1) E s
  done : ∀ (X : Cx), X.prog = P -> X.w = w -> X.K = K -> X.calm = true -> ∀ (i : Nat) (pins : List (Addr × Obj)) (s : Shared) (σ : St) (H : Hp) (E : Value -> Shared -> Prop), Inv X pins σ H s -> (∀ b ∈ fp, FpOk X pins H b) -> tn i s.heap -> J.stop i H ->
    wpAny (model P w) X.A (pyNext (.ref it)) (fun r s1 => r = none /\ Inv X pins σ H s1) E s
  self : ∀ (A : Around) (i : Nat) (s : Shared) (Q : Value -> Shared -> Prop) (E : Value -> Shared -> Prop), tn i s.heap -> Q (.ref it) s -> wpAny (model P w) A (pyIter (.ref it)) Q E s
abbrev TI := St -> Hp -> (It -> Hp -> Prop) -> Prop
def PIE (X : Cx) (pins : List (Addr × Obj)) (σ : St) (tg : Expr) (R : It -> Hp -> Prop) (itv : Value) (s2 : Shared) : Prop :=
  ∃ (it : Addr) (fp : List Addr) (tn : Nat -> Heap -> Prop) (J : It) (H' : Hp), itv = .ref it /\ Inv X pins σ H' s2 /\ Turn X.prog X.w X.K tg J fp it tn /\ tn 0 s2.heap /\ (∀ b ∈ fp, FpOk X pins H' b) /\ R J H'
def PI (X : Cx) (tg iter : Expr) (wi : TI) : Prop :=
  ∀ (pins : List (Addr × Obj)) (s : Shared) (σ : St) (H : Hp) (R : It -> Hp -> Prop), Inv X pins σ H s -> wi σ H R ->
    wpAny (model X.prog X.w) X.A (eval iter X.env) (fun v s1 => wpAny (model X.prog X.w) X.A (pyIter v) (PIE X pins σ tg R) X.xe s1) X.xe s
theorem go_of {M : Model} {A : Around} {E : Value -> Shared -> Prop} {s : Shared} {tg : Expr} {it : Addr} {u : Value} {o : Obj} {n : String} {vs : Array Value} {Q : Unit -> Shared -> Prop} (ho : s.heap.get? it = some o) (hc : o.cls = .type n) (hd : o.data = .fields vs)
    (hn : ["enumerate", "zip", "dict_itemiterator", "dict_reverseitemiterator", "odict_iterator", "itertools.zip_longest", "itertools.pairwise"].contains n = false) (hQ : Q () s) : wpAny M A (letOwnedTupleGo tg (.ref it) u) Q E s := by
  unfold letOwnedTupleGo
  cases tg <;> first
    | exact wpAny_pure hQ
    | (cases u <;> first
        | exact wpAny_pure hQ
        | (refine wpAny_bind (wpAny_load ho ?_)
           rw [hc, hd]
           show wpAny M A (if (["enumerate", "zip", "dict_itemiterator", "dict_reverseitemiterator", "odict_iterator", "itertools.zip_longest", "itertools.pairwise"].contains n && vs[0]? == some (rawInt _)) = true then _ else _) Q E s
           rw [if_neg (by intro h; rw [hn, Bool.false_and] at h; cases h)]
           exact wpAny_pure hQ))
def Itl (K : PySem.W.Frag) (a : Addr) : It :=
  ⟨fun i H => ∃ xs x, SqL K H a xs /\ xs[i]? = some x, fun i H x H' => H' = H /\ ∀ xs, SqL K H a xs -> xs[i]? = some x, fun i H => ∃ xs, SqL K H a xs /\ xs.length <= i⟩
def Itt (K : PySem.W.Frag) (a : Addr) : It :=
  ⟨fun i H => ∃ xs x, SqT K H a xs /\ xs[i]? = some x, fun i H x H' => H' = H /\ ∀ xs, SqT K H a xs -> xs[i]? = some x, fun i H => ∃ xs, SqT K H a xs /\ xs.length <= i⟩
def Itr (lo : Int) (n : Nat) : It := ⟨fun i _ => i < n, fun i H x H' => H' = H /\ x = .int (lo + i), fun i _ => n <= i⟩
theorem turn_list {P : Program} {w : World} {K : PySem.W.Frag} {tg : Expr} (a it : Addr) : Turn P w K tg (Itl K a) [it] it (fun i h => h.IsListIter it a i) where
  mem := by simp
  obj := fun i h st b hb => by
    have e : b = it := by simpa using hb
    subst e
    obtain ⟨o, e, c, d⟩ := st
    exact ⟨o, e, fun v z => by rw [d] at z; cases z⟩
  keep := fun i h h' st k => st.at fun o e => k it (by simp) o e
  item := by
    intro X hP hw hK hc i pins s σ H E I hf st hg
    subst hP hw hK
    obtain ⟨xs, x, hq, hx⟩ := hg
    obtain ⟨its, rv, p, hz⟩ := I.list hq
    obtain ⟨u, hu, ru⟩ := rv.get hx
    obtain ⟨f0, f1, f2, f3, f4, f5⟩ := hf it (by simp)
    refine wpAny_pyNext_list_item st p.isList (x := u) (by simpa using hu) fun h' st' sb => ?_
    have I1 : Inv X pins σ H { s with heap := h' } := I.turned (t' := s.toks) (fun b o hb e => (sb.2 b hb).trans e) f0 f1 f3 f4 f5
    obtain ⟨o, e, c, d⟩ := id st'
    exact ⟨u, rfl, go_of (s := { s with heap := h' }) e c d (by decide) ⟨x, H, I1, ru, ⟨rfl, fun ys hy => by rw [I.list_inj hy hq]; exact hx⟩, st', fun b hb => (hf b hb).1⟩⟩
  done := by
    intro X hP hw hK hc i pins s σ H E I hf st hg
    subst hP hw hK
    obtain ⟨xs, hq, hx⟩ := hg
    obtain ⟨its, rv, p, hz⟩ := I.list hq
    obtain ⟨f0, f1, f2, f3, f4, f5⟩ := hf it (by simp)
    have hl := rv.length
    exact wpAny_pyNext_list_end (I.ok.hd hc) st p.isList (by simp; omega) fun h' eb => ⟨rfl, I.turned (t' := s.toks) (fun b o hb e => eb b o hb e) f0 f1 f3 f4 f5⟩
  self := fun _ _ _ _ _ st h => wpAny_pyIter_listiter st h
theorem turn_tuple {P : Program} {w : World} {K : PySem.W.Frag} {tg : Expr} (a it : Addr) : Turn P w K tg (Itt K a) [it] it (fun i h => h.IsTupleIter it a i) where
  mem := by simp
  obj := fun i h st b hb => by
    have e : b = it := by simpa using hb
    subst e
    obtain ⟨o, e, c, d⟩ := st
    exact ⟨o, e, fun v z => by rw [d] at z; cases z⟩
  keep := fun i h h' st k => st.at fun o e => k it (by simp) o e
  item := by
    intro X hP hw hK hc i pins s σ H E I hf st hg
    subst hP hw hK
    obtain ⟨xs, x, hq, hx⟩ := hg
    obtain ⟨its, rv, p, hz⟩ := I.tuple hq
    obtain ⟨u, hu, ru⟩ := rv.get hx
    obtain ⟨f0, f1, f2, f3, f4, f5⟩ := hf it (by simp)
    refine wpAny_pyNext_tuple_item st (show s.heap.IsTuple a its.toArray from p) (x := u) (by simpa using hu) fun h' st' sb => ?_
    have I1 : Inv X pins σ H { s with heap := h' } := I.turned (t' := s.toks) (fun b o hb e => (sb.2 b hb).trans e) f0 f1 f3 f4 f5
    obtain ⟨o, e, c, d⟩ := id st'
    exact ⟨u, rfl, go_of (s := { s with heap := h' }) e c d (by decide) ⟨x, H, I1, ru, ⟨rfl, fun ys hy => by rw [I.tuple_inj hy hq]; exact hx⟩, st', fun b hb => (hf b hb).1⟩⟩
  done := by
    intro X hP hw hK hc i pins s σ H E I hf st hg
    subst hP hw hK
    obtain ⟨xs, hq, hx⟩ := hg
    obtain ⟨its, rv, p, hz⟩ := I.tuple hq
    obtain ⟨f0, f1, f2, f3, f4, f5⟩ := hf it (by simp)
    have hl := rv.length
    exact wpAny_pyNext_tuple_end (I.ok.hd hc) st (show s.heap.IsTuple a its.toArray from p) (by simp; omega) fun h' eb => ⟨rfl, I.turned (t' := s.toks) (fun b o hb e => eb b o hb e) f0 f1 f3 f4 f5⟩
  self := fun _ _ _ _ _ st h => wpAny_pyIter_tupleiter st h
theorem turn_range {P : Program} {w : World} {K : PySem.W.Frag} {tg : Expr} (it : Addr) (lo : Int) (n : Nat) : Turn P w K tg (Itr lo n) [it] it (fun i h => IsRangeIter h it (lo + (i : Nat) * 1) ((n : Int) - (i : Nat)) 1) where
  mem := by simp
  obj := fun i h st b hb => by
    have e : b = it := by simpa using hb
    subst e
    exact ⟨_, st, fun v z => by
      have z' : Data.fields _ = Data.cell v := z
      cases z'⟩
  keep := fun i h h' st k => k it (by simp) _ st
  item := by
    intro X hP hw hK hc i pins s σ H E I hf st hg
    subst hP hw hK
    obtain ⟨f0, f1, f2, f3, f4, f5⟩ := hf it (by simp)
    have W := Walks.range (prog := X.prog) (w := X.w) (I.ok.hd hc) it lo 1 n
    refine W.item i s _ _ hg st fun v h' tk hv st' kk => ?_
    obtain ⟨t, rfl⟩ := hv
    have I1 : Inv X pins σ H { s with heap := h', toks := tk } := I.turned (fun b o hb e => kk b o (by simpa using hb) e) f0 f1 f3 f4 f5
    refine ⟨_, rfl, go_of (s := { s with heap := h', toks := tk }) (n := "range_iterator") st' rfl rfl (by decide) ⟨.int (lo + i), H, I1, ⟨t, ?_⟩, ⟨rfl, rfl⟩, st', fun b hb => (hf b hb).1⟩⟩
    rw [Int.mul_one]
  done := by
    intro X hP hw hK hc i pins s σ H E I hf st hg
    subst hP hw hK
    obtain ⟨f0, f1, f2, f3, f4, f5⟩ := hf it (by simp)
    exact wpAny_pyNext_range_end (I.ok.hd hc) st (by have : n <= i := hg; omega) fun h' eb => ⟨rfl, I.turned (t' := s.toks) (fun b o hb e => eb b o hb e) f0 f1 f3 f4 f5⟩
  self := fun _ _ _ _ _ st h => wpAny_pyIter_rangeiter st h
end L2
namespace L2
open PySem PySem.Spec PyProof.Rows
section
variable {X : Cx} {tg : Expr}
theorem range_it {pins : List (Addr × Obj)} {σ : St} {H : Hp} {s : Shared} {R : It -> Hp -> Prop} {E : Value -> Shared -> Prop} {lo hi : Int} {t u v : Tok} {tk : Nat} (I : Inv X pins σ H s) (h1 : -(2 ^ 62) <= lo) (h2 : lo < 2 ^ 62) (h3 : -(2 ^ 62) <= hi) (h4 : hi < 2 ^ 62)
    (q : R (Itr lo (hi - lo).toNat) H) : wpAny (model X.prog X.w) X.A (pyIter (.ref s.heap.objs.size)) (PIE X pins σ tg R) E { s with heap := s.heap.push { cls := .type "range", data := .fields #[.int lo t, .int hi u, .int 1 v] }, toks := tk } := by
  refine wpAny_pyIter_range (IsRange.new ..) (small_one h1 h2 h3 h4) ?_
  have I1 : Inv X pins σ H { s with heap := s.heap.push { cls := .type "range", data := .fields #[.int lo t, .int hi u, .int 1 v] }, toks := tk } := I.kept fun b o e => Heap.get?_push_of_some _ e
  refine ⟨(s.heap.push { cls := .type "range", data := .fields #[.int lo t, .int hi u, .int 1 v] }).objs.size, [(s.heap.push { cls := .type "range", data := .fields #[.int lo t, .int hi u, .int 1 v] }).objs.size], _, _, H, rfl,
    I1.kept (t' := tk) fun b o e => Heap.get?_push_of_some _ e, turn_range _ lo (hi - lo).toNat, ?_, fun b hb => ?_, q⟩
  · have e1 : lo + ((0 : Nat) : Int) * 1 = lo := by simp
    have e2 : (((hi - lo).toNat : Nat) : Int) - ((0 : Nat) : Int) = Builtin.Range.rangeSize lo hi 1 := by rw [rangeSize_one]; split <;> omega
    show IsRangeIter _ _ (lo + ((0 : Nat) : Int) * 1) ((((hi - lo).toNat : Nat) : Int) - ((0 : Nat) : Int)) 1
    rw [e1, e2]
    exact Heap.get?_push_size _ rfl
  · have e : b = (s.heap.push { cls := .type "range", data := .fields #[.int lo t, .int hi u, .int 1 v] }).objs.size := by simpa using hb
    subst e
    exact I1.fpOk (Nat.le_refl _) (I1.hok.fresh (Nat.le_refl _))
def iRng1 (ta : TA) : TI := fun σ H R => ta σ H fun vs H1 => ∃ j : Int, vs = [.int j] /\ -(2 ^ 62) <= j /\ j < 2 ^ 62 /\ R (Itr 0 j.toNat) H1
theorem pi_range1 {a : Expr} {ta : TA} {p pos : Pos} (hg : Gl X "range") (hm : X.mg "range" = none) (ha : PA X [a] ta) (hs : starEach [a] X.env = [(false, eval a X.env)] := by rfl) : PI X tg (.Call (.Name "range" p) [a] [] pos) (iRng1 ta) := by
  intro pins s σ H R I h
  refine Call_ (ld_blt I hg hm boot_range (PyProof.Rows.callWith_type1 (thn (ha pos pins s σ H _ I h) fun us s1 ⟨vs, H1, I1, r1, q1⟩ => ?_) hs rfl))
  obtain ⟨j, e, q1, q2, q⟩ := q1
  subst e
  cases r1 with
  | cons r rr =>
    cases rr
    obtain ⟨t, rfl⟩ := r
    exact call_range_1 (range_it I1 (by omega) (by omega) q1 q2 (by simpa using q))
def tFor (wi : TI) (g : TG) (tb : TS) : TS := fun D σ H => wi σ H fun J H1 => ∃ W : Nat -> Nat -> St -> Hp -> Prop, (∃ m, W 0 m σ H1) /\ ∀ i m σ H, W i m σ H ->
  (J.stop i H /\ D.nx σ H) ∨ (J.go i H /\ ∃ N : St -> Hp -> Prop, (∀ σ' H', N σ' H' -> ∃ m', m' < m /\ W (i + 1) m' σ' H') /\ ∀ x H', J.yld i H x H' -> g x σ H' fun σ2 H2 => tb { D with nx := N, ct := N, bk := D.nx } σ2 H2)
def pinsAt (fp : List Addr) (h : Heap) : List (Addr × Obj) := fp.filterMap fun b => (h.get? b).map fun o => (b, o)
theorem mem_pinsAt {fp : List Addr} {h : Heap} {b : Addr} {o : Obj} (hb : b ∈ fp) (e : h.get? b = some o) : (b, o) ∈ pinsAt fp h := List.mem_filterMap.mpr ⟨b, hb, by rw [e]; rfl⟩
theorem of_pinsAt {fp : List Addr} {h : Heap} {p : Addr × Obj} (hp : p ∈ pinsAt fp h) : p.1 ∈ fp /\ h.get? p.1 = some p.2 := by
  obtain ⟨b, hb, e⟩ := List.mem_filterMap.mp hp
  cases q : h.get? b with
  | none => rw [q] at e; cases e
  | some o =>
    rw [q] at e
    have e' : (b, o) = p := Option.some.inj e
    subst e'
    exact ⟨hb, q⟩
theorem Inv.pinned {pins : List (Addr × Obj)} {σ : St} {H : Hp} {s : Shared} {fp : List Addr} (I : Inv X pins σ H s) (hf : ∀ b ∈ fp, FpOk X pins H b) (ho : ∀ b ∈ fp, ∃ o, s.heap.get? b = some o /\ ∀ v, o.data ≠ .cell v) : Inv X (pins ++ pinsAt fp s.heap) σ H s :=
  I.pins_of fun p hp => (List.mem_append.mp hp).elim (fun z => I.pin p (List.mem_append_right _ z)) fun z => by
    obtain ⟨hb, e⟩ := of_pinsAt z
    obtain ⟨f0, f1, f2, _⟩ := hf p.1 hb
    obtain ⟨o, e', d⟩ := ho p.1 hb
    rw [e] at e'; cases e'
    exact ⟨e, f0, f1, f2, d⟩
theorem Inv.unpinned {pins pl : List (Addr × Obj)} {σ : St} {H : Hp} {s : Shared} (I : Inv X (pins ++ pl) σ H s) : Inv X pins σ H s := I.pins_of fun p hp => I.pin p (List.mem_append_right _ (List.mem_append_left _ hp))
theorem ps_for {iter : Expr} {body : List Stmt} {wi : TI} {g : TG} {tb : TS} {pos : Pos} (hp : PassesOwn (model X.prog X.w) X.A X.env X.xe) (hc : X.calm = true) (hi : PI X tg iter wi) (hg : PG X tg g) (hb : PSs X body tb)
    (hs : ∀ x, foldedSetIterable iter X.env x = pure x := by intro _; rfl) : PS X (.For tg iter body [] pos) (tFor wi g tb) := by
  intro pins s σ H D I h
  refine wpAny_For (thn (hi pins s σ H _ I h) fun v s1 h1 => thn h1 fun itv s2 h2 => ?_) hs
  obtain ⟨it, fp, tn, J, H2, e, I2, T, st2, f2, W, ⟨m0, w0⟩, turn⟩ := h2
  subst e
  -- what stays true of the iterator's objects through the loop
  have stat : ∀ {H' : Hp}, (∀ b ∈ fp, H' b = none) -> ∀ b ∈ fp, FpOk X pins H' b := fun hn b hb => ⟨hn b hb, (f2 b hb).2⟩
  refine codeAny_forLoop_any (fun n s' => ∃ i σ' H', Inv X pins σ' H' s' /\ tn i s'.heap /\ (∀ b ∈ fp, H' b = none) /\ W i n σ' H') ?_ m0 ⟨0, σ, H2, I2, st2, fun b hb => (f2 b hb).1, w0⟩
  rintro n s3 ⟨i, σ3, H3, I3, st3, fr3, w3⟩
  rcases turn i n σ3 H3 w3 with ⟨stop, qn⟩ | ⟨go, N, hN, step⟩
  · refine wpAny_passesOwn hp (thn (T.done X rfl rfl rfl hc i pins s3 σ3 H3 X.xe I3 (stat fr3) st3 stop) fun r s4 ⟨hr, I4⟩ => ?_)
    subst hr
    exact wpAny_execs_nil ⟨σ3, H3, I4, qn⟩
  · refine wpAny_passesOwn hp (thn (T.item X rfl rfl rfl hc i pins s3 σ3 H3 X.xe I3 (stat fr3) st3 go) fun r s4 ⟨u, hr, h4⟩ => ?_)
    subst hr
    refine wpAny_passesOwn hp (thn h4 fun _ s5 ⟨x, H5, I5, r5, y5, st5, fr5⟩ => ?_)
    have I5' := I5.pinned (stat fr5) (T.obj _ _ st5)
    refine wpAny_passesOwn hp (thn (hg _ s5 σ3 H5 x u _ I5' r5 (step x H5 y5)) fun _ s6 ⟨σ6, H6, I6, q6⟩ => ?_)
    refine wpAny_passesOwn hp (thn (hb _ s6 σ6 H6 _ I6 q6) fun f s7 q7 => ?_)
    have again : ∀ {σ7 : St} {H7 : Hp}, Inv X (pins ++ pinsAt fp s5.heap) σ7 H7 s7 -> N σ7 H7 -> ∃ m, m < n /\ ∃ i σ' H', Inv X pins σ' H' s7 /\ tn i s7.heap /\ (∀ b ∈ fp, H' b = none) /\ W i m σ' H' := fun {σ7 H7} I7 n7 => by
      obtain ⟨m', hm, w7⟩ := hN σ7 H7 n7
      refine ⟨m', hm, i + 1, σ7, H7, I7.unpinned, T.keep _ _ _ st5 fun b hb o e => (I7.pin (b, o) (List.mem_append_right _ (List.mem_append_right _ (mem_pinsAt hb e)))).1, fun b hb => ?_, w7⟩
      obtain ⟨o, e, d⟩ := T.obj _ _ st5 b hb
      exact (I7.pin (b, o) (List.mem_append_right _ (List.mem_append_right _ (mem_pinsAt hb e)))).2.1
    cases f with
    | next => obtain ⟨σ7, H7, I7, n7⟩ := q7; exact again I7 n7
    | cont => obtain ⟨σ7, H7, I7, n7⟩ := q7; exact again I7 n7
    | brk => obtain ⟨σ7, H7, I7, q7⟩ := q7; exact ⟨σ7, H7, I7.unpinned, q7⟩
    | ret v => obtain ⟨x7, σ7, H7, I7, r7, q7⟩ := q7; exact ⟨x7, σ7, H7, I7.unpinned, r7, q7⟩
end
end L2
namespace L2
open PySem PySem.Spec PyProof.Rows
abbrev R2 := V -> V -> Hp -> VK -> Prop
def OpR (X : Cx) (f : Value -> Value -> Sem Value) (r : R2) : Prop :=
  ∀ (pins : List (Addr × Obj)) (s : Shared) (σ : St) (H : Hp) (x y : V) (v u : Value) (Q : VK), Inv X pins σ H s -> RelV x v -> RelV y u -> r x y H Q ->
    wpAny (model X.prog X.w) X.A (f v u) (EP X pins σ Q) X.xe s
def UnR (X : Cx) (f : Value -> Sem Value) (r : V -> Hp -> VK -> Prop) : Prop :=
  ∀ (pins : List (Addr × Obj)) (s : Shared) (σ : St) (H : Hp) (x : V) (v : Value) (Q : VK), Inv X pins σ H s -> RelV x v -> r x H Q ->
    wpAny (model X.prog X.w) X.A (f v) (EP X pins σ Q) X.xe s
def CallR (X : Cx) (f : Value) (r : List V -> Hp -> VK -> Prop) : Prop :=
  ∀ (pins : List (Addr × Obj)) (s : Shared) (σ : St) (H : Hp) (xs : List V) (us : List Value) (Q : VK), Inv X pins σ H s -> Vals xs us -> r xs H Q ->
    wpAny (model X.prog X.w) X.A (call f us) (EP X pins σ Q) X.xe s
def TruR (X : Cx) (r : V -> Hp -> (Bool -> Hp -> Prop) -> Prop) : Prop :=
  ∀ (pins : List (Addr × Obj)) (s : Shared) (σ : St) (H : Hp) (x : V) (v : Value) (Q : Bool -> Hp -> Prop), Inv X pins σ H s -> RelV x v -> r x H Q ->
    wpAny (model X.prog X.w) X.A (truthy v) (TP X pins σ Q) X.xe s
def tOp (r : R2) (ta tb : TE) : TE := fun σ H Q => ta σ H fun x H1 => tb σ H1 fun y H2 => r x y H2 Q
def tUn (r : V -> Hp -> VK -> Prop) (ta : TE) : TE := fun σ H Q => ta σ H fun x H1 => r x H1 Q
def rI (C : Int -> Int -> Prop) (g : Int -> Int -> V) : R2 := fun x y H Q => ∃ i j, x = .int i /\ y = .int j /\ C i j /\ Q (g i j) H
def rI0 (g : Int -> Int -> V) : R2 := fun x y H Q => ∃ i j, x = .int i /\ y = .int j /\ Q (g i j) H
def rU (g : Int -> V) : V -> Hp -> VK -> Prop := fun x H Q => ∃ i, x = .int i /\ Q (g i) H
section
variable {X : Cx} {a b c : Expr} {ta tb tc : TE} {pos : Pos}
theorem binT (ha : PE X a ta) (hb : PE X b tb) {pins : List (Addr × Obj)} {s : Shared} {σ : St} {H : Hp} {R : V -> V -> Hp -> Prop} (I : Inv X pins σ H s)
    (h : ta σ H fun x H1 => tb σ H1 fun y H2 => R x y H2) {Q : Value -> Shared -> Prop} {f : Value -> Value -> Sem Value}
    (hf : ∀ v u s2 x y H2, Inv X pins σ H2 s2 -> RelV x v -> RelV y u -> R x y H2 -> wpAny (model X.prog X.w) X.A (f v u) Q X.xe s2) :
    wpAny (model X.prog X.w) X.A (eval a X.env) (fun v s₁ => wpAny (model X.prog X.w) X.A (eval b X.env) (fun u s₂ => wpAny (model X.prog X.w) X.A (f v u) Q X.xe s₂) X.xe s₁) X.xe s := by
  refine thn (ha pins s σ H _ I h) fun v s1 ⟨x, H1, I1, r1, q1⟩ => ?_
  refine thn (hb pins s1 σ H1 _ I1 q1) fun u s2 ⟨y, H2, I2, r2, q2⟩ => ?_
  exact hf v u s2 x y H2 I2 r1 r2 q2
theorem pe_op {op : Operator} {r : R2} (ho : OpR X (binaryOp op) r) (ha : PE X a ta) (hb : PE X b tb) : PE X (.BinOp a op b pos) (tOp r ta tb) := by
  intro pins s σ H Q I h
  exact wpAny_BinOp (binT ha hb I h fun v u s2 x y H2 I2 rx ry q => ho pins s2 σ H2 x y v u Q I2 rx ry q)
theorem pe_un {op : UnaryOp} {r : V -> Hp -> VK -> Prop} (ho : UnR X (unaryOp op) r) (ha : PE X a ta) : PE X (.UnaryOp op a pos) (tUn r ta) := by
  intro pins s σ H Q I h
  exact UnaryOp_ (thn (ha pins s σ H _ I h) fun v s1 ⟨x, H1, I1, r1, q1⟩ => ho pins s1 σ H1 x v Q I1 r1 q1)
theorem opI {f : Value -> Value -> Sem Value} {C : Int -> Int -> Prop} {g : Int -> Int -> Int}
    (rule : ∀ (i j : Int) (t u : Tok) (s : Shared) (Q : Value -> Shared -> Prop) (E : Value -> Shared -> Prop), C i j -> Q (.int (g i j) s.toks) { s with toks := s.toks + 1 } -> wpAny (model X.prog X.w) X.A (f (.int i t) (.int j u)) Q E s) :
    OpR X f (rI C fun i j => .int (g i j)) := by
  intro pins s σ H x y v u Q I rx ry h
  obtain ⟨i, j, rfl, rfl, hc, q⟩ := h
  obtain ⟨t, rfl⟩ := rx
  obtain ⟨t', rfl⟩ := ry
  exact rule i j t t' s _ _ hc ⟨.int (g i j), H, I.tok _, ⟨_, rfl⟩, q⟩
theorem opI0 {f : Value -> Value -> Sem Value} {g : Int -> Int -> Int}
    (rule : ∀ (i j : Int) (t u : Tok) (s : Shared) (Q : Value -> Shared -> Prop) (E : Value -> Shared -> Prop), Q (.int (g i j) s.toks) { s with toks := s.toks + 1 } -> wpAny (model X.prog X.w) X.A (f (.int i t) (.int j u)) Q E s) :
    OpR X f (rI0 fun i j => .int (g i j)) := by
  intro pins s σ H x y v u Q I rx ry h
  obtain ⟨i, j, rfl, rfl, q⟩ := h
  obtain ⟨t, rfl⟩ := rx
  obtain ⟨t', rfl⟩ := ry
  exact rule i j t t' s _ _ ⟨.int (g i j), H, I.tok _, ⟨_, rfl⟩, q⟩
theorem opB0 {f : Value -> Value -> Sem Value} {g : Int -> Int -> Bool}
    (rule : ∀ (i j : Int) (t u : Tok) (s : Shared) (Q : Value -> Shared -> Prop) (E : Value -> Shared -> Prop), Q (.bool (g i j)) s -> wpAny (model X.prog X.w) X.A (f (.int i t) (.int j u)) Q E s) :
    OpR X f (rI0 fun i j => .bl (g i j)) := by
  intro pins s σ H x y v u Q I rx ry h
  obtain ⟨i, j, rfl, rfl, q⟩ := h
  obtain ⟨t, rfl⟩ := rx
  obtain ⟨t', rfl⟩ := ry
  exact rule i j t t' s _ _ ⟨.bl (g i j), H, I, rfl, q⟩
def CDiv (i j : Int) : Prop := 0 < j /\ j < 1073741824
def CPow (i j : Int) : Prop := 0 <= j /\ j <= 1000000 /\ i.natAbs < 2 ^ 64
theorem op_add : OpR X (binaryOp .Add) (rI0 fun i j => .int (i + j)) := opI0 fun _ _ _ _ _ _ _ q => add_int q
theorem op_sub : OpR X (binaryOp .Sub) (rI0 fun i j => .int (i - j)) := opI0 fun _ _ _ _ _ _ _ q => sub_int q
theorem op_fdiv : OpR X (binaryOp .FloorDiv) (rI CDiv fun i j => .int (i / j)) := opI fun i j _ _ _ _ _ hc q => by
  have h1 : (0 : Int) < j := hc.1
  have h2 : j < 1073741824 := hc.2
  exact floordiv_int (by omega) (by rw [Int.fdiv_eq_ediv_of_nonneg i (by omega)]; exact q) (.inl (PyProof.noPylong_small (by omega)))
theorem op_mod : OpR X (binaryOp .Mod) (rI (fun _ j => 0 < j) fun i j => .int (i % j)) := opI fun i j _ _ _ _ _ hc q => by
  have h1 : (0 : Int) < j := hc
  exact mod_int' (by omega) (by rw [Int.fmod_eq_emod_of_nonneg i (by omega)]; exact q)
theorem op_modN : OpR X (binaryOp .Mod) (rI (fun _ j => j ≠ 0) fun i j => .int (i.fmod j)) := opI fun _ _ _ _ _ _ _ hc q => mod_int' hc q
theorem op_pow : OpR X (binaryOp .Pow) (rI CPow fun i j => .int (i ^ j.toNat)) := opI fun _ _ _ _ _ _ _ hc q => pow_int_small hc.1 hc.2.1 hc.2.2 q
theorem unI {f : Value -> Sem Value} {g : Int -> Int}
    (rule : ∀ (i : Int) (t : Tok) (s : Shared) (Q : Value -> Shared -> Prop) (E : Value -> Shared -> Prop), Q (.int (g i) s.toks) { s with toks := s.toks + 1 } -> wpAny (model X.prog X.w) X.A (f (.int i t)) Q E s) :
    UnR X f (rU fun i => .int (g i)) := by
  intro pins s σ H x v Q I rx h
  obtain ⟨i, rfl, q⟩ := h
  obtain ⟨t, rfl⟩ := rx
  exact rule i t s _ _ ⟨.int (g i), H, I.tok _, ⟨_, rfl⟩, q⟩
theorem un_neg : UnR X (unaryOp .USub) (rU fun i => .int (-i)) := unI fun _ _ _ _ _ q => neg_int q
end
def scal : V -> V -> Bool
  | .non, .non => true | .non, .int _ => true | .int _, .non => true | .non, .bl _ => true | .bl _, .non => true | .non, .str _ => true | .str _, .non => true
  | .int _, .int _ => true | .bl _, .bl _ => true | .str _, .str _ => true | .byt _, .byt _ => true
  | .int _, .str _ => true | .str _, .int _ => true | .bl _, .str _ => true | .str _, .bl _ => true
  | _, _ => false
def rEq : R2 := fun x y H Q => scal x y = true /\ Q (.bl (decide (x = y))) H
def rNe : R2 := fun x y H Q => scal x y = true /\ Q (.bl (!decide (x = y))) H
theorem dec_int {i j : Int} : decide (V.int i = V.int j) = (i == j) := by
  rw [Bool.eq_iff_iff]
  simp
theorem dec_bl {i j : Bool} : decide (V.bl i = V.bl j) = (i == j) := by
  rw [Bool.eq_iff_iff]
  simp
theorem dec_str {i j : Str} : decide (V.str i = V.str j) = (i == j) := by
  rw [Bool.eq_iff_iff]
  simp
theorem dec_byt {i j : Array UInt8} : decide (V.byt i = V.byt j) = (i.toList == j.toList) := by
  rw [Bool.eq_iff_iff]
  cases i
  cases j
  simp
section
variable {X : Cx} {a b c : Expr} {ta tb tc : TE} {pos : Pos}
theorem fin_bl {pins : List (Addr × Obj)} {σ : St} {H : Hp} {s : Shared} {Q : VK} {k k' : Bool} (I : Inv X pins σ H s) (q : Q (.bl k) H) (e : k = k') : EP X pins σ Q (.bool k') s := by
  subst e
  exact ⟨.bl k, H, I, rfl, q⟩
theorem op_eq : OpR X (compareOp .Eq) rEq := by
  intro pins s σ H x y v u Q I rx ry h
  obtain ⟨hs, q⟩ := h
  cases x with
  | non =>
    cases rx
    cases y with
    | non => cases ry; exact PySem.EqNone.eq_none_none (fin_bl I q (by simp))
    | bl j => cases ry; exact PySem.EqNone.eq_none_bool (fin_bl I q (by simp))
    | int j => obtain ⟨t', rfl⟩ := ry; exact PySem.EqNone.eq_none_int (fin_bl I q (by simp))
    | str j => obtain ⟨t', rfl⟩ := ry; exact PySem.EqNone.eq_none_str (fin_bl I q (by simp))
    | _ => exact absurd (show false = true from hs) Bool.false_ne_true
  | bl i =>
    cases rx
    cases y with
    | non => cases ry; exact PySem.EqNone.eq_bool_none (fin_bl I q (by simp))
    | bl j => cases ry; exact eq_bool (fin_bl I q dec_bl)
    | str j => obtain ⟨t', rfl⟩ := ry; exact PySem.EqMixed.eq_bool_str (fin_bl I q (by simp))
    | _ => exact absurd (show false = true from hs) Bool.false_ne_true
  | int i =>
    obtain ⟨t, rfl⟩ := rx
    cases y with
    | non => cases ry; exact PySem.EqNone.eq_int_none (fin_bl I q (by simp))
    | int j => obtain ⟨t', rfl⟩ := ry; exact eq_int (fin_bl I q dec_int)
    | str j => obtain ⟨t', rfl⟩ := ry; exact PySem.EqMixed.eq_int_str (fin_bl I q (by simp))
    | _ => exact absurd (show false = true from hs) Bool.false_ne_true
  | str i =>
    obtain ⟨t, rfl⟩ := rx
    cases y with
    | non => cases ry; exact PySem.EqNone.eq_str_none (fin_bl I q (by simp))
    | bl j => cases ry; exact PySem.EqMixed.eq_str_bool (fin_bl I q (by simp))
    | int j => obtain ⟨t', rfl⟩ := ry; exact PySem.EqMixed.eq_str_int (fin_bl I q (by simp))
    | str j => obtain ⟨t', rfl⟩ := ry; exact eq_str (fin_bl I q dec_str)
    | _ => exact absurd (show false = true from hs) Bool.false_ne_true
  | byt i =>
    obtain ⟨t, rfl⟩ := rx
    cases y with
    | byt j => obtain ⟨t', rfl⟩ := ry; exact PySem.W.eq_bytes (fin_bl I q dec_byt)
    | _ => exact absurd (show false = true from hs) Bool.false_ne_true
  | _ => cases y <;> exact absurd (show false = true from hs) Bool.false_ne_true
theorem op_ne : OpR X (compareOp .NotEq) rNe := by
  intro pins s σ H x y v u Q I rx ry h
  obtain ⟨hs, q⟩ := h
  cases x with
  | non =>
    cases rx
    cases y with
    | non => cases ry; exact PySem.EqNone.ne_none_none (fin_bl I q (by simp))
    | bl j => cases ry; exact PySem.EqNone.ne_none_bool (fin_bl I q (by simp))
    | int j => obtain ⟨t', rfl⟩ := ry; exact PySem.EqNone.ne_none_int (fin_bl I q (by simp))
    | str j => obtain ⟨t', rfl⟩ := ry; exact PySem.EqNone.ne_none_str (fin_bl I q (by simp))
    | _ => exact absurd (show false = true from hs) Bool.false_ne_true
  | bl i =>
    cases rx
    cases y with
    | non => cases ry; exact PySem.EqNone.ne_bool_none (fin_bl I q (by simp))
    | bl j => cases ry; exact ne_bool (fin_bl I q (congrArg not dec_bl))
    | str j => obtain ⟨t', rfl⟩ := ry; exact PySem.EqMixed.ne_bool_str (fin_bl I q (by simp))
    | _ => exact absurd (show false = true from hs) Bool.false_ne_true
  | int i =>
    obtain ⟨t, rfl⟩ := rx
    cases y with
    | non => cases ry; exact PySem.EqNone.ne_int_none (fin_bl I q (by simp))
    | int j => obtain ⟨t', rfl⟩ := ry; exact ne_int (fin_bl I q (congrArg not dec_int))
    | str j => obtain ⟨t', rfl⟩ := ry; exact PySem.EqMixed.ne_int_str (fin_bl I q (by simp))
    | _ => exact absurd (show false = true from hs) Bool.false_ne_true
  | str i =>
    obtain ⟨t, rfl⟩ := rx
    cases y with
    | non => cases ry; exact PySem.EqNone.ne_str_none (fin_bl I q (by simp))
    | bl j => cases ry; exact PySem.EqMixed.ne_str_bool (fin_bl I q (by simp))
    | int j => obtain ⟨t', rfl⟩ := ry; exact PySem.EqMixed.ne_str_int (fin_bl I q (by simp))
    | str j => obtain ⟨t', rfl⟩ := ry; exact ne_str (fin_bl I q (congrArg not dec_str))
    | _ => exact absurd (show false = true from hs) Bool.false_ne_true
  | byt i =>
    obtain ⟨t, rfl⟩ := rx
    cases y with
    | byt j => obtain ⟨t', rfl⟩ := ry; exact PySem.W.ne_bytes (fin_bl I q (congrArg not dec_byt))
    | _ => exact absurd (show false = true from hs) Bool.false_ne_true
  | _ => cases y <;> exact absurd (show false = true from hs) Bool.false_ne_true
theorem op_lt : OpR X (compareOp .Lt) (rI0 fun i j => .bl (decide (i < j))) := opB0 fun _ _ _ _ _ _ _ q => lt_int q
theorem op_gt : OpR X (compareOp .Gt) (rI0 fun i j => .bl (decide (j < i))) := opB0 fun _ _ _ _ _ _ _ q => gt_int q
theorem OpR.or {f : Value -> Value -> Sem Value} {r r' : R2} (h : OpR X f r) (h' : OpR X f r') : OpR X f (fun x y H Q => r x y H Q ∨ r' x y H Q) := by
  intro pins s σ H x y v u Q I rx ry q
  rcases q with q | q
  · exact h pins s σ H x y v u Q I rx ry q
  · exact h' pins s σ H x y v u Q I rx ry q
theorem nomark (b : Expr) {op : CmpOp} (h : op ≠ .In := by decide) (h2 : op ≠ .NotIn := by decide) : behindInMarks op b = false := by
  have e1 : (op == CmpOp.In) = false := by cases op <;> first | rfl | exact absurd rfl h
  have e2 : (op == CmpOp.NotIn) = false := by cases op <;> first | rfl | exact absurd rfl h2
  cases b <;> simp [behindInMarks, e1, e2]
theorem pe_cmpR {op : CmpOp} {r : R2} (ho : OpR X (compareOp op) r) (ha : PE X a ta) (hb : PE X b tb) (hm : behindInMarks op b = false) : PE X (.Compare a [op] [b] pos) (tOp r ta tb) := by
  intro pins s σ H Q I h
  exact wpAny_Compare1 (binT ha hb I h fun v u s2 x y H2 I2 rx ry q => ho pins s2 σ H2 x y v u Q I2 rx ry q) hm
def tTest (t : TE) : TT := fun σ H Q => t σ H fun x H' => ∃ k, x = .bl k /\ Q k H'
theorem pt_cmpR {op : CmpOp} {r : R2} (ho : OpR X (compareOp op) r) (ha : PE X a ta) (hb : PE X b tb) (hm : behindInMarks op b = false) : PT X (.Compare a [op] [b] pos) (tTest (tOp r ta tb)) := by
  intro pins s σ H Q I h
  refine wpAny_isTrue_Compare1 (thn (ha pins s σ H _ I h) fun v s1 ⟨x, H1, I1, r1, q1⟩ => thn (hb pins s1 σ H1 _ I1 q1) fun u s2 ⟨y, H2, I2, r2, q2⟩ =>
    thn (ho pins s2 σ H2 x y v u _ I2 r1 r2 q2) fun c s3 ⟨z, H3, I3, r3, k, e, q3⟩ => ?_) hm
  subst e
  cases r3
  exact wpAny_truthy_bool ⟨H3, I3, q3⟩
def TruV (K : PySem.W.Frag) (x : V) (H : Hp) (k : Bool) : Prop :=
  match x with
  | .non => k = false
  | .bl b => k = b
  | .int i => k = (i != 0)
  | .str y => y.length <= sizeLine /\ k = ((y.length : Int) != 0)
  | .byt y => y.size <= sizeLine /\ k = ((y.size : Int) != 0)
  | .ref p => (∃ xs, SqL K H p xs /\ k = !xs.isEmpty) ∨ (∃ xs, SqT K H p xs /\ k = !xs.isEmpty) ∨ ∃ kvs, H p = some (.dK kvs) /\ k = !kvs.isEmpty
  | _ => False
theorem isEmpty_kv {κ : Type} {kvs : List (κ × V)} {vs : List (κ × Value)} (r : KV kvs vs) : (!vs.isEmpty) = !kvs.isEmpty := by
  cases r <;> rfl
theorem isEmpty_of {xs : List V} {its : List Value} (r : Vals xs its) : (!its.toArray.isEmpty) = !xs.isEmpty := by
  cases r <;> simp
theorem line63 : (sizeLine : Nat) < 2 ^ 63 := by rw [sizeLine_eq]; decide
theorem tru_ok : TruR X (fun x H Q => ∃ k, TruV X.K x H k /\ Q k H) := by
  intro pins s σ H x v Q I rx h
  obtain ⟨k, e, q⟩ := h
  have hl := line63
  have hs : sizeLine = 16777216 := sizeLine_eq
  cases x with
  | non =>
    cases rx
    have e' : k = false := e
    subst e'
    exact truthy_none ⟨H, I, q⟩
  | bl b =>
    cases rx
    have e' : k = b := e
    subst e'
    exact wpAny_truthy_bool ⟨H, I, q⟩
  | int i =>
    obtain ⟨t, rfl⟩ := rx
    have e' : k = (i != 0) := e
    subst e'
    exact PySem.P.truthy_int ⟨H, I, q⟩
  | str y =>
    obtain ⟨t, rfl⟩ := rx
    obtain ⟨hy, e'⟩ : y.length <= sizeLine /\ k = ((y.length : Int) != 0) := e
    subst e'
    exact PySem.P.truthy_str (by omega) ⟨H, I.tok _, q⟩
  | byt y =>
    obtain ⟨t, rfl⟩ := rx
    obtain ⟨hy, e'⟩ : y.size <= sizeLine /\ k = ((y.size : Int) != 0) := e
    subst e'
    exact PySem.W.truthy_bytes (by omega) ⟨H, I.tok _, q⟩
  | ref p =>
    cases rx
    have e' : (∃ xs, SqL X.K H p xs /\ k = !xs.isEmpty) ∨ (∃ xs, SqT X.K H p xs /\ k = !xs.isEmpty) ∨ ∃ kvs, H p = some (.dK kvs) /\ k = !kvs.isEmpty := e
    rcases e' with ⟨xs, hx, e'⟩ | ⟨xs, hx, e'⟩ | ⟨kvs, hx, e'⟩
    · subst e'
      obtain ⟨its, r, pl, hz⟩ := I.list hx
      have hlen := r.length
      exact wpAny_truthy_list pl.isList (by simp only [List.size_toArray]; omega) ⟨H, I.tok _, by rw [isEmpty_of r]; exact q⟩
    · subst e'
      obtain ⟨its, r, pl, hz⟩ := I.tuple hx
      have hlen := r.length
      exact truthy_tuple pl (by simp only [List.size_toArray]; omega) ⟨H, I.tok _, by rw [isEmpty_of r]; exact q⟩
    · subst e'
      obtain ⟨hz, hS, vs, r, m⟩ : kvs.length <= sizeLine /\ (p == sysModules) = false /\ ∃ vs, KV kvs vs /\ s.heap.DictOf (mixKind X.prog X.w) p vs := I.hok p _ hx
      have hlen : kvs.length = vs.length := Paired.length r
      exact wpAny_truthy_dict hS m (by omega) ⟨H, I.tok _, by rw [isEmpty_kv r]; exact q⟩
  | _ => exact (show False from e).elim
theorem pt_truth (ha : PE X a ta) (he : ∀ whole, isTrue a X.env whole = (do let v ← whole; standAt a.pos; holding [v] (truthy v))) :
    PT X a (fun σ H Q => ta σ H fun x H' => ∃ k, TruV X.K x H' k /\ Q k H') := by
  intro pins s σ H Q I h
  exact isTrue_plain (thn (ha pins s σ H _ I h) fun v s1 ⟨x, H1, I1, r1, q1⟩ => tru_ok pins s1 σ H1 x v Q I1 r1 q1) (he _)
theorem op_add_str : OpR X (binaryOp .Add) (fun x y H Q => ∃ i j, x = .str i /\ y = .str j /\ i.length + j.length <= sizeLine /\ Q (.str (i ++ j)) H) := by
  intro pins s σ H x y v u Q I rx ry h
  obtain ⟨i, j, rfl, rfl, hz, q⟩ := h
  obtain ⟨t, rfl⟩ := rx
  obtain ⟨t', rfl⟩ := ry
  exact add_str (fun t' tk => ⟨.str (i ++ j), H, I.tok _, ⟨_, rfl⟩, q⟩) hz
theorem vals1 {x : V} {us : List Value} (r : Vals [x] us) : ∃ u, us = [u] /\ RelV x u := by
  cases r with
  | cons r1 r2 => cases r2; exact ⟨_, rfl, r1⟩
theorem call_abs : CallR X (.builtin "abs") (fun xs H Q => ∃ i, xs = [.int i] /\ Q (.int (if i < 0 then -i else i)) H) := by
  intro pins s σ H xs us Q I r h
  obtain ⟨i, rfl, q⟩ := h
  obtain ⟨u, rfl, t, rfl⟩ := vals1 r
  exact call_abs_int fun u tk => ⟨.int (if i < 0 then -i else i), H, I.tok _, ⟨_, rfl⟩, q⟩
theorem call_int1 : CallR X (.type "int") (fun xs H Q => (∃ i, xs = [.int i] /\ Q (.int i) H) ∨ ∃ k, xs = [.bl k] /\ Q (.int (if k then 1 else 0)) H) := by
  intro pins s σ H xs us Q I r h
  rcases h with ⟨i, rfl, q⟩ | ⟨k, rfl, q⟩
  · obtain ⟨u, rfl, t, rfl⟩ := vals1 r
    exact call_int_int ⟨.int i, H, I, ⟨_, rfl⟩, q⟩
  · obtain ⟨u, rfl, r1⟩ := vals1 r
    cases r1
    exact call_int_bool ⟨.int (if k then 1 else 0), H, I.tok _, ⟨_, rfl⟩, q⟩
theorem call_str_int : CallR X (.type "str") (fun xs H Q => ∃ i, xs = [.int i] /\ i.natAbs.log2 < 1920 /\ Q (.str (toString i)) H) := by
  intro pins s σ H xs us Q I r h
  obtain ⟨i, rfl, hz, q⟩ := h
  obtain ⟨u, rfl, t, rfl⟩ := vals1 r
  exact PySem.P.str_of_int hz ⟨.str _, H, I.tok _, ⟨_, rfl⟩, q⟩
end
end L2
namespace L2
open PySem PySem.Spec PyProof.Rows
structure ObjM (h : Heap) (x dx C : Addr) (mA : Str -> Option Value) : Prop where
  obj : h.get? x = some (PySem.W.instObj C dx)
  ns : h.Ns1 dx mA
  ne : dx ≠ x
theorem lookIn_ns {h : Heap} {dx : Addr} {mA : Str -> Option Value} (n : h.Ns1 dx mA) : ∃ od, h.get? dx = some od /\ ∀ name, PySem.W.lookIn name od = some (mA name) := by
  obtain ⟨o, es, ep, ho, hd, hk, _, hm⟩ := n
  refine ⟨o, ho, fun name => ?_⟩
  have e := hm name
  unfold nsFind findBy at e
  rw [← Array.find?_toList] at e
  unfold PySem.W.lookIn
  rw [hd]
  dsimp only
  split
  · rename_i y q
    rw [q] at e
    exact congrArg some e
  · rename_i q
    rw [q] at e
    have a : es.toList.any (·.refKey) = false := by
      rw [List.any_eq_false]
      intro y hy
      obtain ⟨z, t, hkey⟩ := hk y (Array.mem_toList_iff.mp hy)
      simp [DictEntry.refKey, hkey]
    have a' : ¬ es.toList.any (·.refKey) = true := by rw [a]; exact Bool.false_ne_true
    rw [if_neg a']
    exact congrArg some e
theorem ObjM.look {h : Heap} {x dx C : Addr} {mA : Str -> Option Value} (I : ObjM h x dx C mA) : ∃ od, PySem.W.InstAt h x (PySem.W.instObj C dx) C (some od) /\ ∀ name, PySem.W.lookIn name od = some (mA name) :=
  let ⟨od, ho, hl⟩ := lookIn_ns I.ns
  ⟨od, ⟨I.obj, rfl, rfl, ho⟩, hl⟩
section
variable {prog : Program} {w : World} {A : Around} {E : Value -> Shared -> Prop} {s : Shared} {K : PySem.W.Frag} {x dx C f : Addr} {mA : Str -> Option Value} {name : Str} {v : Value}
theorem get_map {expr : Bool} {Q : Value -> Shared -> Prop} (X : K.In s.heap) (I : ObjM s.heap x dx C mA) (hg : PySem.W.plainGet K C name = true) (hh : PySem.W.hasDictIn K C = true)
    (ha : PySem.W.findIn K (.ref C) name = some none) (hv : mA name = some v) (hv' : PySem.W.handedIn v = true) (h : Q v { s with toks := s.toks + 1 }) :
    wpAny (model prog w) A (getAttr (.ref x) name expr) Q E s := by
  obtain ⟨od, J, hl⟩ := I.look
  exact PySem.W.get_value X J (PySem.W.plainGet_of hg).1 (PySem.W.findObj_own hh ha rfl (by rw [hl, hv])) hv' h
theorem get_meth {pl : Sem Bool} {Q : Value × List Value -> Shared -> Prop} (X : K.In s.heap) (I : ObjM s.heap x dx C mA) (hg : PySem.W.plainGet K C name = true)
    (hf : PySem.W.findIn K (.ref C) name = some (some (.ref f))) (ht : PySem.W.isFn K (.ref f) = true) (hv : mA name = none) (h : Q (.ref f, [.ref x]) s) :
    wpAny (model prog w) A (getMethod (.ref x) name pl) Q E s := by
  obtain ⟨od, J, hl⟩ := I.look
  exact PySem.W.method_fn X J (PySem.W.plainGet_of hg).1 (PySem.W.plainGet_of hg).2 hf (beq_iff_eq.mp ht) (by show (PySem.W.lookIn name od).map (·.isSome) = some false; rw [hl, hv]; rfl) h
theorem set_map {ns : List Str} {Q : Unit -> Shared -> Prop} (X : K.In s.heap) (I : ObjM s.heap x dx C mA)
    (hs : PySem.W.findIn K (.ref C) "__setattr__" = some (some (.builtin "object.__setattr__"))) (hp : PySem.W.plainOver K C = true) (ht : PySem.W.takerIn K C name = some none) (hh : PySem.W.hasDictIn K C = true)
    (hw : PySem.Within mA ns) (hsz : ns.length <= sizeLine)
    (h : ∀ h', ObjM h' x dx C (fun y => if y = name then some v else mA y) -> Heap.SameBut dx s.heap h' -> Q () { s with heap := h', toks := s.toks + 2 }) :
    wpAny (model prog w) A (setAttr (.ref x) name v) Q E s := by
  obtain ⟨od, J, hl⟩ := I.look
  refine PySem.W.set_plain X J hs (PySem.W.osa_open (s := { s with toks := s.toks + 1 }) (r := none) X J hp ht fun b => ?_)
  obtain ⟨cd, hc, hd'⟩ := PySem.W.any_some hh
  have hx : s.heap.get? x = some ⟨.ref C, some dx, .plain, #[]⟩ := I.obj
  refine wpAny_bind (wpAny_pure (wpAny_bind (wpAny_bind (wpAny_loadPart hx (wpAny_bind (PySem.W.Looks.here (s := { s with toks := s.toks + 1 }) (PySem.W.looks_clsIn X hc) ?_))))))
  rw [hd']
  refine wpAny_pure (a := some dx) (wpAny_bind (wpAny_pure (wpAny_bind ?_)))
  refine wpAny_nsSet1 (s := { s with toks := s.toks + 1 }) I.ns fun h' hn2 hs2 => ?_
  obtain ⟨oD, esD, epD, hoD, hdD, hcD⟩ := hn2.count (PySem.Within.cons name v hw)
  refine wpAny_bind (wpAny_lookBehind hoD (by rw [hdD]; exact pastItsLine_dict (Nat.le_trans hcD (by rw [List.length_cons]; omega))) ?_)
  exact wpAny_pure (h _ ⟨(hs2.2 _ (Ne.symm I.ne)).trans I.obj, hn2, I.ne⟩ hs2)
theorem make_map {R : Result -> Shared -> Prop} {vs : List Value} {kw : List (Str × Value)} (X : K.In s.heap) (hm : PySem.W.makesIn K C = true)
    (hi : PySem.W.findIn K (.ref C) "__init__" = some (some (.ref f))) (hf : PySem.W.typeIn K (.ref f) = some (.type "function"))
    (h : codeAny (model prog w) (A.under (.builtin "type.__call__" ⟨.ref C :: vs, kw⟩)) (.call (.ref f) ⟨.ref (s.heap.objs.size + 1) :: vs, kw⟩) (PySem.W.InitBack (s.heap.objs.size + 1) R)
      { s with heap := (s.heap.push PySem.W.emptyDict).push (PySem.W.instObj C s.heap.objs.size) }) :
    codeAny (model prog w) A (.call (.ref C) ⟨vs, kw⟩) R s := by
  obtain ⟨hh, g, d, t, os⟩ := s
  exact PySem.W.make_core (PySem.W.makes_of X hm) (PySem.W.looks_findIn X hi) (fun self => PySem.W.bind_fn X self hf) (.inl rfl) h
end
def putF (f : Str) (v : V) : List (Str × V) -> List (Str × V)
  | [] => [(f, v)]
  | (g, x) :: r => if g = f then (g, v) :: r else (g, x) :: putF f v r
theorem lookup_putF (f g : Str) (v : V) : ∀ fs : List (Str × V), (putF f v fs).lookup g = if g = f then some v else fs.lookup g
  | [] => by
    show List.lookup g [(f, v)] = _
    by_cases h : g = f
    · have hb : (g == f) = true := beq_iff_eq.mpr h
      simp only [List.lookup, hb, if_pos h]
    · have hb : (g == f) = false := beq_eq_false_iff_ne.mpr h
      simp only [List.lookup, hb, if_neg h]
  | (k, x) :: r => by
    have ih := lookup_putF f g v r
    rw [show putF f v ((k, x) :: r) = (if k = f then (k, v) :: r else (k, x) :: putF f v r) from rfl]
    by_cases hk : k = f
    · rw [if_pos hk]
      by_cases h : g = k
      · have hb : (g == k) = true := beq_iff_eq.mpr h
        simp only [List.lookup, hb, if_pos (h.trans hk)]
      · have hb : (g == k) = false := beq_eq_false_iff_ne.mpr h
        simp only [List.lookup, hb, if_neg (fun e : g = f => h (e.trans hk.symm))]
    · rw [if_neg hk]
      by_cases h : g = k
      · have hb : (g == k) = true := beq_iff_eq.mpr h
        simp only [List.lookup, hb, if_neg (fun e : g = f => hk (h.symm.trans e))]
      · have hb : (g == k) = false := beq_eq_false_iff_ne.mpr h
        simp only [List.lookup, hb]
        exact ih
theorem keys_putF (f : Str) (v : V) : ∀ fs : List (Str × V), f ∈ (putF f v fs).map (·.1) /\ ∀ g, g ∈ fs.map (·.1) -> g ∈ (putF f v fs).map (·.1)
  | [] => ⟨by simp [putF], fun g h => by simp at h⟩
  | (k, x) :: r => by
    obtain ⟨i1, i2⟩ := keys_putF f v r
    rw [show putF f v ((k, x) :: r) = (if k = f then (k, v) :: r else (k, x) :: putF f v r) from rfl]
    by_cases hk : k = f
    · rw [if_pos hk]
      subst hk
      exact ⟨by simp, fun g h => by simpa using h⟩
    · rw [if_neg hk]
      refine ⟨?_, fun g h => ?_⟩
      · rw [List.map_cons]
        exact List.mem_cons_of_mem _ i1
      · rw [List.map_cons] at h ⊢
        rcases List.mem_cons.mp h with e | e
        · exact List.mem_cons.mpr (.inl e)
        · exact List.mem_cons_of_mem _ (i2 g e)
theorem length_putF (f : Str) (v : V) : ∀ fs : List (Str × V), (putF f v fs).length <= fs.length + 1
  | [] => by simp [putF]
  | (k, x) :: r => by
    have ih := length_putF f v r
    rw [show putF f v ((k, x) :: r) = (if k = f then (k, v) :: r else (k, x) :: putF f v r) from rfl]
    by_cases hk : k = f
    · rw [if_pos hk, List.length_cons, List.length_cons]; omega
    · rw [if_neg hk, List.length_cons, List.length_cons]; omega
theorem RelO.some_of {v : V} {o : Option Value} (r : RelO (some v) o) : ∃ u, o = some u /\ RelV v u := by
  cases o with
  | none => exact (show False from r).elim
  | some u => exact ⟨u, rfl, r⟩
theorem RelO.none_of {o : Option Value} (r : RelO none o) : o = none := by
  cases o with
  | none => rfl
  | some u => exact (show False from r).elim
theorem handed_of {v : V} {u : Value} (r : RelV v u) : PySem.W.handedIn u = true := by
  cases v with
  | non => cases (show u = Value.none from r); rfl
  | bl b => cases (show u = Value.bool b from r); rfl
  | int i => obtain ⟨t, e⟩ := (show ∃ t, u = Value.int i t from r); cases e; rfl
  | str x => obtain ⟨t, e⟩ := (show ∃ t, u = Value.str x t from r); cases e; rfl
  | byt b => obtain ⟨t, e⟩ := (show ∃ t, u = Value.bytes b t from r); cases e; rfl
  | flt b => obtain ⟨t, e⟩ := (show ∃ t, u = Value.float b t from r); cases e; rfl
  | ref a => cases (show u = Value.ref a from r); rfl
  | ty n => cases (show u = Value.type n from r); rfl
section
variable {P : Program} {w : World} {H H' : Hp} {h h' : Heap} {a C dx : Addr} {fs fs' : List (Str × V)}
theorem ins_get (hok : HOk P w H h) (e : H a = some (.ins C dx fs)) : ∃ mA, ObjM h a dx C mA /\ (∀ f, RelO (fs.lookup f) (mA f)) /\ PySem.Within mA (fs.map (·.1)) /\ fs.length <= 1000 /\ H dx = some (.own a) := by
  obtain ⟨d, z, ne, ob, mA, n, r, q⟩ := (show ObjOk P w H h a (.ins C dx fs) from hok a _ e)
  exact ⟨mA, ⟨ob, n, ne⟩, r, q, z, d⟩
end
structure Cls (K : PySem.W.Frag) (C : Addr) : Prop where
  pg : PySem.W.plainGet K C Str.empty = true
  hd : PySem.W.hasDictIn K C = true
  po : PySem.W.plainOver K C = true
  sa : PySem.W.findIn K (.ref C) "__setattr__" = some (some (.builtin "object.__setattr__"))
theorem Cls.get {K : PySem.W.Frag} {C : Addr} (c : Cls K C) (f : Str) : PySem.W.plainGet K C f = true := c.pg
def NoAttr (K : PySem.W.Frag) (C : Addr) (f : Str) : Prop := PySem.W.findIn K (.ref C) f = some none
theorem NoAttr.taker {K : PySem.W.Frag} {C : Addr} {f : Str} (n : NoAttr K C f) : PySem.W.takerIn K C f = some none := by
  unfold PySem.W.takerIn
  rw [show PySem.W.findIn K (.ref C) f = some none from n]
  rfl
structure Meth (K : PySem.W.Frag) (C : Addr) (m : Str) (f : Addr) : Prop where
  at_ : PySem.W.findIn K (.ref C) m = some (some (.ref f))
  fn : PySem.W.isFn K (.ref f) = true
  kp : PySem.W.keepIn K (.ref f) = true
section
variable {X : Cx} {pins : List (Addr × Obj)} {σ : St} {H : Hp} {s : Shared} {a C dx : Addr} {fs : List (Str × V)} {f : Str} {v : V} {A : Around} {E : Value -> Shared -> Prop}
theorem getattr_ok {b : Bool} {Q : Value -> Shared -> Prop} (I : Inv X pins σ H s) (e : H a = some (.ins C dx fs)) (c : Cls X.K C) (n : NoAttr X.K C f) (l : fs.lookup f = some v)
    (h : ∀ u s', Inv X pins σ H s' -> RelV v u -> Q u s') : wpAny (model X.prog X.w) A (getAttr (.ref a) f b) Q E s := by
  obtain ⟨mA, O, r, _, _, _⟩ := ins_get I.hok e
  obtain ⟨u, hu, ru⟩ := RelO.some_of (v := v) (o := mA f) (by rw [← l]; exact r f)
  exact get_map I.kIn O (c.get f) c.hd n hu (handed_of ru) (h u _ (I.tok _) ru)
theorem getmeth_ok {m : Str} {g : Addr} {pl : Sem Bool} {Q : Value × List Value -> Shared -> Prop} (I : Inv X pins σ H s) (e : H a = some (.ins C dx fs)) (c : Cls X.K C) (k : Meth X.K C m g) (l : fs.lookup m = none)
    (h : Q (.ref g, [.ref a]) s) : wpAny (model X.prog X.w) A (getMethod (.ref a) m pl) Q E s := by
  obtain ⟨mA, O, r, _, _, _⟩ := ins_get I.hok e
  have hn : mA m = none := RelO.none_of (by rw [← l]; exact r m)
  exact get_meth I.kIn O (c.get m) k.at_ k.fn hn h
theorem setattr_ok {y : V} {u : Value} {Q : Unit -> Shared -> Prop} (I : Inv X pins σ H s) (e : H a = some (.ins C dx fs)) (c : Cls X.K C) (n : NoAttr X.K C f) (hl : fs.length < 1000) (ry : RelV y u)
    (h : ∀ s', Inv X pins σ (upd H a (.ins C dx (putF f y fs))) s' -> Q () s') : wpAny (model X.prog X.w) A (setAttr (.ref a) f u) Q E s := by
  obtain ⟨mA, O, r, wi, _, ho⟩ := ins_get I.hok e
  have hz : (fs.map (·.1)).length <= sizeLine := by rw [List.length_map, sizeLine_eq]; omega
  refine set_map I.kIn O c.sa c.po n.taker c.hd wi hz fun h' O' sb => h _ ?_
  have hd : ∃ o, h'.get? dx = some o := let ⟨o, _, _, e', _⟩ := O'.ns; ⟨o, e'⟩
  refine I.write (x := a) (e := dx) (by rw [e]; exact True.intro) (.inr ho) (fun b q hb z => (sb.2 b hb).trans z) hd ?_
  refine ⟨by rw [upd_ne O.ne]; exact ho, ?_, O.ne, O'.obj, _, O'.ns, fun g => ?_, fun g hg => ?_⟩
  · have := length_putF f y fs; omega
  · show RelO ((putF f y fs).lookup g) (if g = f then some u else mA g)
    rw [lookup_putF]
    by_cases q : g = f
    · rw [if_pos q, if_pos q]; exact ry
    · rw [if_neg q, if_neg q]; exact r g
  · by_cases q : g = f
    · rw [q]; exact (keys_putF f y fs).1
    · refine (keys_putF f y fs).2 g (wi g fun z => hg ?_)
      show (if g = f then some u else mA g) = none
      rw [if_neg q]; exact z
theorem Inv.made (I : Inv X pins σ H s) : Inv X pins σ (upd (upd H s.heap.objs.size (.own (s.heap.objs.size + 1))) (s.heap.objs.size + 1) (.ins C s.heap.objs.size []))
    { s with heap := (s.heap.push PySem.W.emptyDict).push (PySem.W.instObj C s.heap.objs.size) } := by
  have e1 : (s.heap.push PySem.W.emptyDict).get? s.heap.objs.size = some PySem.W.emptyDict := Heap.get?_push_size s.heap rfl
  have e2 : ((s.heap.push PySem.W.emptyDict).push (PySem.W.instObj C s.heap.objs.size)).get? (s.heap.objs.size + 1) = some (PySem.W.instObj C s.heap.objs.size) := by
    have := Heap.get?_push_size (s.heap.push PySem.W.emptyDict) (o := PySem.W.instObj C s.heap.objs.size) rfl
    rwa [Heap.size_push] at this
  have e3 : (s.heap.push PySem.W.emptyDict).Ns s.heap.objs.size (fun _ => none) := ⟨PySem.W.emptyDict, #[], _, e1, rfl, (fun e he => absurd he (by simp)), fun _ => rfl⟩
  have I1 := I.laid (a := s.heap.objs.size) (o := .own (s.heap.objs.size + 1)) (h' := s.heap.push PySem.W.emptyDict) (t' := s.toks) (fun b u q => Heap.get?_push_of_some _ q) (Nat.le_refl _) ⟨_, e1⟩
  refine I1.laid (a := s.heap.objs.size + 1) (o := .ins C s.heap.objs.size []) (t' := s.toks) (fun b u q => Heap.get?_push_of_some _ q) (Nat.le_of_eq (Heap.size_push _ _)) ?_
  have ne : s.heap.objs.size ≠ s.heap.objs.size + 1 := Nat.ne_of_lt (Nat.lt_succ_self _)
  refine ⟨by rw [upd_ne ne, upd_same], Nat.zero_le _, ne, e2, fun _ => none, (Heap.Ns1.of_empty e3).at fun o q => Heap.get?_push_of_some _ q, fun _ => True.intro, fun y hy => absurd rfl hy⟩
theorem attr_of {prog : Program} {w : World} {env : Env} {e : Expr} {f : Str} {pos : Pos} {s : Shared} {Q : Value -> Shared -> Prop} (hb : attributeBase e f env (eval e env) = eval e env)
    (h : wpAny (model prog w) A (eval e env) (fun o s₁ => wpAny (model prog w) A (getAttr o f true) Q E s₁) E s) : wpAny (model prog w) A (eval (.Attribute e f pos) env) Q E s :=
  Attribute_any_ h (by rw [arm_eval_Attribute, hb])
end
def tFld (K : PySem.W.Frag) (ta : TE) (f : Str) : TE := fun σ H Q => ta σ H fun x H1 => ∃ a C dx fs v, x = .ref a /\ H1 a = some (.ins C dx fs) /\ Cls K C /\ NoAttr K C f /\ fs.lookup f = some v /\ Q v H1
def sFld (K : PySem.W.Frag) (ta tv : TE) (f : Str) : TS := fun D σ H => tv σ H fun y H1 => ta σ H1 fun x H2 => ∃ a C dx fs, x = .ref a /\ H2 a = some (.ins C dx fs) /\ Cls K C /\ NoAttr K C f /\ fs.length < 1000 /\
  D.nx σ (upd H2 a (.ins C dx (putF f y fs)))
section
variable {X : Cx} {o e value : Expr} {f : Str} {pos pos' tpos : Pos} {ta tv : TE}
theorem pe_fld (he : PE X e ta) (hb : attributeBase e f X.env (eval e X.env) = eval e X.env) : PE X (.Attribute e f pos) (tFld X.K ta f) := by
  intro pins s σ H Q I h
  refine attr_of hb (thn (he pins s σ H _ I h) fun u s1 ⟨x, H1, I1, rx, a, C, dx, fs, v, ex, ea, c, n, l, q⟩ => ?_)
  subst ex
  obtain rfl : u = Value.ref a := rx
  exact getattr_ok I1 ea c n l fun u' s2 I2 ru => ⟨v, H1, I2, ru, q⟩
theorem ps_fld (ha : PE X o ta) (hv : PE X value tv) (hs : swapsWith value (some (.Attribute o f pos')) pos.line X.env = pure false) : PS X (.Assign [.Attribute o f pos'] value pos) (sFld X.K ta tv f) := by
  intro pins s σ H D I h
  refine plainObj_wpAny_Assign_Attribute (thn (hv pins s σ H _ I h) fun u s1 ⟨y, H1, I1, ry, q⟩ => thn (ha pins s1 σ H1 _ I1 q) fun ov s2 ⟨x, H2, I2, rx, a, C, dx, fs, ex, ea, c, n, l, q2⟩ => ?_) hs
  subst ex
  obtain rfl : ov = Value.ref a := rx
  exact setattr_ok I2 ea c n l ry fun s3 I3 => ⟨σ, _, I3, q2⟩
end
section
variable {X : Cx} {pins : List (Addr × Obj)} {σ : St} {H : Hp} {s : Shared} {A : Around} {E : Value -> Shared -> Prop} {Q : Value -> Shared -> Prop} {c : Value} {b : Bool}
inductive TyOf (K : PySem.W.Frag) (H : Hp) : V -> Value -> Prop where
  | non : TyOf K H .non (.type "NoneType")
  | bl (x : Bool) : TyOf K H (.bl x) (.type "bool")
  | int (i : Int) : TyOf K H (.int i) (.type "int")
  | str (x : Str) : TyOf K H (.str x) (.type "str")
  | flt (x : UInt64) : TyOf K H (.flt x) (.type "float")
  | lst {a : Addr} {xs : List V} (e : H a = some (.lst xs)) : TyOf K H (.ref a) (.type "list")
  | frz {a : Addr} {o : Obj} {xs : List V} (e : H a = some (.frz o (.lst xs))) : TyOf K H (.ref a) (.type "list")
  | tup {a : Addr} {xs : List V} (e : H a = some (.tup xs)) : TyOf K H (.ref a) (.type "tuple")
  | dK {a : Addr} {kvs : List (Key × V)} (e : H a = some (.dK kvs)) : TyOf K H (.ref a) (.type "dict")
  | dT {a : Addr} {kvs : List (List Key × V)} (e : H a = some (.dT kvs)) : TyOf K H (.ref a) (.type "dict")
  | ins {a C dx : Addr} {fs : List (Str × V)} (e : H a = some (.ins C dx fs)) (cl : Cls K C) (ha : PySem.W.findIn K (.ref C) "__class__" = some (some (.builtin "object.__class__")))
      (hn : PySem.W.specialIn K (.builtin "object.__class__") "__get__" = some (some (.builtin "getset_descriptor.__get__"))) (htk : PySem.W.takesIn K (.builtin "object.__class__") = some true)
      (hm : PySem.W.mroIn K C (.type "object") = some true) : TyOf K H (.ref a) (.ref C)
theorem isinst_ok {x : V} {u t : Value} (I : Inv X pins σ H s) (rx : RelV x u) (ty : TyOf X.K H x t) (e : PySem.W.kitOne X.K t c = some b) (h : ∀ tk, Q (.bool b) { s with toks := tk }) :
    wpAny (model X.prog X.w) A (call (.builtin "isinstance") [u, c]) Q E s := by
  cases ty with
  | non => cases (show u = Value.none from rx); exact PySem.W.kia_one PySem.W.kitx_none I.kIn True.intro e (fun z => nomatch z) h
  | bl y => cases (show u = Value.bool y from rx); exact PySem.W.kia_one PySem.W.kitx_bool I.kIn True.intro e (fun z => nomatch z) h
  | int i => obtain ⟨t, q⟩ := (show ∃ t, u = Value.int i t from rx); cases q; exact PySem.W.kia_one PySem.W.kitx_int I.kIn True.intro e (fun z => nomatch z) h
  | str y => obtain ⟨t, q⟩ := (show ∃ t, u = Value.str y t from rx); cases q; exact PySem.W.kia_one PySem.W.kitx_str I.kIn True.intro e (fun z => nomatch z) h
  | flt y => obtain ⟨t, q⟩ := (show ∃ t, u = Value.float y t from rx); cases q; exact PySem.W.kia_one PySem.W.kitx_float I.kIn True.intro e (fun z => nomatch z) h
  | @lst a xs ea =>
    cases (show u = Value.ref a from rx)
    obtain ⟨_, _, n, _, h1⟩ := (show ObjOk X.prog X.w H s.heap a (.lst xs) from I.hok a _ ea)
    exact PySem.W.kia_one PySem.W.kitx_list I.kIn ⟨_, h1, rfl⟩ e (fun z => nomatch z) h
  | @frz a ob xs ea =>
    cases (show u = Value.ref a from rx)
    obtain ⟨_, _, _, n, _, h1⟩ := (show ObjOk X.prog X.w H s.heap a (.frz ob (.lst xs)) from I.hok a _ ea)
    exact PySem.W.kia_one PySem.W.kitx_list I.kIn ⟨_, h1, rfl⟩ e (fun z => nomatch z) h
  | @tup a xs ea =>
    cases (show u = Value.ref a from rx)
    obtain ⟨_, _, _, p⟩ := (show ObjOk X.prog X.w H s.heap a (.tup xs) from I.hok a _ ea)
    obtain ⟨o, h1, h2, _⟩ := p
    exact PySem.W.kia_one PySem.W.kitx_tuple I.kIn ⟨o, h1, h2.1⟩ e (fun z => nomatch z) h
  | @dK a kvs ea =>
    cases (show u = Value.ref a from rx)
    obtain ⟨_, _, vs, _, p⟩ := (show ObjOk X.prog X.w H s.heap a (.dK kvs) from I.hok a _ ea)
    obtain ⟨o, es, ep, h1, h2, _⟩ := p
    exact PySem.W.kia_one PySem.W.kitx_dict I.kIn ⟨o, h1, h2.1⟩ e (fun z => nomatch z) h
  | @dT a kvs ea =>
    cases (show u = Value.ref a from rx)
    obtain ⟨_, _, xs, _, o, es, ep, h1, h2, _⟩ := (show ObjOk X.prog X.w H s.heap a (.dT kvs) from I.hok a _ ea)
    exact PySem.W.kia_one PySem.W.kitx_dict I.kIn ⟨o, h1, h2.1⟩ e (fun z => nomatch z) h
  | @ins a C dx fs ea cl ha hn htk hm =>
    cases (show u = Value.ref a from rx)
    obtain ⟨mA, O, _⟩ := ins_get I.hok ea
    obtain ⟨od, J, _⟩ := O.look
    exact PySem.W.kia_one (PySem.W.kitx_own (cl.get _) cl.hd ha hn htk hm) I.kIn J e (fun z => nomatch z) h
end
end L2
namespace L2
open PySem PySem.Spec PyProof.Rows
structure Room (k : Nat) (A : Around) : Prop where
  hd : A.handled = none
  dp : A.depth + 3 * k + 5 < recursionLimit
  un : A.units + 16 * k + 200 < cLine
  gd : A.guards = some []
theorem Room.mono {j k : Nat} {A : Around} (r : Room k A) (h : j <= k) : Room j A := ⟨r.hd, by have := r.dp; omega, by have := r.un; omega, r.gd⟩
theorem Room.deeper {k : Nat} {A : Around} (r : Room (k + 1) A) (env : Env) : Room k (A.deeper env) :=
  ⟨r.hd, by have := r.dp; show A.depth + 1 + 3 * k + 5 < _; omega, by have := r.un; show A.units + 3 + 16 * k + 200 < _; omega, r.gd⟩
theorem make_depth {A : Around} {C : Addr} {us : List Value} {kw : List (Str × Value)} : (A.under (.builtin "type.__call__" ⟨.ref C :: us, kw⟩)).depth = A.depth + 1 := by
  first | rfl | simp [Around.under, Code.weight, Code.isCreation, Code.isGuard, Code.isCaller, Code.frames, Code.isFrame, guardIds]
theorem make_units {A : Around} {C : Addr} {us : List Value} {kw : List (Str × Value)} : (A.under (.builtin "type.__call__" ⟨.ref C :: us, kw⟩)).units = A.units + 1 := by
  first | rfl | simp [Around.under, Code.cUnits, Code.frames, Code.isFrame]
theorem Room.make {k : Nat} {A : Around} (r : Room (k + 1) A) (C : Addr) (us : List Value) (kw : List (Str × Value)) : Room k (A.under (.builtin "type.__call__" ⟨.ref C :: us, kw⟩)) :=
  ⟨r.hd, by have := r.dp; rw [make_depth]; omega, by have := r.un; rw [make_units]; omega, by simpa [Around.under, Code.guards, Code.isGuard, guardIds, pushGuards] using r.gd⟩
theorem Room.depth {k : Nat} {A : Around} (r : Room k A) : A.depth < recursionLimit := by have := r.dp; omega
theorem Room.units {k : Nat} {A : Around} (r : Room k A) : A.units + 64 < cLine := by have := r.un; omega
def tNil : TA := fun _ H Q => Q [] H
def tCons (ta : TE) (tr : TA) : TA := fun σ H Q => ta σ H fun x H1 => tr σ H1 fun xs H2 => Q (x :: xs) H2
section
variable {X : Cx} {e : Expr} {es : List Expr} {te : TE} {t : TA} {pos : Pos}
theorem pa_nil : PA X [] tNil := fun _ _ _ _ H Q I h => Calls.spliced_nil ⟨[], H, I, .nil, h⟩
theorem pa_cons (ha : PE X e te) (hr : PA X es t) (hs : starEach (e :: es) X.env = (false, eval e X.env) :: starEach es X.env := by rfl) : PA X (e :: es) (tCons te t) := by
  intro pos pins s σ H Q I h
  rw [hs]
  show wpAny _ _ (spliced ((false, eval e X.env) :: backTo pos (starEach es X.env))) _ _ s
  refine Calls.spliced_cons (thn (ha pins s σ H _ I h) fun u s1 ⟨x, H1, I1, r1, q1⟩ => ?_)
  exact thn (hr pos pins s1 σ H1 _ I1 q1) fun us s2 ⟨xs, H2, I2, r2, q2⟩ => ⟨x :: xs, H2, I2, .cons r1 r2, q2⟩
def tTup (t : TA) : TE := fun σ H Q => t σ H fun xs H1 => xs.length <= sizeLine /\ ∀ p, H1 p = none -> Q (.ref p) (upd H1 p (.tup xs))
def tLst (t : TA) : TE := fun σ H Q => t σ H fun xs H1 => xs.length <= sizeLine /\ ∀ p, H1 p = none -> Q (.ref p) (upd H1 p (.lst xs))
theorem pe_tup {x1} (h : PA X es t) : PE X (.Tuple es x1 pos) (tTup t) := by
  intro pins s σ H Q I hq
  refine wpAny_Tuple_spliced (thn (h pos pins s σ H _ I hq) fun us s1 ⟨xs, H1, I1, r, z, q⟩ => ⟨by rw [← r.length]; exact z, ?_⟩)
  have hf : H1 s1.heap.objs.size = none := I1.hok.fresh (Nat.le_refl _)
  refine ⟨.ref s1.heap.objs.size, upd H1 s1.heap.objs.size (.tup xs), I1.laid (t' := s1.toks) (fun b u e => Heap.get?_push_of_some _ e) (Nat.le_refl _) ?_, rfl, q _ hf⟩
  exact ⟨z, us, r, IsTupN.new _ _⟩
theorem pe_lst (h : PA X es t) : PE X (.List es pos) (tLst t) := by
  intro pins s σ H Q I hq
  refine wpAny_List_spliced (thn (h pos pins s σ H _ I hq) fun us s1 ⟨xs, H1, I1, r, z, q⟩ => ⟨by rw [← r.length]; exact z, ?_⟩)
  have hf : H1 s1.heap.objs.size = none := I1.hok.fresh (Nat.le_refl _)
  refine ⟨.ref s1.heap.objs.size, upd H1 s1.heap.objs.size (.lst xs), I1.laid (t' := s1.toks) (fun b u e => Heap.get?_push_of_some _ e) (Nat.le_refl _) ?_, rfl, q _ hf⟩
  exact ⟨z, us, 0, r, Heap.get?_push_size _ rfl⟩
end
abbrev Sp := List V -> Hp -> VK -> XK -> Prop
abbrev CXT := List Env -> Hp -> Shared -> XK -> Value -> Shared -> Prop
structure Env0 (P : Program) (w : World) (K : PySem.W.Frag) (mg : Str -> Option Value) (base : Heap) (A : Around) (outer : List Env) (s : Shared) (H : Hp) : Prop where
  frames : A.frames = some outer
  mod : Mod K mg base
  bs : ∀ b o, base.get? b = some o -> s.heap.get? b = some o /\ H b = none
  bsz : base.objs.size <= s.heap.objs.size
  funs : s.heap.FunFrames base outer
  frf : ∀ b ∈ frs outer, H b = none
  hok : HOk P w H s.heap
  bare : AllBare s.gens
def CE (outer : List Env) (P : Program) (w : World) (H : Hp) (s : Shared) (Q : VK) (u : Value) (s' : Shared) : Prop :=
  ∃ v H', s'.os = s.os /\ AllBare s'.gens /\ Un (frs outer) [] H H' s.heap s'.heap /\ HOk P w H' s'.heap /\ RelV v u /\ Q v H'
def CR (CX : CXT) (outer : List Env) (P : Program) (w : World) (H : Hp) (s : Shared) (Q : VK) (E : XK) (r : Result) (s' : Shared) : Prop :=
  match r with
  | .ok (.ret u) => CE outer P w H s Q u s'
  | .ok _ => False
  | .error e => CX outer H s E e s'
structure FnOk (P : Program) (w : World) (K : PySem.W.Frag) (mg : Str -> Option Value) (base : Heap) (CX : CXT) (k : Nat) (f : Addr) (fd : FuncData) (ps : List Str) (sp : Sp) : Prop where
  len : ∀ vs H Q E, sp vs H Q E -> vs.length = ps.length
  run : ∀ (A : Around) (outer : List Env) (s : Shared) (H : Hp) (args : Args) (us : List Value) (vs : List V) (Q : VK) (E : XK), Room k A -> Env0 P w K mg base A outer s H -> BindsTo s fd args (ps.zip us) -> Vals vs us -> sp vs H Q E ->
    codeAny (model P w) A (.call (.ref f) args) (CR CX outer P w H s Q E) s
theorem FnOk.mono {P : Program} {w : World} {K : PySem.W.Frag} {mg : Str -> Option Value} {base : Heap} {CX : CXT} {j k : Nat} {f : Addr} {fd : FuncData} {ps : List Str} {sp : Sp} (F : FnOk P w K mg base CX j f fd ps sp) (h : j <= k) :
    FnOk P w K mg base CX k f fd ps sp := ⟨F.len, fun A outer s H args us vs Q E hr => F.run A outer s H args us vs Q E (hr.mono h)⟩
theorem FnOk.imp {P : Program} {w : World} {K : PySem.W.Frag} {mg : Str -> Option Value} {base : Heap} {CX : CXT} {k : Nat} {f : Addr} {fd : FuncData} {ps : List Str} {sp sp' : Sp} (F : FnOk P w K mg base CX k f fd ps sp)
    (h : ∀ vs H Q E, sp' vs H Q E -> sp vs H Q E) : FnOk P w K mg base CX k f fd ps sp' :=
  ⟨fun vs H Q E q => F.len vs H Q E (h _ _ _ _ q), fun A outer s H args us vs Q E hr he hb hv hs => F.run A outer s H args us vs Q E hr he hb hv (h _ _ _ _ hs)⟩
theorem Env0.make {P : Program} {w : World} {K : PySem.W.Frag} {mg : Str -> Option Value} {base : Heap} {A : Around} {outer : List Env} {s : Shared} {H : Hp} (e : Env0 P w K mg base A outer s H) (C : Addr) (us : List Value) (kw : List (Str × Value)) :
    Env0 P w K mg base (A.under (.builtin "type.__call__" ⟨.ref C :: us, kw⟩)) outer s H := ⟨by first | exact e.frames | (simpa [Around.under, Code.envs, Code.isFrame, pushEnvs] using e.frames), e.mod, e.bs, e.bsz, e.funs, e.frf, e.hok, e.bare⟩
section
variable {X : Cx} {pins : List (Addr × Obj)} {σ : St} {H : Hp} {s s' : Shared}
theorem Inv.env0 (I : Inv X pins σ H s) : Env0 X.prog X.w X.K X.mg X.base X.A X.stack s H :=
  ⟨I.ok.frames, I.ok.mod, I.bs, Nat.le_trans I.ok.bsz I.sz, I.stack, I.stkFree, I.hok, I.bare⟩
theorem Inv.after {Q : VK} {u : Value} (I : Inv X pins σ H s) (h : CE X.stack X.prog X.w H s Q u s') : EP X pins σ Q u s' := by
  obtain ⟨v, H', os, bare, un, hok, r, q⟩ := h
  obtain ⟨hh, g, d, t, os'⟩ := s'
  obtain rfl : os' = s.os := os
  exact ⟨v, H', I.call (h' := hh) (g' := g) (d' := d) (t' := t) (ch := []) un hok bare (fun b z => absurd z (by simp)), r, q⟩
end
def tCall (sp : Sp) (dvs : List V) (E : XK) (t : TA) : TE := fun σ H Q => t σ H fun vs H1 => sp (vs ++ dvs) H1 Q E
def tMake (C : Addr) (sp : Sp) (dvs : List V) (E : XK) (t : TA) : TE := fun σ H Q => t σ H fun vs H1 => ∀ x dx, H1 x = none -> H1 dx = none -> dx ≠ x ->
  sp (.ref x :: (vs ++ dvs)) (upd (upd H1 dx (.own x)) x (.ins C dx [])) (fun v H2 => v = .non /\ Q (.ref x) H2) E
def Binds (K : PySem.W.Frag) (fd : FuncData) (ps : List Str) (ds : List Value) : Prop :=
  ∀ (s : Shared) (us : List Value), K.In s.heap -> (us ++ ds).length = ps.length -> BindsTo s fd ⟨us, []⟩ (ps.zip (us ++ ds))
theorem Binds.all {K : PySem.W.Frag} {fd : FuncData} {ps : List Str} (h : ∀ us : List Value, us.length = ps.length -> bindArgs fd ⟨us, []⟩ = pure (ps.zip us)) : Binds K fd ps [] := fun s us _ hl => by
  rw [List.append_nil] at hl ⊢
  exact .of_eq (h us hl)
def Passes (CX : CXT) (X : Cx) (E : XK) : Prop := ∀ (pins : List (Addr × Obj)) (σ : St) (H : Hp) (s : Shared) (e : Value) (s' : Shared), Inv X pins σ H s -> CX X.stack H s E e s' -> X.xe e s'
section
variable {X : Cx} {CX : CXT} {k : Nat} {f C : Addr} {fd : FuncData} {ps : List Str} {sp : Sp} {dvs : List V} {ds : List Value} {E : XK} {x m : Str} {p pos apos : Pos} {e o : Expr} {es : List Expr} {ta : TE} {t : TA}
theorem run_fn {pins : List (Addr × Obj)} {σ : St} {H : Hp} {s : Shared} {Q : VK} {us : List Value} {vs : List V} (F : FnOk X.prog X.w X.K X.mg X.base CX k f fd ps sp) (hr : Room k X.A) (hb : Binds X.K fd ps ds) (hd : Vals dvs ds) (hx : Passes CX X E)
    (I : Inv X pins σ H s) (r : Vals vs us) (h : sp (vs ++ dvs) H Q E) : wpAny (model X.prog X.w) X.A (call (.ref f) us) (EP X pins σ Q) X.xe s := by
  have r2 : Vals (vs ++ dvs) (us ++ ds) := r.append hd
  have hl : (us ++ ds).length = ps.length := by rw [← r2.length]; exact F.len _ _ _ _ h
  refine wpAny_call (codeAny_mono (F.run X.A X.stack s H ⟨us, []⟩ (us ++ ds) (vs ++ dvs) Q E hr I.env0 (hb s us I.kIn hl) r2 h) fun r s' hq => ?_)
  cases r with
  | error e => exact hx pins σ H s e s' I hq
  | ok fl =>
    cases fl with
    | ret u => exact I.after hq
    | next => exact False.elim hq
    | brk => exact False.elim hq
    | cont => exact False.elim hq
structure Mk (K : PySem.W.Frag) (C f : Addr) : Prop where
  makes : PySem.W.makesIn K C = true
  init : PySem.W.findIn K (.ref C) "__init__" = some (some (.ref f))
  fn : PySem.W.isFn K (.ref f) = true
  kp : PySem.W.keepIn K (.ref C) = true
theorem run_make {pins : List (Addr × Obj)} {σ : St} {H : Hp} {s : Shared} {Q : VK} {us : List Value} {vs : List V} (M : Mk X.K C f) (F : FnOk X.prog X.w X.K X.mg X.base CX k f fd ps sp) (hr : Room (k + 1) X.A) (hb : Binds X.K fd ps ds) (hd : Vals dvs ds)
    (hx : Passes CX X E) (I : Inv X pins σ H s) (r : Vals vs us)
    (h : ∀ x dx, H x = none -> H dx = none -> dx ≠ x -> sp (.ref x :: (vs ++ dvs)) (upd (upd H dx (.own x)) x (.ins C dx [])) (fun v H2 => v = .non /\ Q (.ref x) H2) E) :
    wpAny (model X.prog X.w) X.A (call (.ref C) us) (EP X pins σ Q) X.xe s := by
  have hq := h (s.heap.objs.size + 1) s.heap.objs.size (I.hok.fresh (Nat.le_succ _)) (I.hok.fresh (Nat.le_refl _)) (Nat.ne_of_lt (Nat.lt_succ_self _))
  have I2 := Inv.made (C := C) I
  have r2 : Vals (V.ref (s.heap.objs.size + 1) :: (vs ++ dvs)) (Value.ref (s.heap.objs.size + 1) :: (us ++ ds)) := .cons rfl (r.append hd)
  have hl : (Value.ref (s.heap.objs.size + 1) :: us ++ ds).length = ps.length := by
    have e := r2.length
    rw [F.len _ _ _ _ hq] at e
    exact e.symm
  refine wpAny_call (make_map (f := f) I.kIn M.makes M.init (beq_iff_eq.mp M.fn) (codeAny_mono (F.run _ X.stack _ _ ⟨Value.ref (s.heap.objs.size + 1) :: us, []⟩ (Value.ref (s.heap.objs.size + 1) :: (us ++ ds)) _ _ E (hr.make C us [])
    (I2.env0.make C us []) (hb _ (Value.ref (s.heap.objs.size + 1) :: us) I2.kIn hl) r2 hq) fun r s' hq' => ?_))
  cases r with
  | error e => exact hx pins σ _ _ e s' I2 hq'
  | ok fl =>
    cases fl with
    | ret u =>
      obtain ⟨v, H', I3, rv, ev, q3⟩ := I2.after hq'
      subst ev
      exact ⟨rv, ⟨V.ref (s.heap.objs.size + 1), H', I3, rfl, q3⟩⟩
    | next => exact False.elim hq'
    | brk => exact False.elim hq'
    | cont => exact False.elim hq'
theorem pe_make (M : Mk X.K C f) (F : FnOk X.prog X.w X.K X.mg X.base CX k f fd ps sp) (hr : Room (k + 1) X.A) (hg : Gl X x) (hm : X.mg x = some (.ref C)) (hb : Binds X.K fd ps ds) (hd : Vals dvs ds) (hx : Passes CX X E)
    (ha : PA X (e :: es) t) (hdb : (x == ("__debug__" : Str)) = false := by decide) (he : starEach (e :: es) X.env = (false, eval e X.env) :: starEach es X.env := by rfl) (hpl : (backTo pos (starEach es X.env)).any (·.1) = false := by rfl) :
    PE X (.Call (.Name x p) (e :: es) [] pos) (tMake C sp dvs E t) := by
  intro pins s σ H Q I h
  refine wpAny_Call_Name_kw (ld_glob I hg hm ?_ hdb)
  refine PySem.W.callWith_K (h₀ := X.base) I.ok.mod.kin M.kp (thn (ha pos pins s σ H _ I h) fun us s1 ⟨vs, H1, I1, r, q⟩ => ⟨I1.kIn, ?_⟩) he hpl
  exact run_make M F hr hb hd hx I1 r q
end
def PK (X : Cx) (kws : List Keyword) (t : TA) : Prop :=
  ∀ (pos : Pos) (pins : List (Addr × Obj)) (s : Shared) (σ : St) (H : Hp) (Q : List V -> Hp -> Prop), Inv X pins σ H s -> t σ H Q -> wpAny (model X.prog X.w) X.A (evalAll ((backToKw pos (keywordEach kws X.env)).map (·.2))) (AP X pins σ Q) X.xe s
section
variable {X : Cx} {CX : CXT} {k : Nat} {f C : Addr} {fd : FuncData} {ps ks : List Str} {sp : Sp} {E : XK} {x m : Str} {p pos apos kpos : Pos} {e o : Expr} {es : List Expr} {kws : List Keyword} {te ta : TE} {t tk : TA} {nm : Option Str}
theorem pk_nil : PK X [] tNil := fun _ _ _ _ H Q I h => wpAny_evalAll_nil ⟨[], H, I, .nil, h⟩
theorem pk_cons (ha : PE X e te) (hr : PK X kws t) : PK X (⟨nm, e, kpos⟩ :: kws) (tCons te t) := by
  intro pos pins s σ H Q I h
  show wpAny _ _ (evalAll ((do let v ← eval e X.env; standAt pos; pure v) :: (backToKw pos (keywordEach kws X.env)).map (·.2))) _ _ s
  refine wpAny_evalAll_cons (wpAny_bind (thn (ha pins s σ H _ I h) fun u s1 ⟨x, H1, I1, r1, q1⟩ => wpAny_bind (wpAny_standAt (wpAny_pure ?_))))
  exact thn (hr pos pins s1 σ H1 _ I1 q1) fun us s2 ⟨xs, H2, I2, r2, q2⟩ => ⟨x :: xs, H2, I2, .cons r1 r2, q2⟩
variable {g : List Value -> List Value -> List Value} {gV : List V -> List V -> List V}
end
structure FnScope (N P : List Str) (sc : Scope) : Prop where
  kind : sc.kind = .function
  co : sc.isCoroutine = false
  gen : sc.isGenerator = false
  nd : N.Nodup
  pre : N.take P.length = P
  par : ∀ x ∈ P, sc.names.lookup x = some .local ∨ sc.names.lookup x = some .cell
  nofree : ∀ y ∈ sc.names, y.2 ≠ .free
theorem bindL_out {kindOf : Str -> Option NameKind} {x : Str} : ∀ {binds : List (Str × Value)} {m : Str -> Option Value}, (∀ v, (x, v) ∉ binds) -> bindL kindOf binds m x = m x
  | [], _, _ => rfl
  | (n, v) :: r, m, h => by
    unfold bindL
    rw [bindL_out fun w hw => h w (List.mem_cons_of_mem _ hw)]
    split
    · have : x ≠ n := by rintro rfl; exact h v List.mem_cons_self
      simp [this]
    · rfl
theorem bindC_out {kindOf : Str -> Option NameKind} {x : Str} : ∀ {binds : List (Str × Value)} {m : Str -> Option Value}, (∀ v, (x, v) ∉ binds) -> bindC kindOf binds m x = m x
  | [], _, _ => rfl
  | (n, v) :: r, m, h => by
    unfold bindC
    rw [bindC_out fun w hw => h w (List.mem_cons_of_mem _ hw)]
    split
    · rfl
    · have : x ≠ n := by rintro rfl; exact h v List.mem_cons_self
      simp [this]
theorem bindL_get {kindOf : Str -> Option NameKind} {x : Str} {v : Value} : ∀ {P : List Str} {vs : List Value} {i : Nat} {m : Str -> Option Value}, P.Nodup -> P[i]? = some x -> vs[i]? = some v -> kindOf x = some .local ->
    bindL kindOf (P.zip vs) m x = some v
  | [], _, _, _, _, h, _, _ => by simp at h
  | _ :: _, [], _, _, _, _, h, _ => by simp at h
  | p :: P, w :: vs, 0, m, nd, h1, h2, hk => by
    simp at h1 h2; subst h1; subst h2
    show bindL kindOf ((p, w) :: P.zip vs) m p = _
    unfold bindL
    rw [bindL_out fun v hv => (List.nodup_cons.mp nd).1 (List.of_mem_zip hv).1, if_pos hk]
    simp
  | p :: P, w :: vs, i + 1, m, nd, h1, h2, hk => by
    show bindL kindOf ((p, w) :: P.zip vs) m x = _
    unfold bindL
    exact bindL_get (i := i) (List.nodup_cons.mp nd).2 (by simpa using h1) (by simpa using h2) hk
theorem bindC_get {kindOf : Str -> Option NameKind} {x : Str} {v : Value} : ∀ {P : List Str} {vs : List Value} {i : Nat} {m : Str -> Option Value}, P.Nodup -> P[i]? = some x -> vs[i]? = some v -> kindOf x ≠ some .local ->
    bindC kindOf (P.zip vs) m x = some v
  | [], _, _, _, _, h, _, _ => by simp at h
  | _ :: _, [], _, _, _, _, h, _ => by simp at h
  | p :: P, w :: vs, 0, m, nd, h1, h2, hk => by
    simp at h1 h2; subst h1; subst h2
    show bindC kindOf ((p, w) :: P.zip vs) m p = _
    unfold bindC
    rw [bindC_out fun v hv => (List.nodup_cons.mp nd).1 (List.of_mem_zip hv).1, if_neg hk]
    simp
  | p :: P, w :: vs, i + 1, m, nd, h1, h2, hk => by
    show bindC kindOf ((p, w) :: P.zip vs) m x = _
    unfold bindC
    exact bindC_get (i := i) (List.nodup_cons.mp nd).2 (by simpa using h1) (by simpa using h2) hk
def start (N : List Str) (vs : List V) : St := vs.map some ++ List.replicate (N.length - vs.length) none
def cxOf (CX : CXT) (P : Program) (w : World) (K : PySem.W.Frag) (mg : Str -> Option Value) (base : Heap) (N : List Str) (qual : Str) (scope : Scope) (f : Addr) (cd : Value) (A : Around) (outer : List Env) (s : Shared) (H : Hp) (E : XK) : Cx where
  prog := P
  w := w
  K := K
  mg := mg
  base := base
  A := A.deeper (envOfC qual scope s.heap.objs.size f cd)
  N := N
  s₀ := s
  H₀ := H
  env := envOfC qual scope s.heap.objs.size f cd
  outer := outer
  stack := envOfC qual scope s.heap.objs.size f cd :: outer
  ex := []
  calm := true
  fn := fun _ => true
  pn := []
  xe := fun e s' => wpAny (model P w) (A.deeper (envOfC qual scope s.heap.objs.size f cd)) (leaving (envOfC qual scope s.heap.objs.size f cd) e) (fun _ s'' => CX outer H s E e s'') (fun e' s'' => CX outer H s E e' s'') s'
theorem cell_has {sc : Scope} {n : Nat} {x : Str} (h : sc.names.lookup x = some .cell) : ∃ c, (cellsFrom n sc.names []).lookup x = some c := by
  have q := PySem.W.cellsFrom_some sc.names n [] (.inl h)
  exact Option.isSome_iff_exists.mp q
theorem inv_start {CX : CXT} {P : Program} {w : World} {K : PySem.W.Frag} {mg : Str -> Option Value} {base : Heap} {N ps : List Str} {qual : Str} {scope : Scope} {f : Addr} {cd : Value} {A : Around} {outer : List Env} {s s1 : Shared} {H : Hp} {E : XK} {us : List Value} {vs : List V}
    (S : FnScope N ps scope) (hd : A.handled = none) (e0 : Env0 P w K mg base A outer s H) (hl : vs.length = ps.length) (r : Vals vs us)
    (x : InCallC s s.heap.objs.size (bindL (envOfC qual scope s.heap.objs.size f cd).kindOf (ps.zip us) fun _ => none) (cellsFrom (s.heap.objs.size + 1) scope.names []) (bindC (envOfC qual scope s.heap.objs.size f cd).kindOf (ps.zip us) fun _ => none) s1) :
    Inv (cxOf CX P w K mg base N qual scope f cd A outer s H E) [] (start N vs) H s1 := by
  have hpl : ps.length <= N.length := by have := congrArg List.length S.pre; rw [List.length_take] at this; omega
  obtain ⟨h1, tk, rfl, hk⟩ := x.done
  have noA : ∀ b : Addr, b ∉ (cxOf CX P w K mg base N qual scope f cd A outer s H E).ex := fun b z => absurd (show b ∈ ([] : List Addr) from z) (by simp)
  refine ⟨⟨e0.mod, S.kind, rfl, rfl, Nat.le_refl _, fun y z c h1 h2 => ?_, fun y hy => ?_, fun y c _ h => ?_, fun _ => hd, Around.frames_deeper e0.frames, .inr ⟨rfl, rfl⟩, fun b z => absurd z (noA b), e0.bs, e0.bsz, fun b _ _ => noA b, fun b z => absurd z (noA b), e0.funs, e0.frf⟩,
    rfl, e0.bare, Un.kept hk, ⟨_, x.toInCall.ns, fun i y v h1 h2 h3 => ?_⟩, fun y c h => ⟨_, x.cell y c h⟩, e0.hok.fresh (Nat.le_refl _), fun y c h => ?_, fun p hp => absurd (show p ∈ ([] : List (Addr × Obj)) from hp) (by simp), e0.hok.kept hk, ?_⟩
  · exact name_of_addr x.apart (PySem.mem_of_lookup h1) (PySem.mem_of_lookup h2)
  · have hy : scope.names.lookup y = some .cell ∨ scope.names.lookup y = some .free := hy
    rcases hy with hy | hy
    · exact cell_has hy
    · exact absurd rfl (S.nofree _ (PySem.mem_of_lookup hy))
  · exact Nat.le_of_lt (x.above y c (PySem.mem_of_lookup h))
  · have hi : i < vs.length := by
      unfold start at h2
      by_cases hi : i < vs.length
      · exact hi
      · rw [List.getElem?_append_right (by simpa using hi)] at h2
        rw [List.getElem?_replicate] at h2
        split at h2 <;> cases h2
    have ha : vs[i]? = some v := by
      unfold start at h2
      rw [List.getElem?_append_left (by simpa using hi), List.getElem?_map] at h2
      cases e : vs[i]? with
      | none => rw [e] at h2; cases h2
      | some a => rw [e] at h2; cases h2; rfl
    obtain ⟨u, hu, rv⟩ := r.get ha
    have hp : ps[i]? = some y := by
      rw [← S.pre, List.getElem?_take_of_lt (by omega)]; exact h1
    have ndP : ps.Nodup := by rw [← S.pre]; exact S.nd.sublist (List.take_sublist _ _)
    refine ⟨u, rv, ?_⟩
    rcases S.par y (List.mem_of_getElem? hp) with k | k
    · exact .inl ⟨k, bindL_get ndP hp hu k⟩
    · obtain ⟨c, e⟩ := cell_has (n := s.heap.objs.size + 1) k
      refine .inr ⟨.inl k, c, e, ?_⟩
      have q := x.cell y c e
      rw [bindC_get ndP hp hu (by show scope.names.lookup y ≠ _; rw [k]; decide)] at q
      exact q
  · exact e0.hok.fresh (Nat.le_of_lt (x.above y c (PySem.mem_of_lookup h)))
  · unfold start
    show _ = N.length
    rw [List.length_append, List.length_map, List.length_replicate]
    omega
theorem fn_of {CX : CXT} {P : Program} {w : World} {K : PySem.W.Frag} {mg : Str -> Option Value} {base : Heap} {k : Nat} {f : Addr} {name qual : Str} {params : Arguments} {body : List Stmt} {scope : Scope} {dV kV doc pm cdv ct oc : Value} {an od : Option Addr}
    {osl : Array (Option Value)} {N ps : List Str} {sp : Sp} (lk : K.lookup f = some ⟨oc, od, .func (PySem.W.fnOf name qual params body scope dV kV doc pm an cdv ct), osl⟩) (hcd : PySem.W.codeIn K cdv qual = true) (S : FnScope N ps scope)
    (len : ∀ vs H Q E, sp vs H Q E -> vs.length = ps.length)
    (hbody : ∀ (A : Around) (outer : List Env) (s : Shared) (H : Hp) (vs : List V) (Q : VK) (E : XK), Room k (A.deeper (envOfC qual scope s.heap.objs.size f cdv)) -> sp vs H Q E ->
      ∃ t, PSs (cxOf CX P w K mg base N qual scope f cdv A outer s H E) body t /\ t { nx := fun _ H' => Q .non H', rt := Q } (start N vs) H) :
    FnOk P w K mg base CX (k + 1) f (PySem.W.fnOf name qual params body scope dV kV doc pm an cdv ct) ps sp := by
  refine ⟨len, fun A outer s H args us vs Q E hr e0 hb r hsp => ?_⟩
  have hl := len _ _ _ _ hsp
  have KX : K.In s.heap := e0.mod.kin.keeps fun b o e => (e0.bs b o e).1
  have lim : s.heap.NoLimit := e0.mod.nolimit.keeps fun b o e => (e0.bs b o e).1
  have hkind : ∀ y ∈ ps.zip us, scope.names.lookup y.1 = some .local ∨ (scope.names.lookup y.1 = some .cell /\ ((cellsFrom (s.heap.objs.size + 1) scope.names []).lookup y.1).isSome = true) := fun ⟨n, v⟩ hy => by
    rcases S.par n (List.of_mem_zip hy).1 with q | q
    · exact .inl q
    · exact .inr ⟨q, PySem.W.cellsFrom_some _ _ _ (.inl q)⟩
  refine codeAny_call_function hr.depth (KX _ _ lk) rfl S.co S.gen rfl (PySem.W.codeRec_of KX hcd) (hb _ _ _ _ ?_)
  refine wpAny_newFunctionEnv_cells S.kind hkind fun env he s1 x => ?_
  subst he
  refine ⟨lim.keeps x.toInCall.keep, codeAny_func ?_⟩
  obtain ⟨t, ht, hq⟩ := hbody A outer s H vs Q E (hr.deeper _) hsp
  have I : Inv (cxOf CX P w K mg base N qual scope f cdv A outer s H E) [] (start N vs) H s1 := inv_start S hr.hd e0 hl r x
  refine wpAny_mono (ht [] s1 (start N vs) H _ I hq) (fun fl s' hs => ?_) fun e s' hs => hs
  have fin : ∀ {σ' : St} {H' : Hp} {v : V} {u : Value}, Inv (cxOf CX P w K mg base N qual scope f cdv A outer s H E) [] σ' H' s' -> RelV v u -> Q v H' -> CE outer P w H s Q u s' :=
    fun {σ' H' v u} J rv q => ⟨v, H', J.os, J.bare, J.base, J.hok, rv, q⟩
  cases fl with
  | ret u =>
    obtain ⟨v, σ', H', J, rv, q⟩ := hs
    exact fin J rv q
  | next =>
    obtain ⟨σ', H', J, q⟩ := hs
    exact fin (v := V.non) (u := Value.none) J rfl q
  | brk =>
    obtain ⟨_, _, _, q⟩ := hs
    exact False.elim q
  | cont =>
    obtain ⟨_, _, _, q⟩ := hs
    exact False.elim q
end L2
namespace L2
open PySem PySem.Spec PyProof.Rows
section
variable {X : Cx} {x : Str} {p pos : Pos} {e : Expr} {es : List Expr} {t : TA} {id T : String} {r : List V -> Hp -> VK -> Prop}
def tCB (r : List V -> Hp -> VK -> Prop) (t : TA) : TE := fun σ H Q => t σ H fun vs H1 => r vs H1 Q
theorem pe_callB (hc : CallR X (.builtin id) r) (hg : Gl X x) (hm : X.mg x = none) (hv : bootBuiltins x = some (.builtin id)) (ha : PA X (e :: es) t) (hn : x ≠ "__name__" := by decide) (hdb : (x == ("__debug__" : Str)) = false := by decide)
    (he : starEach (e :: es) X.env = (false, eval e X.env) :: starEach es X.env := by rfl) (hpl : (backTo pos (starEach es X.env)).any (·.1) = false := by rfl) : PE X (.Call (.Name x p) (e :: es) [] pos) (tCB r t) := by
  intro pins s σ H Q I h
  refine wpAny_Call_Name_kw (ld_blt I hg hm hv ?_ hn hdb)
  exact PyProof.Rows.callWith_builtin1 (thn (ha pos pins s σ H _ I h) fun us s1 ⟨vs, H1, I1, r1, q1⟩ => hc pins s1 σ H1 vs us Q I1 r1 q1) he hpl
theorem pe_callTy (hc : CallR X (.type T) r) (hg : Gl X x) (hm : X.mg x = none) (hv : bootBuiltins x = some (.type T)) (ha : PA X (e :: es) t) (hn : x ≠ "__name__" := by decide) (hdb : (x == ("__debug__" : Str)) = false := by decide)
    (he : starEach (e :: es) X.env = (false, eval e X.env) :: starEach es X.env := by rfl) (hpl : (backTo pos (starEach es X.env)).any (·.1) = false := by rfl) : PE X (.Call (.Name x p) (e :: es) [] pos) (tCB r t) := by
  intro pins s σ H Q I h
  refine wpAny_Call_Name_kw (ld_blt I hg hm hv ?_ hn hdb)
  exact PyProof.Rows.callWith_type1 (thn (ha pos pins s σ H _ I h) fun us s1 ⟨vs, H1, I1, r1, q1⟩ => hc pins s1 σ H1 vs us Q I1 r1 q1) he hpl
end
end L2
set_option Elab.async false
set_option linter.all false
set_option maxRecDepth 100000
namespace HT
open PySem PyProof.Rows
section
open PySem.SeqAt
open PySem.AutoSeq1 (wpAny_loadPart')
open PySem.MeetsSeq PySem.MeetsSeq2 PySem.MeetsSeq3
end
section
variable {prog : Program} {w : World} {A : Around} {E : Value -> Shared -> Prop} {s : Shared}
theorem cat_tup {t b : Addr} {vs ws : List Value} {Q : Value -> Shared -> Prop} (ht : IsTup s.heap t vs.toArray) (hb : IsTup s.heap b ws.toArray) (hv : vs ≠ [])
    (h1 : ws = [] -> Q (.ref t) s) (h2 : ws ≠ [] -> Q (.ref s.heap.objs.size) { s with heap := s.heap.push { cls := .type "tuple", data := .seq (vs ++ ws).toArray } })
    (hsz : vs.length + ws.length <= sizeLine) : wpAny (model prog w) A (binaryOp .Add (.ref t) (.ref b)) Q E s := by
  obtain ⟨⟨cls, dd, data, sl⟩, ho, hc, n, hd⟩ := id ht
  obtain ⟨⟨cls2, dd2, data2, sl2⟩, ho2, hc2, n2, hd2⟩ := id hb
  simp only at hc hd hc2 hd2
  subst hc hd hc2 hd2
  have e : vs.toArray ++ ws.toArray = (vs ++ ws).toArray := by simp
  by_cases hw : ws = []
  · exact concat_meets ⟨_, ho, rfl⟩ ⟨_, ho2, rfl⟩ noFill_tuple_add seq_tuple_add PySem.F.slot_tuple_add PySem.F.entry_tuple_add (PySem.F.args_tuple_add_2 _ _)
      (tuple_addW1 t b vs.toArray ws.toArray n n2 dd dd2 sl sl2 (by simpa using hv) (by simp [hw])) ⟨ho, ho2, h1 hw⟩
  · refine concat_meets ⟨_, ho, rfl⟩ ⟨_, ho2, rfl⟩ noFill_tuple_add seq_tuple_add PySem.F.slot_tuple_add PySem.F.entry_tuple_add (PySem.F.args_tuple_add_2 _ _)
      (tuple_addW2 t b vs.toArray ws.toArray n n2 dd dd2 sl sl2 (by simpa using hv) (by simpa using hw) (by rw [List.size_toArray, List.size_toArray]; exact hsz)) ⟨ho, ho2, ?_⟩
    rw [e]
    exact h2 hw
def sIx (n d : Nat) : Option Int -> Nat
  | none => d
  | some v => if v < 0 then (v + (n : Int)).toNat else min v.toNat n
theorem sIx_le (n d : Nat) (hd : d <= n) (o : Option Int) : sIx n d o <= n := by
  cases o with
  | none => exact hd
  | some v =>
    show (if v < 0 then (v + (n : Int)).toNat else min v.toNat n) <= n
    by_cases hv : v < 0
    · rw [if_pos hv]; omega
    · rw [if_neg hv]; exact Nat.min_le_right _ _
theorem clip_eq (v : Int) (n d : Nat) : (if v < 0 then max (v + (n : Int)) 0 else min v (n : Int)) = ((sIx n d (some v) : Nat) : Int) := by
  show (if v < 0 then max (v + (n : Int)) 0 else min v (n : Int)) = (((if v < 0 then (v + (n : Int)).toNat else min v.toNat n) : Nat) : Int)
  by_cases hv : v < 0
  · simp only [if_pos hv]; omega
  · simp only [if_neg hv]; omega
theorem adjust_gen (lo hi : Option Int) (n : Nat) : Builtin.Slice.sliceAdjust lo hi 1 (n : Int) = (((sIx n 0 lo : Nat) : Int), ((sIx n n hi : Nat) : Int)) := by
  have h1 : ¬ ((1 : Int) < 0) := by omega
  unfold Builtin.Slice.sliceAdjust
  simp only [h1, if_false]
  refine Prod.ext ?_ ?_
  · cases lo with
    | none => rfl
    | some v => exact clip_eq v n 0
  · cases hi with
    | none => rfl
    | some v => exact clip_eq v n n
theorem places_gen (i j : Nat) : Builtin.Slice.slicePlaces (i : Int) (j : Int) 1 = j - i := by
  unfold Builtin.Slice.slicePlaces
  have h1 : (1 : Int) > 0 := by omega
  simp only [h1, if_true, Int.ediv_one]
  split <;> omega
theorem slicePart_ {v : Value} {o : Option Int} {Q : Option Int -> Shared -> Prop} (p : IsPart v o) (h : Q o s) : wpAny (model prog w) A (Builtin.Slice.slicePartIndex v) Q E s := by
  cases p with
  | none => exact slicePart_none h
  | int i t => exact slicePart_int h
theorem sliceApplied_gen {sl : Addr} {vl vu : Value} {lo hi : Option Int} {n : Nat} {Q : Int × Int × Nat -> Shared -> Prop} (hs : s.heap.IsSliceOf sl vl vu .none) (pl : IsPart vl lo) (pu : IsPart vu hi)
    (h : Q (((sIx n 0 lo : Nat) : Int), 1, sIx n n hi - sIx n 0 lo) s) : wpAny (model prog w) A (Builtin.Slice.sliceApplied (.ref sl) (pure (n : Int))) Q E s := by
  obtain ⟨os, hos, hcs, hds⟩ := id hs
  unfold Builtin.Slice.sliceApplied Builtin.Slice.sliceFields
  refine wpAny_bind (wpAny_bind (wpAny_field hos hds (x := vl) rfl (wpAny_bind (wpAny_field hos hds (x := vu) rfl (wpAny_bind (wpAny_field hos hds (x := .none) rfl (wpAny_pure ?_)))))))
  refine wpAny_bind (slicePart_none ?_)
  show wpAny _ _ (if ((1 : Int) == 0) = true then _ else _) _ _ s
  rw [if_neg (by decide)]
  refine wpAny_bind (slicePart_ pl (wpAny_bind (slicePart_ pu (wpAny_bind (wpAny_pure ?_)))))
  show wpAny _ _ (match Builtin.Slice.sliceAdjust lo hi 1 (n : Int) with | (lo, hi) => pure (lo, (1 : Int), Builtin.Slice.slicePlaces lo hi 1)) _ _ s
  rw [adjust_gen lo hi n]
  show wpAny _ _ (pure (((sIx n 0 lo : Nat) : Int), (1 : Int), Builtin.Slice.slicePlaces ((sIx n 0 lo : Nat) : Int) ((sIx n n hi : Nat) : Int) 1)) _ _ s
  rw [places_gen]
  exact wpAny_pure h
theorem pick_gen (xs : Array Value) (i k : Nat) : ((List.range k).filterMap fun (m : Nat) => xs[((i : Int) + (m : Int) * 1).toNat]?).toArray = ((xs.toList.drop i).take k).toArray := by
  have e : (fun (m : Nat) => xs[((i : Int) + (m : Int) * 1).toNat]?) = fun m => xs[i + m]? := by
    funext m
    have : ((i : Int) + (m : Int) * 1).toNat = i + m := by omega
    rw [this]
  rw [e]
  have := pick_run xs i k
  rw [List.filterMap_map] at this
  have e2 : ((fun x => xs[x]?) ∘ fun x => i + x) = fun m => xs[i + m]? := rfl
  rw [e2] at this
  rw [this]
theorem getItem_tuple_cut {t sl : Addr} {items : Array Value} {vl vu : Value} {lo hi : Option Int} {Q : Value -> Shared -> Prop} (ht : IsTup s.heap t items) (hs : s.heap.IsSliceOf sl vl vu .none) (pl : IsPart vl lo) (pu : IsPart vu hi)
    (hw : ¬ (sIx items.size 0 lo = 0 /\ sIx items.size items.size hi = items.size))
    (h : Q (.ref s.heap.objs.size) { s with heap := s.heap.push { cls := .type "tuple", data := .seq ((items.toList.drop (sIx items.size 0 lo)).take (sIx items.size items.size hi - sIx items.size 0 lo)).toArray } })
    (hsz : items.size <= sizeLine) : wpAny (model prog w) A (getItem (.ref t) (.ref sl)) Q E s := by
  have htake : sizeOk (.seq ((items.toList.drop (sIx items.size 0 lo)).take (sIx items.size items.size hi - sIx items.size 0 lo)).toArray) := by
    show ((items.toList.drop (sIx items.size 0 lo)).take (sIx items.size items.size hi - sIx items.size 0 lo)).toArray.size <= sizeLine
    rw [List.size_toArray, List.length_take, List.length_drop, Array.length_toList]
    omega
  have hj : sIx items.size items.size hi <= items.size := sIx_le _ _ (Nat.le_refl _) hi
  obtain ⟨os, hos, hcs, hds⟩ := id hs
  have hTs : s.TypeIs (.ref sl) "slice" := ⟨os, hos, hcs⟩
  unfold getItem
  try with_reducible refine wpAny_holding ?_
  first | refine wpAny_bind (wpAny_pure ?_) | skip
  refine wpAny_bind (wpAny_sequenceKey ht.typeIs (by decide) ?_)
  refine wpAny_bind (wpAny_callSpecial?_slot (name := Str.ofString "__getitem__") ht.typeIs PyProof.Rows.slot_tuple_getitem
    (wpAny_call_entry PyProof.Rows.slot_tuple_getitem ht.typeIs entry_tuple_getitem ?_ (args_tuple_getitem _ _)))
  show wpAny _ _ (Builtin.Tuple.tupleItemsOf (.ref t) >>= _) _ _ s
  refine wpAny_bind (tupleItemsOf_ ht ?_)
  refine wpAny_bind (wpAny_typeOf hTs ?_)
  rw [if_pos (by decide)]
  refine wpAny_bind (sliceApplied_gen hs pl pu ?_)
  have hno : ¬ ((((sIx items.size 0 lo : Nat) : Int) == 0 && (1 : Int) == 1 && (sIx items.size items.size hi - sIx items.size 0 lo) == items.size) = true) := by
    intro q
    rw [Bool.and_eq_true, Bool.and_eq_true] at q
    have q1 : ((sIx items.size 0 lo : Nat) : Int) = 0 := eq_of_beq q.1.1
    have q2 : sIx items.size items.size hi - sIx items.size 0 lo = items.size := eq_of_beq q.2
    exact hw ⟨by omega, by omega⟩
  show wpAny _ _ (if (((sIx items.size 0 lo : Nat) : Int) == 0 && (1 : Int) == 1 && (sIx items.size items.size hi - sIx items.size 0 lo) == items.size) = true then _ else _) _ _ s
  rw [if_neg hno, pick_gen]
  first
    | exact wpAny_bind (m := Builtin.Tuple.tupleExact _) (wpAny_newObj_type (wpAny_pure ⟨_, rfl, wpAny_pure h⟩) htake)
    | exact wpAny_bind (m := Builtin.Tuple.tupleExact _) (wpAny_newObj_type (wpAny_bind (wpAny_pure (wpAny_pure ⟨_, rfl, wpAny_pure h⟩))) htake)
    | exact wpAny_bind (wpAny_bind (m := Builtin.Tuple.tupleExact _) (wpAny_newObj_type (wpAny_pure (wpAny_pure ⟨_, rfl, wpAny_pure h⟩)) htake))
    | exact wpAny_bind (wpAny_bind (m := Builtin.Tuple.tupleExact _) (wpAny_newObj_type (wpAny_pure ⟨_, rfl, wpAny_pure h⟩) htake))
end
end HT
namespace L2
open PySem PySem.Spec PyProof.Rows
abbrev TO := St -> Hp -> (Option Int -> Hp -> Prop) -> Prop
def PO (X : Cx) (e : Option Expr) (t : TO) : Prop :=
  ∀ (pins : List (Addr × Obj)) (s : Shared) (σ : St) (H : Hp) (Q : Option Int -> Hp -> Prop), Inv X pins σ H s -> t σ H Q ->
    wpAny (model X.prog X.w) X.A (evalPart e X.env) (fun u s' => ∃ o H', Inv X pins σ H' s' /\ IsPart u o /\ Q o H') X.xe s
def tNoPart : TO := fun _ H Q => Q none H
def tPart (t : TE) : TO := fun σ H Q => t σ H fun x H1 => ∃ i, x = .int i /\ Q (some i) H1
section
variable {X : Cx} {e : Expr} {te : TE} {lo hi : Option Expr} {tl th : TO} {pos p2 : Pos}
theorem po_none : PO X none tNoPart := by
  intro pins s σ H Q I h
  rw [evalPart_none]
  exact wpAny_pure ⟨none, H, I, .none, h⟩
theorem po_some (h : PE X e te) : PO X (some e) (tPart te) := by
  intro pins s σ H Q I hw
  rw [evalPart_some]
  refine thn (h pins s σ H _ I hw) fun u s1 ⟨x, H1, I1, r1, q1⟩ => ?_
  obtain ⟨i, rfl, q⟩ := q1
  obtain ⟨t, rfl⟩ := r1
  exact ⟨some i, H1, I1, .int i t, q⟩
def SlR (X : Cx) (r : V -> Option Int -> Option Int -> Hp -> VK -> Prop) : Prop :=
  ∀ (pins : List (Addr × Obj)) (s : Shared) (σ : St) (H : Hp) (x : V) (v vl vu : Value) (lo hi : Option Int) (sl : Addr) (Q : VK), Inv X pins σ H s -> RelV x v -> s.heap.IsSliceOf sl vl vu .none -> IsPart vl lo -> IsPart vu hi -> r x lo hi H Q ->
    ∃ T id, typeLookup (.type T) "__getitem__" = pure (some (.builtin id)) /\ s.TypeIs v T /\ wpAny (model X.prog X.w) X.A (getItem v (.ref sl)) (EP X pins σ Q) X.xe s
theorem SlR.or {r r' : V -> Option Int -> Option Int -> Hp -> VK -> Prop} (h : SlR X r) (h' : SlR X r') : SlR X (fun x lo hi H Q => r x lo hi H Q ∨ r' x lo hi H Q) := by
  intro pins s σ H x v vl vu lo hi sl Q I rx hs pl pu q
  rcases q with q | q
  · exact h pins s σ H x v vl vu lo hi sl Q I rx hs pl pu q
  · exact h' pins s σ H x v vl vu lo hi sl Q I rx hs pl pu q
def tSl (r : V -> Option Int -> Option Int -> Hp -> VK -> Prop) (te : TE) (tl th : TO) : TE := fun σ H Q => te σ H fun x H1 => tl σ H1 fun l H2 => th σ H2 fun u H3 => r x l u H3 Q
theorem pe_slice {r : V -> Option Int -> Option Int -> Hp -> VK -> Prop} (hr : SlR X r) (he : PE X e te) (hl : PO X lo tl) (hu : PO X hi th) : PE X (.Subscript e (.Slice lo hi none p2) pos) (tSl r te tl th) := by
  intro pins s σ H Q I h
  refine Subscript_ (thn (he pins s σ H _ I h) fun v s1 ⟨x, H1, I1, r1, q1⟩ => ?_)
  refine wpAny_Slice (thn (hl pins s1 σ H1 _ I1 q1) fun vl s2 ⟨l, H2, I2, pl, q2⟩ => thn (hu pins s2 σ H2 _ I2 q2) fun vu s3 ⟨u, H3, I3, pu, q3⟩ => ?_)
  rw [evalPart_none]
  refine wpAny_pure ?_
  have I4 : Inv X pins σ H3 { s3 with heap := s3.heap.push { cls := .type "slice", data := .fields #[vl, vu, .none] } } := I3.kept (t' := s3.toks) fun b ob q => Heap.get?_push_of_some _ q
  obtain ⟨T, id, hT, ht, hg⟩ := hr pins { s3 with heap := s3.heap.push { cls := .type "slice", data := .fields #[vl, vu, .none] } } σ H3 x v vl vu l u s3.heap.objs.size Q I4 r1 (Heap.IsSliceOf.new ..) pl pu q3
  show wpAny (model X.prog X.w) X.A (subscriptTail e (.Slice lo hi none p2) v (.ref s3.heap.objs.size)) (EP X pins σ Q) X.xe { s3 with heap := s3.heap.push { cls := .type "slice", data := .fields #[vl, vu, .none] } }
  exact tail_any (ops := [.ref s3.heap.objs.size, v]) ht hT hg (by with_unfolding_all rfl)
def cutV (xs : List V) (lo hi : Option Int) : List V := (xs.drop (HT.sIx xs.length 0 lo)).take (HT.sIx xs.length xs.length hi - HT.sIx xs.length 0 lo)
theorem cutV_length (xs : List V) (lo hi : Option Int) : (cutV xs lo hi).length <= xs.length := by
  unfold cutV
  rw [List.length_take, List.length_drop]
  omega
def rSlT (K : PySem.W.Frag) : V -> Option Int -> Option Int -> Hp -> VK -> Prop := fun x lo hi H Q => ∃ a xs, x = .ref a /\ SqT K H a xs /\
  ¬ (HT.sIx xs.length 0 lo = 0 /\ HT.sIx xs.length xs.length hi = xs.length) /\ ∀ p, H p = none -> Q (.ref p) (upd H p (.tup (cutV xs lo hi)))
theorem sl_tup : SlR X (rSlT X.K) := by
  intro pins s σ H x v vl vu lo hi sl Q I rx hs pl pu h
  obtain ⟨a, xs, rfl, hx, hw, q⟩ := h
  cases rx
  obtain ⟨its, r, ht, hz⟩ := I.tuple hx
  have hlen : its.toArray.size = xs.length := by rw [List.size_toArray]; exact r.length.symm
  refine ⟨"tuple", _, PyProof.Rows.slot_tuple_getitem.lookup, ht.typeIs, ?_⟩
  refine HT.getItem_tuple_cut ht hs pl pu (by rw [hlen]; exact hw) ?_ (by rw [hlen]; exact hz)
  rw [hlen]
  refine ⟨.ref s.heap.objs.size, _, I.laid (t' := s.toks) (o := .tup (cutV xs lo hi)) (fun b ob q => Heap.get?_push_of_some _ q) (Nat.le_refl _) ?_, rfl, q _ (I.hok.fresh (Nat.le_refl _))⟩
  exact ⟨Nat.le_trans (cutV_length xs lo hi) hz, _, (r.drop (HT.sIx xs.length 0 lo)).take (HT.sIx xs.length xs.length hi - HT.sIx xs.length 0 lo), IsTupN.new _ _⟩
def rCatT (K : PySem.W.Frag) : R2 := fun x y H Q => ∃ a b xs ys, x = .ref a /\ y = .ref b /\ SqT K H a xs /\ SqT K H b ys /\ xs ≠ [] /\ xs.length + ys.length <= sizeLine /\
  (ys = [] -> Q (.ref a) H) /\ (ys ≠ [] -> ∀ p, H p = none -> Q (.ref p) (upd H p (.tup (xs ++ ys))))
theorem Vals.nil_iff {xs : List V} {us : List Value} (r : Vals xs us) : us = [] ↔ xs = [] := by
  cases r with
  | nil => simp
  | cons _ _ => simp
theorem op_catT : OpR X (binaryOp .Add) (rCatT X.K) := by
  intro pins s σ H x y v u Q I rx ry h
  obtain ⟨a, b, xs, ys, rfl, rfl, ha, hb, hx, hz, q1, q2⟩ := h
  cases rx
  cases ry
  obtain ⟨its, r1, p1, _⟩ := I.tuple ha
  obtain ⟨its2, r2, p2, _⟩ := I.tuple hb
  refine HT.cat_tup p1 p2 (fun z => hx (r1.nil_iff.mp z)) (fun z => ⟨.ref a, H, I, rfl, q1 (r2.nil_iff.mp z)⟩) (fun z => ?_) (by rw [← r1.length, ← r2.length]; exact hz)
  refine ⟨.ref s.heap.objs.size, _, I.laid (t' := s.toks) (o := .tup (xs ++ ys)) (fun b ob q => Heap.get?_push_of_some _ q) (Nat.le_refl _) ?_, rfl, q2 (fun w => z (r2.nil_iff.mpr w)) _ (I.hok.fresh (Nat.le_refl _))⟩
  exact ⟨by rw [List.length_append]; exact hz, _, r1.append r2, IsTupN.new _ _⟩
end
end L2
namespace L2
open PySem PySem.Spec PyProof.Rows
def ixN (n : Nat) (i : Int) : Option Nat := if 0 <= i then (if i < n then some i.toNat else none) else if -(n : Int) <= i then some (i + n).toNat else none
def atI {α : Type} (xs : List α) (i : Int) : Option α := (ixN xs.length i).bind fun j => xs[j]?
theorem ixN_seq {n : Nat} {i : Int} {j : Nat} (h : ixN n i = some j) : seqIndex? i n = some j /\ j < n /\ -(n : Int) <= i /\ i < n := by
  unfold ixN at h
  by_cases h0 : 0 <= i
  · rw [if_pos h0] at h
    by_cases h1 : i < n
    · rw [if_pos h1] at h
      have e : i.toNat = j := Option.some.inj h
      exact ⟨by rw [seqIndex_of h0 h1, e], by omega, by omega, h1⟩
    · rw [if_neg h1] at h; cases h
  · rw [if_neg h0] at h
    by_cases h1 : -(n : Int) <= i
    · rw [if_pos h1] at h
      have e : (i + n).toNat = j := Option.some.inj h
      exact ⟨by rw [seqIndex_neg (by omega) h1, e], by omega, h1, by omega⟩
    · rw [if_neg h1] at h; cases h
theorem atI_get {α : Type} {xs : List α} {i : Int} {v : α} (h : atI xs i = some v) : ∃ j, seqIndex? i xs.length = some j /\ xs[j]? = some v /\ j < xs.length /\ -(xs.length : Int) <= i /\ i < xs.length := by
  unfold atI at h
  cases e : ixN xs.length i with
  | none => rw [e] at h; cases h
  | some j =>
    rw [e] at h
    obtain ⟨h1, h2, h3, h4⟩ := ixN_seq e
    exact ⟨j, h1, h, h2, h3, h4⟩
theorem atI_nat {α : Type} {xs : List α} {j : Nat} {v : α} (h : xs[j]? = some v) : atI xs (j : Int) = some v := by
  have hj : j < xs.length := (List.getElem?_eq_some_iff.mp h).1
  have e : ixN xs.length (j : Int) = some j := by
    unfold ixN
    rw [if_pos (by omega), if_pos (by omega)]; simp
  unfold atI; rw [e]; exact h
def PlainIx (b : Expr) : Prop := ∀ o i, subscripted b false o i = operate [o, i] (getItem o i)
def IxR (X : Cx) (r : R2) : Prop :=
  ∀ (value slice : Expr) (pins : List (Addr × Obj)) (s : Shared) (σ : St) (H : Hp) (x y : V) (v u : Value) (Q : VK), Inv X pins σ H s -> RelV x v -> RelV y u -> r x y H Q ->
    subscripted slice false v u = operate [v, u] (getItem v u) -> wpAny (model X.prog X.w) X.A (subscriptTail value slice v u) (EP X pins σ Q) X.xe s
def MtR (X : Cx) (id : String) (r : V -> List V -> Hp -> VK -> Prop) : Prop :=
  ∀ (pins : List (Addr × Obj)) (s : Shared) (σ : St) (H : Hp) (x : V) (xs : List V) (v : Value) (us : List Value) (Q : VK), Inv X pins σ H s -> RelV x v -> Vals xs us -> r x xs H Q ->
    wpAny (model X.prog X.w) X.A (call (.builtin id) (v :: us)) (EP X pins σ Q) X.xe s
section
variable {X : Cx} {a b : Expr} {ta tb : TE} {pos : Pos}
theorem IxR.or {r r' : R2} (h : IxR X r) (h' : IxR X r') : IxR X (fun x y H Q => r x y H Q ∨ r' x y H Q) := by
  intro value slice pins s σ H x y v u Q I rx ry q hs
  rcases q with q | q
  · exact h value slice pins s σ H x y v u Q I rx ry q hs
  · exact h' value slice pins s σ H x y v u Q I rx ry q hs
theorem pe_ix {r : R2} (hr : IxR X r) (ha : PE X a ta) (hb : PE X b tb) (hs : PlainIx b) : PE X (.Subscript a b pos) (tOp r ta tb) := by
  intro pins s σ H Q I h
  exact Subscript_ (binT ha hb I h fun v u s2 x y H2 I2 rx ry q => hr a b pins s2 σ H2 x y v u Q I2 rx ry q (hs _ _))
def rIxL (K : PySem.W.Frag) : R2 := fun x y H Q => ∃ p xs i v, x = .ref p /\ y = .int i /\ SqL K H p xs /\ atI xs i = some v /\ Q v H
def rIxT (K : PySem.W.Frag) : R2 := fun x y H Q => ∃ p xs i v, x = .ref p /\ y = .int i /\ SqT K H p xs /\ atI xs i = some v /\ Q v H
def rIxS : R2 := fun x y H Q => ∃ z i c, x = .str z /\ y = .int i /\ z.length <= sizeLine /\ atI z.cps.toList i = some c /\ Q (.str ⟨#[c]⟩) H
theorem ix_list : IxR X (rIxL X.K) := by
  intro value slice pins s σ H x y v u Q I rx ry h hs
  obtain ⟨p, xs, i, z, rfl, rfl, hq, he, q⟩ := h
  cases rx
  obtain ⟨t, rfl⟩ := ry
  obtain ⟨its, r, pl, hz⟩ := I.list hq
  obtain ⟨j, h1, h2, h3, h4, h5⟩ := atI_get he
  obtain ⟨w, ew, rw'⟩ := r.get h2
  have hl := r.length
  have hn := line63
  have fin : EP X pins σ Q w s := ⟨z, H, I, rw', q⟩
  by_cases h0 : 0 <= i
  · have hj : i.toNat = j := by
      rw [seqIndex_of h0 h5] at h1
      exact Option.some.inj h1
    exact item_listR pl.isList h0 (by omega) (by rw [hj]; simpa using ew) fin hs
  · have hj : (i + (its.toArray.size : Int)).toNat = j := by
      rw [seqIndex_neg (by omega) h4] at h1
      rw [List.size_toArray, ← hl]
      exact Option.some.inj h1
    exact subscriptTail_builtinR (x := w) pl.isList.typeIs slot_list_getitem.lookup
      (wpAny_getItem_list_neg (Q := fun r s' => r = w /\ EP X pins σ Q r s') pl.isList (by omega) (by rw [List.size_toArray] <;> omega) (by omega) (by rw [hj]; simpa using ew) ⟨rfl, fin⟩) hs
theorem ix_tup : IxR X (rIxT X.K) := by
  intro value slice pins s σ H x y v u Q I rx ry h hs
  obtain ⟨p, xs, i, z, rfl, rfl, hq, he, q⟩ := h
  cases rx
  obtain ⟨t, rfl⟩ := ry
  obtain ⟨its, r, pl, hz⟩ := I.tuple hq
  obtain ⟨j, h1, h2, h3, h4, h5⟩ := atI_get he
  obtain ⟨w, ew, rw'⟩ := r.get h2
  have hl := r.length
  have hn := line63
  have fin : EP X pins σ Q w s := ⟨z, H, I, rw', q⟩
  exact subscriptTail_builtinR (x := w) pl.typeIs slot_tuple_getitem.lookup
    (getItem_tuple (j := j) (Q := fun r s' => r = w /\ EP X pins σ Q r s') pl (by omega) (by omega) (by rw [List.size_toArray, ← hl]; exact h1) (by simpa using ew) ⟨rfl, fin⟩) hs
theorem ix_str : IxR X rIxS := by
  intro value slice pins s σ H x y v u Q I rx ry h hs
  obtain ⟨z, i, c, rfl, rfl, hz, he, q⟩ := h
  obtain ⟨t, rfl⟩ := rx
  obtain ⟨t', rfl⟩ := ry
  obtain ⟨j, h1, h2, h3, h4, h5⟩ := atI_get he
  have hl : z.cps.toList.length = z.length := by simp [Str.length]
  rw [hl] at h1 h4 h5
  have hn := line63
  exact tail_any (typeIs_str s z t) slot_str_getitem.lookup (getItem_str (c := c) (by
    have e1 : decide (i < -(2 ^ 63 : Int)) = false := decide_eq_false (by omega)
    have e2 : decide (i ≥ 2 ^ 63) = false := decide_eq_false (by omega)
    rw [e1, e2, Bool.or_false]) (by rw [h1]; simpa using h2) ⟨.str ⟨#[c]⟩, H, I.tok _, ⟨_, rfl⟩, q⟩) hs
def rIx (K : PySem.W.Frag) : R2 := fun x y H Q => rIxL K x y H Q ∨ rIxT K x y H Q ∨ rIxS x y H Q
theorem ix_seq : IxR X (rIx X.K) := ix_list.or (ix_tup.or ix_str)
theorem slice_bounds (lo hi : Option Int) (n : Nat) : (sliceBounds lo hi none n).1 = ((HT.sIx n 0 lo : Nat) : Int) /\ (sliceBounds lo hi none n).2.1 = ((HT.sIx n n hi : Nat) : Int) /\ (sliceBounds lo hi none n).2.2 = 1 := by
  refine ⟨?_, ?_, rfl⟩
  · cases lo with
    | none => simp [sliceBounds, HT.sIx]
    | some i =>
      simp only [sliceBounds, HT.sIx, Option.getD_none, show (1 : Int) > 0 by decide, if_true]
      by_cases h : i < 0
      · simp only [h, if_true] <;> omega
      · simp only [h, if_false] <;> omega
  · cases hi with
    | none => simp [sliceBounds, HT.sIx]
    | some i =>
      simp only [sliceBounds, HT.sIx, Option.getD_none, show (1 : Int) > 0 by decide, if_true]
      by_cases h : i < 0
      · simp only [h, if_true] <;> omega
      · simp only [h, if_false] <;> omega
theorem slicePick_cut (its : List Value) (lo hi : Option Int) : slicePick its.toArray lo hi none = ((its.drop (HT.sIx its.length 0 lo)).take (HT.sIx its.length its.length hi - HT.sIx its.length 0 lo)).toArray := by
  obtain ⟨h1, h2, h3⟩ := slice_bounds lo hi its.toArray.size
  unfold slicePick
  rw [h1, h2, h3]
  simp only [sliceRange_one, pick_run, List.size_toArray] <;> rfl
def rSlL (K : PySem.W.Frag) : V -> Option Int -> Option Int -> Hp -> VK -> Prop := fun x lo hi H Q => ∃ a xs, x = .ref a /\ SqL K H a xs /\ ∀ p, H p = none -> Q (.ref p) (upd H p (.lst (cutV xs lo hi)))
theorem sl_list : SlR X (rSlL X.K) := by
  intro pins s σ H x v vl vu lo hi sl Q I rx hs pl pu h
  obtain ⟨a, xs, rfl, hx, q⟩ := h
  cases rx
  obtain ⟨its, r, ht, hz⟩ := I.list hx
  have hlen := r.length
  refine ⟨"list", _, slot_list_getitem.lookup, ht.isList.typeIs, ?_⟩
  refine wpAny_getItem_list_slice ht.isList hs pl pu .none (by simp) ?_ (by rw [List.size_toArray] <;> omega)
  rw [slicePick_cut, ← hlen]
  refine ⟨.ref s.heap.objs.size, _, I.laid (t' := s.toks) (o := .lst (cutV xs lo hi)) (fun b ob q => Heap.get?_push_of_some _ q) (Nat.le_refl _) ?_, rfl, q _ (I.hok.fresh (Nat.le_refl _))⟩
  exact ⟨Nat.le_trans (cutV_length xs lo hi) hz, _, 0, (r.drop (HT.sIx xs.length 0 lo)).take (HT.sIx xs.length xs.length hi - HT.sIx xs.length 0 lo), Heap.get?_push_size _ rfl⟩
def flatV : V -> Bool
  | .non => true
  | .bl _ => true
  | .int _ => true
  | .str _ => true
  | _ => false
def eqV : V -> V -> Bool
  | .non, .non => true
  | .bl a, .bl b => a == b
  | .bl a, .int b => (if a then 1 else 0) == b
  | .int a, .bl b => a == (if b then 1 else 0)
  | .int a, .int b => a == b
  | .str a, .str b => a == b
  | _, _ => false
theorem eqAt_V {A : Around} {s : Shared} {y x : V} {u v : Value} (ry : RelV y u) (rx : RelV x v) (fy : flatV y = true) (fx : flatV x = true) : SeqAt.EqAt A s u v (eqV y x) := by
  cases y with
  | non =>
    cases ry
    cases x with
    | non => cases rx; exact SeqAt.EqAt.same _
    | bl b => cases rx; exact SeqAt.EqAt.none_bool b
    | int b => obtain ⟨t, rfl⟩ := rx; exact SeqAt.EqAt.none_int b t
    | str b => obtain ⟨t, rfl⟩ := rx; exact SeqAt.EqAt.none_str b t
    | _ => exact absurd (show false = true from fx) Bool.false_ne_true
  | bl a =>
    cases ry
    cases x with
    | non => cases rx; exact SeqAt.EqAt.bool_none a
    | bl b => cases rx; exact SeqAt.EqAt.bool_bool a b
    | int b => obtain ⟨t, rfl⟩ := rx; exact SeqAt.EqAt.bool_int a b t
    | str b => obtain ⟨t, rfl⟩ := rx; exact SeqAt.EqAt.bool_str a b t
    | _ => exact absurd (show false = true from fx) Bool.false_ne_true
  | int a =>
    obtain ⟨t', rfl⟩ := ry
    cases x with
    | non => cases rx; exact SeqAt.EqAt.int_none a t'
    | bl b => cases rx; exact SeqAt.EqAt.int_bool a t' b
    | int b => obtain ⟨t, rfl⟩ := rx; exact SeqAt.EqAt.int_int a t' b t
    | str b => obtain ⟨t, rfl⟩ := rx; exact SeqAt.EqAt.int_str a t' b t
    | _ => exact absurd (show false = true from fx) Bool.false_ne_true
  | str a =>
    obtain ⟨t', rfl⟩ := ry
    cases x with
    | non => cases rx; exact SeqAt.EqAt.str_none a t'
    | bl b => cases rx; exact SeqAt.EqAt.str_bool a t' b
    | int b => obtain ⟨t, rfl⟩ := rx; exact SeqAt.EqAt.str_int a t' b t
    | str b => obtain ⟨t, rfl⟩ := rx; exact SeqAt.EqAt.str_str a t' b t
    | _ => exact absurd (show false = true from fx) Bool.false_ne_true
  | _ => exact absurd (show false = true from fy) Bool.false_ne_true
theorem call_len_seq : CallR X (.builtin "len") (fun xs H Q => ∃ p ys, xs = [.ref p] /\ (SqL X.K H p ys ∨ SqT X.K H p ys) /\ Q (.int ys.length) H) := by
  intro pins s σ H xs us Q I r h
  obtain ⟨p, ys, rfl, hq, q⟩ := h
  obtain ⟨u, rfl, rx⟩ := vals1 r
  cases rx
  have hn := line63
  rcases hq with hq | hq
  · obtain ⟨its, r', pl, hz⟩ := I.list hq
    have hlen := r'.length
    exact Calls.call_len_list pl.isList (by simp only [List.size_toArray] <;> omega) ⟨.int ys.length, H, I.tok _, ⟨s.toks + 1, by rw [List.size_toArray, hlen]⟩, q⟩
  · obtain ⟨its, r', pl, hz⟩ := I.tuple hq
    have hlen := r'.length
    exact len_tuple pl (by simp only [List.size_toArray] <;> omega) ⟨.int ys.length, H, I.tok _, ⟨s.toks + 1, by rw [List.size_toArray, hlen]⟩, q⟩
theorem call_len_str : CallR X (.builtin "len") (fun xs H Q => ∃ z, xs = [.str z] /\ z.length <= sizeLine /\ Q (.int z.length) H) := by
  intro pins s σ H xs us Q I r h
  obtain ⟨z, rfl, hz, q⟩ := h
  obtain ⟨u, rfl, t, rfl⟩ := vals1 r
  have hn := line63
  exact len_str (by omega) ⟨.int z.length, H, I.tok _, ⟨_, rfl⟩, q⟩
theorem CallR.or {f : Value} {r r' : List V -> Hp -> VK -> Prop} (h : CallR X f r) (h' : CallR X f r') : CallR X f (fun xs H Q => r xs H Q ∨ r' xs H Q) := by
  intro pins s σ H xs us Q I rs q
  rcases q with q | q
  · exact h pins s σ H xs us Q I rs q
  · exact h' pins s σ H xs us Q I rs q
theorem call_list_of : CallR X (.type "list") (fun xs H Q => ∃ p ys, xs = [.ref p] /\ (SqL X.K H p ys ∨ SqT X.K H p ys) /\ ∀ l, H l = none -> Q (.ref l) (upd H l (.lst ys))) := by
  intro pins s σ H xs us Q I r h
  obtain ⟨p, ys, rfl, hq, q⟩ := h
  obtain ⟨u, rfl, rx⟩ := vals1 r
  cases rx
  have fin : ∀ (its : List Value), Vals ys its -> ys.length <= sizeLine -> ∀ (h' : Heap) (c' : Nat), (∀ b o', s.heap.get? b = some o' -> h'.get? b = some o') ->
      h'.get? s.heap.objs.size = some { cls := .type "list", dict := none, data := .seq its.toArray c', slots := #[] } -> EP X pins σ Q (.ref s.heap.objs.size) { s with heap := h' } := fun its r' hz h' c' kp e =>
    ⟨.ref s.heap.objs.size, _, I.laid (t' := s.toks) kp (Nat.le_refl _) (show ObjOk X.prog X.w _ h' _ (.lst ys) from ⟨hz, its, c', r', e⟩), rfl, q _ (I.hok.fresh (Nat.le_refl _))⟩
  rcases hq with hq | hq
  · obtain ⟨its, r', pl, hz⟩ := I.list hq
    have hlen := r'.length
    obtain ⟨o, ho, hc, n, hd⟩ := pl.isList
    exact call_list_seq p (.inl rfl) ho hc hd (fun h' c' kp e => fin its r' hz h' c' kp e) (by simp only [List.size_toArray] <;> omega)
  · obtain ⟨its, r', pl, hz⟩ := I.tuple hq
    have hlen := r'.length
    obtain ⟨o, ho, hc, n, hd⟩ := pl
    exact call_list_seq p (.inr rfl) ho hc hd (fun h' c' kp e => fin its r' hz h' c' kp e) (by simp only [List.size_toArray] <;> omega)
theorem call_tuple_of : CallR X (.type "tuple") (fun xs H Q => ∃ p ys, xs = [.ref p] /\ ((SqL X.K H p ys /\ ∀ l, H l = none -> Q (.ref l) (upd H l (.tup ys))) ∨ (SqT X.K H p ys /\ Q (.ref p) H))) := by
  intro pins s σ H xs us Q I r h
  obtain ⟨p, ys, rfl, h⟩ := h
  obtain ⟨u, rfl, rx⟩ := vals1 r
  cases rx
  rcases h with ⟨hq, q⟩ | ⟨hq, q⟩
  · obtain ⟨its, r', pl, hz⟩ := I.list hq
    have hlen := r'.length
    refine call_tuple_list pl.isList (fun h' kp => ?_) (by simp only [List.size_toArray] <;> omega)
    have I1 : Inv X pins σ H { s with heap := h' } := I.kept (t' := s.toks) kp
    have I2 : Inv X pins σ (upd H h'.objs.size (.tup ys)) { s with heap := h'.push { cls := .type "tuple", data := .seq its.toArray } } :=
      I1.laid (t' := s.toks) (fun b o e => Heap.get?_push_of_some _ e) (Nat.le_refl _) (show ObjOk X.prog X.w _ _ _ (.tup ys) from ⟨hz, its, r', IsTupN.new _ _⟩)
    exact ⟨.ref h'.objs.size, _, I2, rfl, q _ (I1.hok.fresh (Nat.le_refl _))⟩
  · obtain ⟨its, r', pl, hz⟩ := I.tuple hq
    exact call_tuple_same pl ⟨.ref p, H, I, rfl, q⟩
def tyV (K : PySem.W.Frag) (T : String) (x : V) (H : Hp) : Prop := match x with
  | .str _ => T = "str"
  | .int _ => T = "int"
  | .ref p => (T = "list" /\ ∃ xs, SqL K H p xs) ∨ (T = "tuple" /\ ∃ o, K.lookup p = some o /\ o.cls = .type "tuple" /\ o.dict = none) ∨
      (T = "dict" /\ ((∃ kvs, H p = some (.dK kvs)) ∨ ∃ kvs, H p = some (.dT kvs))) ∨ (T = "set" /\ ∃ S n, H p = some (.set S n))
  | _ => False
theorem tyV_is {pins : List (Addr × Obj)} {σ : St} {H : Hp} {s : Shared} {T : String} {x : V} {v : Value} (I : Inv X pins σ H s) (r : RelV x v) (ty : tyV X.K T x H) :
    s.TypeIs v T /\ ∀ a, v = .ref a -> ∃ ob, s.heap.get? a = some ob /\ ob.dict = none := by
  cases x with
  | str z =>
    obtain ⟨t, rfl⟩ := r
    cases (show T = "str" from ty)
    exact ⟨typeIs_str s z t, fun _ e => nomatch e⟩
  | int i =>
    obtain ⟨t, rfl⟩ := r
    cases (show T = "int" from ty)
    exact ⟨typeIs_int s i t, fun _ e => nomatch e⟩
  | ref p =>
    cases r
    rcases ty with ⟨rfl, xs, hq⟩ | ⟨rfl, o, hk, hc, hd⟩ | ⟨rfl, hk⟩ | ⟨rfl, S, n, hk⟩
    · obtain ⟨its, _, pl, _⟩ := I.list hq
      refine ⟨pl.isList.typeIs, fun a e => ?_⟩
      cases e
      obtain ⟨o, n, e, c, hd, _⟩ := pl
      exact ⟨o, e, hd⟩
    · refine ⟨⟨o, I.kIn p o hk, hc⟩, fun a e => ?_⟩
      cases e
      exact ⟨o, I.kIn _ o hk, hd⟩
    · have z : ∃ o, s.heap.get? p = some o /\ o.ExactDict := by
        rcases hk with ⟨kvs, hk⟩ | ⟨kvs, hk⟩
        · obtain ⟨_, _, _, _, o, _, _, e, ex, _⟩ := I.hok p _ hk
          exact ⟨o, e, ex⟩
        · obtain ⟨_, _, _, _, o, _, _, e, ex, _⟩ := I.hok p _ hk
          exact ⟨o, e, ex⟩
      obtain ⟨o, e, ex⟩ := z
      refine ⟨⟨o, e, ex.1⟩, fun a e2 => ?_⟩
      cases e2
      exact ⟨o, e, ex.2.1⟩
    · obtain ⟨o, _, _, _, e, ex, _⟩ := I.hok p _ hk
      refine ⟨⟨o, e, ex.1⟩, fun a e2 => ?_⟩
      cases e2
      exact ⟨o, e, ex.2.1⟩
  | _ => exact False.elim ty
def tBM (K : PySem.W.Frag) (T : String) (r : V -> List V -> Hp -> VK -> Prop) (to : TE) (t : TA) : TE := fun σ H Q => to σ H fun x H1 => tyV K T x H1 /\ t σ H1 fun xs H2 => r x xs H2 Q
variable {o e : Expr} {es : List Expr} {to : TE} {t : TA} {name : Str} {apos cpos : Pos} {T id : String} {r : V -> List V -> Hp -> VK -> Prop}
theorem pe_bm (pa : PlainAttrs T) (slot : Slot T name id) (hty : typeOf (.builtin id) = pure (.type "method_descriptor")) (hm : MtR X id r) (ho : PE X o to) (ha : PA X (e :: es) t)
    (hbase : attributeBase o name X.env (eval o X.env) = eval o X.env := by rfl)
    (hfew : ((backTo cpos (starEach (e :: es) X.env)).all (fun x => !x.1) && (backToKw cpos (keywordEach [] X.env)).all (fun x => x.1.isSome)
      && decide ((e :: es).length + ([] : List Keyword).length + (if ([] : List Keyword).isEmpty then 0 else 1) < 30)) = true := by rfl)
    (hline : (apos.endLine == cpos.line) = true := by rfl) (hs : starEach (e :: es) X.env = (false, eval e X.env) :: starEach es X.env := by rfl) (hplain : (backTo cpos (starEach es X.env)).any (·.1) = false := by rfl) :
    PE X (.Call (.Attribute o name apos) (e :: es) [] cpos) (tBM X.K T r to t) := by
  intro pins s σ H Q I h
  refine wpAny_Call_method_late hbase hfew hline rfl (thn (ho pins s σ H _ I h) fun v s1 ⟨x, H1, I1, r1, ty, q1⟩ => ?_)
  obtain ⟨h1, h2⟩ := tyV_is I1 r1 ty
  refine ⟨T, id, pa, slot, hty, h1, h2, ?_⟩
  have hA := ha cpos pins s1 σ H1 _ I1 q1
  rw [hs] at hA ⊢
  refine Calls.callWith_builtin (by show (false || (backTo cpos (starEach es X.env)).any (·.1)) = false; rw [hplain] <;> rfl) (Calls.evalArgs_plain ?_)
  exact thn hA fun us s2 ⟨vs, H2, I2, r2, q2⟩ => hm pins s2 σ H2 x vs v us Q I2 r1 r2 q2
/- xs.append(e), list.index on a module's tuple .. are MtR facts of 06m -/
end
end L2
namespace L2
open PySem PySem.Spec PyProof.Rows
def MtM (X : Cx) (id : String) (r : V -> List V -> Hp -> VK -> Prop) : Prop :=
  ∀ (pins : List (Addr × Obj)) (s : Shared) (σ : St) (H : Hp) (x : V) (xs : List V) (v : Value) (us : List Value) (Q : VK), Inv X pins σ H s -> RelV x v -> Vals xs us -> r x xs H Q ->
    wpAny (model X.prog X.w) X.A (call (.builtin id) (v :: us)) (EP X pins σ Q) X.xe s
theorem Vals.one : ∀ {x : V} {us : List Value}, Vals [x] us -> ∃ u, us = [u] /\ RelV x u
  | _, _, .cons r .nil => ⟨_, rfl, r⟩
theorem Vals.two : ∀ {x y : V} {us : List Value}, Vals [x, y] us -> ∃ u v, us = [u, v] /\ RelV x u /\ RelV y v
  | _, _, _, .cons r (.cons q .nil) => ⟨_, _, rfl, r, q⟩
theorem Vals.rep {xs : List V} {us : List Value} (h : Vals xs us) : ∀ k : Nat, Vals (List.replicate k xs).flatten (List.replicate k us).flatten
  | 0 => .nil
  | k + 1 => by
    rw [List.replicate_succ, List.replicate_succ, List.flatten_cons, List.flatten_cons]
    exact Vals.append h (Vals.rep h k)
theorem foldl_rep (its : List Value) : ∀ (k : Nat) (acc : List Value),
    List.foldl (fun x1 x2 => x1 ++ x2) acc.toArray (List.replicate k its.toArray) = (acc ++ (List.replicate k its).flatten).toArray
  | 0, acc => by simp
  | k + 1, acc => by
    have e : acc.toArray ++ its.toArray = (acc ++ its).toArray := by simp
    have e2 : (acc ++ its) ++ (List.replicate k its).flatten = acc ++ (List.replicate (k + 1) its).flatten := by
      rw [List.replicate_succ, List.flatten_cons, List.append_assoc]
    rw [← e2, ← foldl_rep its k (acc ++ its), ← e, List.replicate_succ, List.foldl_cons]
section
variable {X : Cx} {pins : List (Addr × Obj)} {σ : St} {H : Hp} {s : Shared} {l b : Addr} {xs ys zs : List V}
theorem Inv.lset {its its' : List Value} {n : Nat} {f : Array Value -> Array Value} {t' : Nat} (I : Inv X pins σ H s) (hH : H l = some (.lst xs))
    (e : s.heap.get? l = some { cls := .type "list", data := .seq its.toArray n }) (hf : f its.toArray = its'.toArray) (hv : Vals ys its') (hz : ys.length <= sizeLine) :
    Inv X pins σ (upd H l (.lst ys)) { s with heap := s.heap.update l (Obj.mapSeq f), toks := t' } := by
  have q := PySem.IsL.update e f
  rw [hf] at q
  refine I.write (x := l) (e := l) (by rw [hH]; exact trivial) (.inl rfl) (fun b' u hb hu => (Heap.get?_update_other s.heap (Obj.mapSeq f) (Ne.symm hb)).trans hu) ⟨_, q⟩ ?_
  exact ⟨hz, its', _, hv, q⟩
theorem Inv.lnew {its : List Value} {t' : Nat} (I : Inv X pins σ H s) (hv : Vals ys its) (hz : ys.length <= sizeLine) :
    Inv X pins σ (upd H s.heap.objs.size (.lst ys)) { s with heap := s.heap.push { cls := .type "list", data := .seq its.toArray }, toks := t' } :=
  I.laid (fun _ _ q => Heap.get?_push_of_some _ q) (Nat.le_refl _) ⟨hz, its, 0, hv, Heap.get?_push_size _ rfl⟩
theorem Inv.fresh (I : Inv X pins σ H s) : H s.heap.objs.size = none := I.hok.fresh (Nat.le_refl _)
theorem Inv.lstM (I : Inv X pins σ H s) (hH : H l = some (.lst xs)) : xs.length <= sizeLine /\ ∃ (its : List Value) (n : Nat), Vals xs its /\ xs.length = its.length /\ s.heap.get? l = some { cls := .type "list", data := .seq its.toArray n } := by
  obtain ⟨z, its, n, r, e⟩ := I.hok l _ hH
  exact ⟨z, its, n, r, r.length, e⟩
theorem notLongL {n : Nat} (h : n <= sizeLine) : Builtin.List.listTooLong n = false := by
  unfold Builtin.List.listTooLong
  exact decide_eq_false (by omega)
end
section
variable {X : Cx}
def rAppend : V -> List V -> Hp -> VK -> Prop := fun x vs H Q => ∃ l xs y, x = .ref l /\ vs = [y] /\ H l = some (.lst xs) /\ xs.length < sizeLine /\ Q .non (upd H l (.lst (xs ++ [y])))
theorem mt_append : MtM X "list.append" rAppend := by
  intro pins s σ H x vs v us Q I rx rv h
  obtain ⟨l, xs, y, rfl, rfl, hH, hz, q⟩ := h
  cases rx
  obtain ⟨u, rfl, ru⟩ := rv.one
  obtain ⟨z, its, n, r, hl, e⟩ := I.lstM hH
  refine call_meets F.slot_list_append ⟨_, e, rfl⟩ F.entry_list_append (F.args_list_append_2 _ _) (PySem.list_append l its.toArray n u (by rw [List.size_toArray]; omega)) ⟨e, ?_⟩
  refine ⟨.non, _, I.lset (its' := its ++ [u]) hH e (by simp) (r.append (.cons ru .nil)) ?_, rfl, q⟩
  rw [List.length_append, List.length_singleton]
  omega
def rExtend : V -> List V -> Hp -> VK -> Prop := fun x vs H Q => ∃ l b xs zs, x = .ref l /\ vs = [.ref b] /\ H l = some (.lst xs) /\ H b = some (.lst zs) /\ xs.length + zs.length <= sizeLine /\ Q .non (upd H l (.lst (xs ++ zs)))
theorem mt_extend : MtM X "list.extend" rExtend := by
  intro pins s σ H x vs v us Q I rx rv h
  obtain ⟨l, b, xs, zs, rfl, rfl, hH, hB, hz, q⟩ := h
  cases rx
  obtain ⟨u, rfl, ru⟩ := rv.one
  cases ru
  obtain ⟨z, its, n, r, hl, e⟩ := I.lstM hH
  obtain ⟨z2, its2, n2, r2, hl2, e2⟩ := I.lstM hB
  have hsz : its.toArray.size + its2.toArray.size <= sizeLine := by rw [List.size_toArray, List.size_toArray]; omega
  have hlong : ¬ (!its.toArray.isEmpty && Builtin.List.listTooLong (its.toArray.size + its2.toArray.size)) = true := by
    rw [notLongL hsz, Bool.and_false]
    exact Bool.false_ne_true
  refine call_meets F.slot_list_extend ⟨_, e, rfl⟩ F.entry_list_extend (F.args_list_extend_2 _ _)
    (AutoSeq1.list_extend_list_list_0 l its.toArray n b its2.toArray n2 hlong (by rw [List.size_toArray]; omega) (by omega)) ⟨e, e2, ?_⟩
  refine ⟨.non, _, I.lset (its' := its ++ its2) hH e (by simp) (r.append r2) ?_, rfl, q⟩
  rw [List.length_append]
  omega
def rCat : R2 := fun x y H Q => ∃ l b xs zs, x = .ref l /\ y = .ref b /\ H l = some (.lst xs) /\ H b = some (.lst zs) /\ xs.length + zs.length <= sizeLine /\ ∀ p, H p = none -> Q (.ref p) (upd H p (.lst (xs ++ zs)))
theorem op_cat : OpR X (binaryOp .Add) rCat := by
  intro pins s σ H x y v u Q I rx ry h
  obtain ⟨l, b, xs, zs, rfl, rfl, hH, hB, hz, q⟩ := h
  cases rx
  cases ry
  obtain ⟨z, its, n, r, hl, e⟩ := I.lstM hH
  obtain ⟨z2, its2, n2, r2, hl2, e2⟩ := I.lstM hB
  refine PySem.P.add_list e e2 ?_ (by rw [List.size_toArray, List.size_toArray]; omega)
  have ea : its.toArray ++ its2.toArray = (its ++ its2).toArray := by simp
  rw [ea]
  exact ⟨.ref _, _, I.lnew (t' := s.toks) (r.append r2) (by rw [List.length_append]; omega), rfl, q _ I.fresh⟩
def rRep : R2 := fun x y H Q => ∃ l k xs, x = .ref l /\ y = .int k /\ H l = some (.lst xs) /\ -(2 ^ 63) <= k /\ k < 2 ^ 63 /\ xs.length * k.toNat <= sizeLine /\
  ∀ p, H p = none -> Q (.ref p) (upd H p (.lst (List.replicate k.toNat xs).flatten))
theorem len_rep {α : Type} (xs : List α) (k : Nat) : (List.replicate k xs).flatten.length = k * xs.length := by
  induction k with
  | zero => simp
  | succ k ih => rw [List.replicate_succ, List.flatten_cons, List.length_append, ih, Nat.succ_mul, Nat.add_comm]
theorem op_rep : OpR X (binaryOp .Mult) rRep := by
  intro pins s σ H x y v u Q I rx ry h
  obtain ⟨l, k, xs, rfl, rfl, hH, h1, h2, hz, q⟩ := h
  cases rx
  obtain ⟨t, rfl⟩ := ry
  obtain ⟨z, its, n, r, hl, e⟩ := I.lstM hH
  have hlen : its.toArray.size * k.toNat <= sizeLine := by rw [List.size_toArray, ← hl]; exact hz
  have hcap : ¬ its.toArray.size * k.toNat > (2 ^ 63 - 1) / 8 := by
    have : (sizeLine : Nat) <= (2 ^ 63 - 1) / 8 := by decide
    omega
  have hfit : ¬ (!Builtin.List.listFitsIndex k) = true := by
    rw [fitsIndex_both h1 h2]
    exact Bool.false_ne_true
  have hlong : ¬ Builtin.List.listTooLong (its.toArray.size * k.toNat) = true := by
    rw [notLongL hlen]
    exact Bool.false_ne_true
  have hnew : List.foldl (fun x1 x2 => x1 ++ x2) #[] (List.replicate (if its.toArray.isEmpty = true then 0 else k.toNat) its.toArray) = (List.replicate k.toNat its).flatten.toArray := by
    have f0 : ∀ m : Nat, List.foldl (fun x1 x2 => x1 ++ x2) #[] (List.replicate m its.toArray) = (List.replicate m its).flatten.toArray := fun m => by
      have := foldl_rep its m []
      rw [List.nil_append] at this
      exact this
    rw [f0]
    cases its with
    | nil => simp
    | cons a r' => rw [if_neg (by simp)]
  refine wpAny_binaryOp_repeat_ref (T := "list") (U := "int") (by decide) ⟨_, e, rfl⟩ (fun s' => typeIs_int s' k t) noFill_list_mul F.fills_int_mul F.slot_int_rmul repeat_list F.slot_int_index.lookup
    (call_meets F.slot_int_rmul (typeIs_int s k t) F.entry_int_rmul (F.args_int_rmul_2 _ _) (int___rmul___int_list k t l its.toArray n)
      ⟨e, rfl, ⟨_, e, rfl⟩, call_meets F.slot_list_mul ⟨_, e, rfl⟩ F.entry_list_mul (F.args_list_mul_2 _ _) (AutoListH.list___mul___list_int_3 l its.toArray n k t hfit hcap hlong) ⟨e, ?_⟩⟩)
  rw [hnew]
  exact ⟨.ref _, _, I.lnew (t' := s.toks) (r.rep k.toNat) (by rw [len_rep, Nat.mul_comm]; exact hz), rfl, q _ I.fresh⟩
end
section
variable {prog : Program} {w : World} {A : Around} {E : Value -> Shared -> Prop} {s : Shared}
end
section
variable {X : Cx}
end
end L2
set_option Elab.async false
set_option linter.all false
set_option maxRecDepth 100000
namespace L2
open PySem PySem.Spec PyProof.Rows
section
variable {κ : Type} [DecidableEq κ]
def valV (kvs : List (κ × V)) (k : κ) : Option V := (kvs.find? fun kv => decide (kv.1 = k)).map (·.2)
def putK (kvs : List (κ × V)) (k : κ) (v : V) : List (κ × V) :=
  if (kvs.any fun kv => decide (kv.1 = k)) = true then kvs.map (fun kv => if kv.1 = k then (kv.1, v) else kv) else kvs ++ [(k, v)]
theorem valV_pos {p : κ × V} {r : List (κ × V)} {k : κ} (e : p.1 = k) : valV (p :: r) k = some p.2 := by simp [valV, List.find?_cons, e]
theorem valV_neg {p : κ × V} {r : List (κ × V)} {k : κ} (e : ¬ p.1 = k) : valV (p :: r) k = valV r k := by simp [valV, List.find?_cons, e]
theorem length_putK (kvs : List (κ × V)) (k : κ) (v : V) : (putK kvs k v).length <= kvs.length + 1 := by
  unfold putK
  split
  · rw [List.length_map]; omega
  · rw [List.length_append, List.length_cons, List.length_nil]; omega
theorem KV.val {kvs : List (κ × V)} {vs : List (κ × Value)} (r : KV kvs vs) (k : κ) : RelO (valV kvs k) (valueAt vs k) := by
  unfold KV at r
  induction r with
  | nil => exact True.intro
  | @cons p q ps qs h t ih =>
    obtain ⟨h1, h2⟩ := h
    by_cases e : p.1 = k
    · have e' : q.1 = k := h1.symm.trans e
      have b : valueAt (q :: qs) k = some q.2 := by simp [valueAt, List.find?_cons, e']
      rw [valV_pos e, b]; exact h2
    · have e' : ¬ q.1 = k := fun z => e (h1.trans z)
      have b : valueAt (q :: qs) k = valueAt qs k := by simp [valueAt, List.find?_cons, e']
      rw [valV_neg e, b]; exact ih
theorem KV.any {kvs : List (κ × V)} {vs : List (κ × Value)} (r : KV kvs vs) (k : κ) : (kvs.any fun kv => decide (kv.1 = k)) = vs.any fun kv => decide (kv.1 = k) := by
  unfold KV at r
  induction r with
  | nil => rfl
  | cons h t ih => rw [List.any_cons, List.any_cons, ih, h.1]
theorem KV.repl {kvs : List (κ × V)} {vs : List (κ × Value)} (r : KV kvs vs) (k : κ) {y : V} {u : Value} (ry : RelV y u) :
    KV (kvs.map fun kv => if kv.1 = k then (kv.1, y) else kv) (vs.map fun kv => if kv.1 = k then (kv.1, u) else kv) := by
  unfold KV at r ⊢
  induction r with
  | nil => exact .nil
  | @cons p q ps qs h t ih =>
    rw [List.map_cons, List.map_cons]
    refine .cons ?_ ih
    obtain ⟨h1, h2⟩ := h
    by_cases e : p.1 = k
    · rw [if_pos e, if_pos (h1.symm.trans e)]; exact ⟨h1, ry⟩
    · rw [if_neg e, if_neg (fun z => e (h1.trans z))]; exact ⟨h1, h2⟩
theorem KV.put {kvs : List (κ × V)} {vs : List (κ × Value)} (r : KV kvs vs) (k : κ) {y : V} {u : Value} (ry : RelV y u) : KV (putK kvs k y) (stored vs k u) := by
  unfold putK stored
  rw [r.any k]
  by_cases e : (vs.any fun kv => decide (kv.1 = k)) = true
  · rw [if_pos e, if_pos e]; exact r.repl k ry
  · rw [if_neg e, if_neg e]; exact Paired.snoc r ⟨rfl, ry⟩
end
theorem kV_is {P : Program} {w : World} {k : Key} {u : Value} (r : RelV (kV k) u) : (mixKind P w).is k u = true := by
  cases k with
  | inl i => obtain ⟨t, e⟩ := (show ∃ t, u = Value.int i t from r); subst e; exact mixKind_int P w i t
  | inr x => obtain ⟨t, e⟩ := (show ∃ t, u = Value.str x t from r); subst e; exact mixKind_str P w x t
theorem items_are {P : Program} {w : World} : ∀ {ks : List Key} {us : List Value}, Vals (ks.map kV) us -> ItemsAre (mixKind P w) ks us
  | [], _, r => by rw [List.map_nil] at r; cases r; exact .nil
  | k :: ks, _, r => by
    rw [List.map_cons] at r
    cases r with
    | cons h t => exact .cons (kV_is h) (items_are t)
abbrev KT (H : Hp) : List (List Key × V) -> List (List Key × Addr × Value) -> Prop := Paired fun p q => p.1 = q.1 /\ H q.2.1 = some (.tup (p.1.map kV)) /\ RelV p.2 q.2.2
theorem KT.val {H : Hp} {kvs : List (List Key × V)} {xs : List (List Key × Addr × Value)} (r : KT H kvs xs) (k : List Key) : RelO (valV kvs k) ((atKey xs k).map (·.2)) := by
  induction r with
  | nil => exact True.intro
  | @cons p q ps qs h t ih =>
    obtain ⟨h1, _, h2⟩ := h
    by_cases e : p.1 = k
    · have e' : q.1 = k := h1.symm.trans e
      have b : atKey (q :: qs) k = some q.2 := by simp [atKey, List.find?_cons, e']
      rw [valV_pos e, b]; exact h2
    · have e' : ¬ q.1 = k := fun z => e (h1.trans z)
      have b : atKey (q :: qs) k = atKey qs k := by simp [atKey, List.find?_cons, e']
      rw [valV_neg e, b]; exact ih
section
variable {P : Program} {w : World} {H : Hp} {h : Heap} {a : Addr}
theorem rd_of {u : HO} (ok : HOk P w H h) (e : Rd H a u) : ObjOk P w H h a u := e.ok ok
theorem dk_rd {kvs : List (Key × V)} (ok : HOk P w H h) (e : Rd H a (.dK kvs)) : kvs.length <= sizeLine /\ (a == sysModules) = false /\ ∃ vs, KV kvs vs /\ h.DictOf (mixKind P w) a vs :=
  show ObjOk P w H h a (.dK kvs) from rd_of ok e
theorem dk_of {kvs : List (Key × V)} (ok : HOk P w H h) (e : H a = some (.dK kvs)) : kvs.length <= sizeLine /\ (a == sysModules) = false /\ ∃ vs, KV kvs vs /\ h.DictOf (mixKind P w) a vs := dk_rd ok (.inl e)
theorem key_of {ks : List Key} (ok : HOk P w H h) (e : H a = some (.tup (ks.map kV))) : (tupleKind (mixKind P w)).is h ks a := by
  obtain ⟨_, its, r, o, h1, h2, n, h3⟩ := (show ObjOk P w H h a (.tup (ks.map kV)) from ok a _ e)
  exact ⟨o, its.toArray, n, h1, h2.1, h3, by simpa using items_are r⟩
theorem dt_rd {kvs : List (List Key × V)} (ok : HOk P w H h) (e : Rd H a (.dT kvs)) : kvs.length <= sizeLine /\ (a == sysModules) = false /\
    ∃ xs, KT H kvs xs /\ h.DictOfH (tupleKind (mixKind P w)) a xs := by
  obtain ⟨z, y, xs, r, o, es, ep, h1, h2, h3, h4, h5⟩ := (show ObjOk P w H h a (.dT kvs) from rd_of ok e)
  refine ⟨z, y, xs, r, o, es, ep, h1, h2, h3, h4, fun x hx => ?_, h5⟩
  have all : ∀ {l : List (List Key × V)} {m : List (List Key × Addr × Value)}, KT H l m -> ∀ x ∈ m, (tupleKind (mixKind P w)).is h x.1 x.2.1 := by
    intro l m q
    induction q with
    | nil => intro x hx; exact nomatch hx
    | @cons p q ps qs hq t ih =>
      intro x hx
      rcases List.mem_cons.mp hx with e | hx
      · subst e
        exact key_of ok (by rw [← hq.1]; exact hq.2.1)
      · exact ih x hx
  exact all r x hx
end
def DGet (H : Hp) (a : Addr) (y : V) (r : Option V) : Prop :=
  (∃ kvs k, Rd H a (.dK kvs) /\ y = kV k /\ r = valV kvs k) ∨ ∃ kvs k b, Rd H a (.dT kvs) /\ y = .ref b /\ H b = some (.tup (k.map kV)) /\ r = valV kvs k
theorem DGet.k {H : Hp} {a : Addr} {kvs : List (Key × V)} {k : Key} (e : H a = some (.dK kvs)) : DGet H a (kV k) (valV kvs k) := .inl ⟨kvs, k, .inl e, rfl, rfl⟩
section
variable {X : Cx} {pins : List (Addr × Obj)} {σ : St} {H : Hp} {s : Shared} {a : Addr} {y v : V} {u r : Value} {o : Option V} {A : Around} {E : Value -> Shared -> Prop}
theorem Inv.big (I : Inv X pins σ H s) : sysModules < s.heap.objs.size := by
  have h : mainGlobals < s.heap.objs.size := (I.mod.glob.keeps I.bk).lt
  exact Nat.lt_trans (by decide) h
theorem d_getItem {Q : Value -> Shared -> Prop} (hu : A.units + 1 < cLine) (I : Inv X pins σ H s) (g : DGet H a y (some v)) (ry : RelV y u) (h : ∀ w' s', Inv X pins σ H s' -> RelV v w' -> Q w' s') :
    wpAny (model X.prog X.w) A (getItem (.ref a) u) Q E s := by
  rcases g with ⟨kvs, k, e, ey, l⟩ | ⟨kvs, k, b, e, ey, eb, l⟩
  · subst ey
    obtain ⟨z, hd, vs, rel, dd⟩ := dk_rd I.hok e
    obtain ⟨w', hw, rw'⟩ := RelO.some_of (v := v) (o := valueAt vs k) (by rw [l]; exact rel.val k)
    exact wpAny_getItem_of (kV_is ry) dd.mapOf hw (h w' _ (I.tok _) rw')
  · subst ey
    cases (show u = Value.ref b from ry)
    obtain ⟨z, hd, xs, rel, dd⟩ := dt_rd I.hok e
    obtain ⟨w', hw, rw'⟩ := RelO.some_of (v := v) (o := (atKey xs k).map (·.2)) (by rw [l]; exact rel.val k)
    obtain ⟨p, hp, hp2⟩ := Option.map_eq_some_iff.mp hw
    refine wpAny_getItem_heap (tupleKind_room_in1 hu) (key_of I.hok eb) dd hp ?_
    rw [hp2]
    exact h w' _ (I.tok _) rw'
theorem d_write {h' : Heap} {t' : Nat} {ob : HO} (I : Inv X pins σ H s) (mu : Mut (H a)) (hs : Heap.SameBut a s.heap h') (he : ∃ q, h'.get? a = some q) (new : ObjOk X.prog X.w (upd H a ob) h' a ob) :
    Inv X pins σ (upd H a ob) { s with heap := h', toks := t' } :=
  I.write (x := a) (e := a) mu (.inl rfl) (fun b q hb z => (hs.2 b hb).trans z) he new
theorem dk_new {P : Program} {w : World} {H' : Hp} {h' : Heap} {kvs : List (Key × V)} {vs : List (Key × Value)} (z : kvs.length <= sizeLine) (hd : (a == sysModules) = false) (rel : KV kvs vs) (dd : h'.DictOf (mixKind P w) a vs) :
    ObjOk P w H' h' a (.dK kvs) := ⟨z, hd, vs, rel, dd⟩
end
section
variable {X : Cx} {pins : List (Addr × Obj)} {σ : St} {H : Hp} {s : Shared} {a : Addr} {kvs : List (Key × V)} {k : Key} {u : Value} {A : Around} {E : Value -> Shared -> Prop}
end
def NoSl (i : Expr) : Prop := ∀ ov iv, subscripted i false ov iv = operate [ov, iv] (getItem ov iv)
theorem subD_of {prog : Program} {w : World} {A : Around} {E : Value -> Shared -> Prop} {s : Shared} {env : Env} {value slice : Expr} {pos : Pos} {T id : String} {Q : Value -> Shared -> Prop}
    (hl : typeLookup (.type T) "__getitem__" = pure (some (.builtin id))) (hs : NoSl slice)
    (h : wpAny (model prog w) A (eval value env) (fun o s₁ => wpAny (model prog w) A (eval slice env) (fun i s₂ => s₂.TypeIs o T /\ wpAny (model prog w) A (getItem o i) Q E s₂) E s₁) E s) :
    wpAny (model prog w) A (eval (.Subscript value slice pos) env) Q E s := by
  refine Subscript_ (wpAny_mono h (fun o s₁ h₁ => wpAny_mono h₁ (fun i s₂ h₂ => ?_) fun _ _ x => x) fun _ _ x => x)
  obtain ⟨hT, h₂⟩ := h₂
  unfold subscriptTail
  refine wpAny_bind ?_
  rw [getitemInPython_of_ne hT.not_modules]
  refine wpAny_bind (wpAny_specialOf hT hl ?_)
  have fin : wpAny (model prog w) A (subscripted slice false o i) (fun r s₃ => wpAny (model prog w) A (letTemporaryGo value o r >>= fun _ => pure r) Q E s₃) E s₂ := by
    rw [hs o i]
    exact wpAny_operating (wpAny_mono h₂ (fun r s₃ h₃ => wpAny_bind (wpAny_letTemporaryGo (wpAny_pure h₃))) fun _ _ x => x)
  first
    | exact wpAny_pure (wpAny_bind fin)
    | exact wpAny_bind (wpAny_pure (wpAny_bind fin))
    | exact wpAny_bind fin
theorem dict_typeIs {X : Cx} {pins : List (Addr × Obj)} {σ : St} {H : Hp} {s : Shared} {a : Addr} {y : V} {o : Option V} (I : Inv X pins σ H s) (g : DGet H a y o) : s.TypeIs (.ref a) "dict" := by
  rcases g with ⟨kvs, k, e, _, _⟩ | ⟨kvs, k, b, e, _, _, _⟩
  · obtain ⟨_, _, vs, _, dd⟩ := dk_rd I.hok e
    exact dd.typeIs
  · obtain ⟨_, _, xs, _, dd⟩ := dt_rd I.hok e
    exact dd.typeIs
def tDGet (td ty : TE) : TE := fun σ H Q => td σ H fun x H1 => ty σ H1 fun y H2 => ∃ a v, x = .ref a /\ DGet H2 a y (some v) /\ Q v H2
section
variable {X : Cx} {o i e value : Expr} {pos pos' tpos : Pos} {td ty tv : TE}
theorem pe_dget (hu : X.A.units + 1 < cLine) (ho : PE X o td) (hi : PE X i ty) (hs : NoSl i) : PE X (.Subscript o i pos) (tDGet td ty) := by
  intro pins s σ H Q I h
  refine subD_of PySem.F.slot_dict_getitem.lookup hs (thn (ho pins s σ H _ I h) fun u s1 ⟨x, H1, I1, rx, q1⟩ => thn (hi pins s1 σ H1 _ I1 q1) fun iv s2 ⟨y, H2, I2, ry, a, v, ex, g, q2⟩ => ?_)
  subst ex
  obtain rfl : u = Value.ref a := rx
  exact ⟨dict_typeIs I2 g, d_getItem hu I2 g ry fun w' s3 I3 rw' => ⟨v, H2, I3, rw', q2⟩⟩
end
theorem dk_empty {P : Program} {w : World} {H : Hp} (h : Heap) (hb : sysModules < h.objs.size) : ObjOk P w H (h.push { cls := .type "dict", data := .dict #[] }) h.objs.size (.dK []) :=
  ⟨Nat.zero_le _, beq_eq_false_iff_ne.mpr (Ne.symm (Nat.ne_of_lt hb)), [], .nil, Heap.DictOf.new h⟩
section
variable {X : Cx} {pos : Pos}
end
def tPairs : List (TE × TE) -> St -> Hp -> (List (V × V) -> Hp -> Prop) -> Prop
  | [], _, H, Q => Q [] H
  | (tk, tv) :: r, σ, H, Q => tk σ H fun x H1 => tv σ H1 fun y H2 => tPairs r σ H2 fun ps H3 => Q ((x, y) :: ps) H3
abbrev VV : List (V × V) -> List (Value × Value) -> Prop := Paired fun p q => RelV p.1 q.1 /\ RelV p.2 q.2
def PPs (X : Cx) (pos : Pos) (keys : List (Option Expr)) (values : List Expr) (trs : List (TE × TE)) : Prop :=
  ∀ (pins : List (Addr × Obj)) (s : Shared) (σ : St) (H : Hp) (Q : List (V × V) -> Hp -> Prop), Inv X pins σ H s -> tPairs trs σ H Q ->
    wpAny (model X.prog X.w) X.A (evalPairs (pairTrees keys values X.env pos)) (fun vs s' => ∃ ps H', Inv X pins σ H' s' /\ VV ps vs /\ Q ps H') X.xe s
theorem pps_nil {X : Cx} {pos : Pos} : PPs X pos [] [] [] := fun pins s σ H Q I h => pairTrees_nil_walk ⟨[], H, I, .nil, h⟩
theorem pps_cons {X : Cx} {pos : Pos} {k v : Expr} {ks : List (Option Expr)} {vs : List Expr} {tk tv : TE} {trs : List (TE × TE)} (hk : PE X k tk) (hv : PE X v tv) (hr : PPs X pos ks vs trs) :
    PPs X pos (some k :: ks) (v :: vs) ((tk, tv) :: trs) := fun pins s σ H Q I h =>
  pairTrees_cons_walk (thn (hk pins s σ H _ I h) fun u s1 ⟨x, H1, I1, rx, q1⟩ => thn (hv pins s1 σ H1 _ I1 q1) fun w2 s2 ⟨y, H2, I2, ry, q2⟩ =>
    thn (hr pins s2 σ H2 _ I2 q2) fun ws s3 ⟨ps, H3, I3, rel, q3⟩ => ⟨(x, y) :: ps, H3, I3, .cons ⟨rx, ry⟩ rel, q3⟩)
def mergeK (kvs more : List (Key × V)) : List (Key × V) := more.foldl (fun acc kv => putK acc kv.1 kv.2) kvs
theorem KV.merge : ∀ {more : List (Key × V)} {rs : List (Key × Value)} {kvs : List (Key × V)} {vs : List (Key × Value)}, KV more rs -> KV kvs vs -> KV (mergeK kvs more) (merged vs rs) := by
  intro more rs kvs vs r
  unfold KV at r
  induction r generalizing kvs vs with
  | nil => intro q; exact q
  | @cons p q ps qs h t ih =>
    intro r0
    have e : KV (putK kvs p.1 p.2) (stored vs q.1 q.2) := by
      have := r0.put p.1 h.2
      rw [← h.1]; exact this
    exact ih e
theorem length_mergeK : ∀ (more kvs : List (Key × V)), (mergeK kvs more).length <= kvs.length + more.length
  | [], kvs => by show kvs.length <= kvs.length + 0; omega
  | p :: r, kvs => by
    have h1 := length_mergeK r (putK kvs p.1 p.2)
    have h2 := length_putK kvs p.1 p.2
    show (mergeK (putK kvs p.1 p.2) r).length <= _
    rw [List.length_cons]; omega
theorem carries_of {P : Program} {w : World} : ∀ {kvs : List (Key × V)} {ws : List (Value × Value)}, VV (kvs.map fun kv => (kV kv.1, kv.2)) ws -> ∃ rs, Carries (mixKind P w) ws rs /\ KV kvs rs
  | [], _, r => by rw [List.map_nil] at r; cases r; exact ⟨[], True.intro, .nil⟩
  | p :: kvs, _, r => by
    rw [List.map_cons] at r
    cases r with
    | @cons a b as bs h t =>
      obtain ⟨rs, c, q⟩ := carries_of (P := P) (w := w) t
      obtain ⟨b1, b2⟩ := b
      exact ⟨(p.1, b2) :: rs, ⟨kV_is h.1, rfl, c⟩, .cons ⟨rfl, h.2⟩ q⟩
def tDisp (trs : List (TE × TE)) : TE := fun σ H Q => ∀ p, H p = none -> tPairs trs σ (upd H p (.dK [])) fun ps H2 => H2 p = some (.dK []) /\ ∃ kvs : List (Key × V), ps = kvs.map (fun kv => (kV kv.1, kv.2)) /\ kvs.length <= 15 /\ Q (.ref p) (upd H2 p (.dK (mergeK [] kvs)))
theorem pe_disp {X : Cx} {pos : Pos} {keys : List (Option Expr)} {values : List Expr} {trs : List (TE × TE)} (h : PPs X pos keys values trs) (hall : keys.all (·.isSome) = true) (hl : keys.length = values.length) (h0 : keys ≠ [])
    (h15 : keys.length <= 15) : PE X (.Dict keys values pos) (tDisp trs) := by
  intro pins s σ H Q I q
  have hn := I.hok.fresh (Nat.le_refl s.heap.objs.size)
  have I1 := I.laid (a := s.heap.objs.size) (o := .dK []) (h' := s.heap.push { cls := .type "dict", data := .dict #[] }) (t' := s.toks) (fun _ _ q => Heap.get?_push_of_some _ q) (Nat.le_refl _) (dk_empty s.heap I.big)
  refine wpAny_Dict_walk (knd := mixKind X.prog X.w) hall hl h0 h15 (thn (h pins _ σ _ _ I1 (q _ hn)) fun ws s2 ⟨ps, H2, I2, rel, e, kvs, ep, lk, q2⟩ => ?_)
  subst ep
  obtain ⟨rs, c, rk⟩ := carries_of (P := X.prog) (w := X.w) rel
  obtain ⟨z, hd, vs0, r0, dd⟩ := dk_of I2.hok e
  cases r0
  refine ⟨rs, c, dd, fun h' dd' hs => ⟨.ref s.heap.objs.size, _, ?_, rfl, q2⟩⟩
  have hz : (mergeK [] kvs).length <= sizeLine := by
    have h1 := length_mergeK kvs []
    rw [List.length_nil] at h1
    rw [sizeLine_eq]; omega
  have he : ∃ q, h'.get? s.heap.objs.size = some q := let ⟨q, _, _, hq, _⟩ := dd'; ⟨q, hq⟩
  exact d_write I2 (by rw [e]; exact True.intro) hs he (dk_new hz hd (rk.merge .nil) dd')
section
variable {X : Cx} {pins : List (Addr × Obj)} {σ : St} {H : Hp} {s : Shared} {a : Addr} {y d : V} {u r : Value} {o : Option V} {A : Around} {E : Value -> Shared -> Prop}
end
section
variable {X : Cx} {o e f : Expr} {apos cpos : Pos} {td ty tx : TE}
end
section
variable {X : Cx} {pins : List (Addr × Obj)} {σ : St} {H : Hp} {s : Shared} {a : Addr} {kvs : List (Key × V)} {A : Around} {E : Value -> Shared -> Prop}
end
section
variable {X : Cx} {pins : List (Addr × Obj)} {σ : St} {H : Hp} {s : Shared} {a : Addr} {y : V} {u : Value} {A : Around} {E : Value -> Shared -> Prop}
end
end L2
set_option Elab.async false
set_option linter.all false
set_option maxRecDepth 100000
namespace Att
open PySem PySem.W PySem.Calls PyProof.Rows
theorem ints_of_wellAll {P : Params} {h : Heap} : ∀ (ns : List Int) (vs : List Value), WellAll P h vs (ns.map WData.int) -> IntsAre vs ns := by
  intro ns
  induction ns with
  | nil =>
    intro vs w
    rw [List.map_nil] at w
    cases w
    exact .nil
  | cons n ns ih =>
    intro vs w
    rw [List.map_cons] at w
    cases w with
    | cons a b =>
      cases a
      exact .cons _ _ (ih _ b)
theorem script_of {l : OpenLaw} {n : Nat} (hn : l.most = some n) {P : Params} {h : Heap} {args : List WData} {vals : List Value}
    (hpre : l.row.toRowW.claim.pre args = true) (hwl : WellAll P h vals args) :
    ∃ a vs ns, vals = [Value.ref a] /\ args = [WData.list (ns.map WData.int)] /\ h.get? a = some { cls := .type "list", data := .seq vs.toArray } /\ IntsAre vs ns /\ ns.length <= n := by
  have hsh : WShape.hasAll [] args [.list .int] = true := (pre_splitW hpre).1
  have hc : l.pre.holds [] { args := args } = true := (pre_splitW hpre).2
  obtain ⟨d, r, rfl, h1, h2⟩ := hasAllW_cons hsh
  obtain rfl := hasAllW_nil h2
  obtain ⟨xs, rfl, h3⟩ := hasW_list h1
  obtain ⟨ns, rfl⟩ := items_int h3
  have hlen : ns.length <= n := by
    unfold OpenLaw.pre at hc
    have h4 : (WTm.not (.lt (.lit (.int (n : Int))) (.len (.arg 0)))).holds [] { args := [.list (ns.map .int)] } = true := by
      have h4 := (holds_andW hc).1
      rw [hn] at h4
      exact h4
    have h5 := condW_of h4 (w_not (w_lt w_lit (w_len_list (w_arg rfl))))
    rw [List.length_map] at h5
    refine Nat.le_of_not_lt fun q => ?_
    have q' : (n : Int) < ((ns.length : Nat) : Int) := by omega
    first
      | (rw [decide_eq_true q'] at h5; exact absurd h5 (by decide))
      | (simp at h5; omega)
  cases hwl with
  | cons w1 w2 =>
    cases w2
    cases w1 with
    | list ho hall => exact ⟨_, _, ns, rfl, rfl, ho, ints_of_wellAll ns _ hall, hlen⟩
theorem post_true (l : OpenLaw) (args : List WData) : l.row.toRowW.claim.post args (.bool true) args = true :=
  postW_of (r := l.row.toRowW) (X := (true == true))
    (show WShape.has [] (.bool true) .bool = true by first | rfl | decide | simp [WShape.has, WShape.arms, WShape.armsAll])
    (show (WTm.eq .res (.lit (.bool true))).value [] { args := args, res := some (.bool true), after := args } = some (.bool (true == true)) from w_eq_bool (w_res rfl) w_lit) rfl
section
variable {prog : Program} {w : World} {A : Around} {E : Value -> Shared -> Prop} {s : Shared} {K : Frag}
end
end Att
namespace L2
open PySem PySem.Spec PyProof.Rows
theorem vals_ints : ∀ {vs : List Value} {ns : List Int}, IntsAre vs ns -> Vals (ns.map V.int) vs
  | _, _, .nil => .nil
  | _, _, .cons n t h => .cons ⟨t, rfl⟩ (vals_ints h)
def Only (H : Hp) : Prop := ∀ b, H b = none ∨ ∃ o xs, H b = some (.frz o (.lst xs))
theorem law_call {P : Program} {w : World} {K : PySem.W.Frag} {mg mb : Str -> Option Value} {CX : CXT} {k : Nat} {fa a : Addr} {fd : FuncData} {x : Str} {sp : Sp} {s₁ : Shared} {vs : List Value} {ns : List Int}
    (KX : K.In s₁.heap) (hns : s₁.heap.Ns mainGlobals mg) (hb : s₁.heap.Ns builtinsNs mb) (hbb : ∀ x : Str, x ≠ "__name__" -> mb x = bootBuiltins x) (hlim : s₁.heap.NoLimit) (hg : s₁.gens = #[])
    (ha : s₁.heap.get? a = some { cls := .type "list", data := .seq vs.toArray }) (hi : IntsAre vs ns) (hl : ns.length <= sizeLine) (hr : Room k callerA)
    (F : ∀ base : Heap, K.In base -> base.Ns mainGlobals mg -> FnOk P w K mg base CX k fa fd [x] sp) (hbind : ∀ (s : Shared) (u : Value), BindsTo s fd ⟨[u], []⟩ [(x, u)])
    (hsp : ∀ H : Hp, Only H -> SqL K H a (ns.map V.int) -> sp [.ref a] H (fun v _ => v = .bl true) fun _ _ _ => False)
    (hCX : ∀ H e s', CX [] H s₁ (fun _ _ _ => False) e s' -> False) :
    codeAny (model P w) callerA (.call (.ref fa) ⟨[.ref a], []⟩) (fun r s' => r = .ok (.ret (.bool true)) /\ OldK s₁.heap s'.heap /\ s'.os = s₁.os /\ AllBare s'.gens) s₁ := by
  have rv := vals_ints hi
  have lenV := hi.length
  -- from an abstract heap in which nothing but the script may be tracked
  have core : ∀ H : Hp, Only H -> SqL K H a (ns.map V.int) -> HOk P w H s₁.heap -> (∀ b, H b ≠ none -> b = a) -> (H a ≠ none -> K.lookup a = none) ->
      codeAny (model P w) callerA (.call (.ref fa) ⟨[.ref a], []⟩) (fun r s' => r = .ok (.ret (.bool true)) /\ OldK s₁.heap s'.heap /\ s'.os = s₁.os /\ AllBare s'.gens) s₁ := by
    intro H hO hS hok hA hK
    have base_of : ∀ {b : Addr} {o : Obj}, s₁.heap.get? b = some o -> H b = none -> (hidT s₁.heap H).get? b = some o := fun e n => hidT_get e n
    have noA : ∀ {b : Addr} {o : Obj} {es : Array DictEntry} {ep : Nat}, s₁.heap.get? b = some o -> o.data = .dict es ep -> H b = none := fun {b o es ep} e d => by
      cases q : H b with
      | none => rfl
      | some u =>
        have e' : b = a := hA b (by rw [q]; simp)
        subst e'
        rw [ha] at e; cases e
        have d' : Data.seq vs.toArray _ = Data.dict es ep := d
        cases d'
    have nsK : ∀ {b : Addr} {m : Str -> Option Value}, s₁.heap.Ns b m -> (hidT s₁.heap H).Ns b m := fun {b m} ⟨o, es, ep, e, d, r⟩ => ⟨o, es, ep, base_of e (noA e d), d, r⟩
    have hKb : K.In (hidT s₁.heap H) := fun b o e => base_of (KX b o e) (by
      cases q : H b with
      | none => rfl
      | some u =>
        have e' : b = a := hA b (by rw [q]; simp)
        subst e'
        rw [hK (by rw [q]; simp)] at e; cases e)
    have hM : Mod K mg (hidT s₁.heap H) := ⟨hKb, nsK hns, ⟨mb, nsK hb, hbb⟩, let ⟨mc, h1, h2⟩ := hlim; ⟨mc, nsK h1, h2⟩⟩
    have e0 : Env0 P w K mg (hidT s₁.heap H) callerA [] s₁ H := ⟨rfl, hM, fun b o e => of_hidT e, Nat.le_of_eq (hidT_size _ _), trivial, fun b hb => absurd (show b ∈ ([] : List Addr) from hb) (by simp), hok, .of_eq hg⟩
    refine codeAny_mono ((F _ hKb (nsK hns)).run callerA [] s₁ H ⟨[.ref a], []⟩ [.ref a] [.ref a] _ _ hr e0 (hbind s₁ (.ref a)) (.cons rfl .nil) (hsp H hO hS)) fun r s' h => ?_
    cases r with
    | error e => exact (hCX H e s' h).elim
    | ok fl =>
      cases fl with
      | next => exact False.elim h
      | brk => exact False.elim h
      | cont => exact False.elim h
      | ret u =>
        obtain ⟨v, H', os, bare, un, hok', r', q⟩ := h
        have q' : v = .bl true := q
        subst q'
        obtain rfl : u = Value.bool true := r'
        refine ⟨rfl, OldK.of_keep fun b o e => ?_, os, bare⟩
        cases q : H b with
        | none => exact un.keep b o e q (by intro z; exact absurd (show b ∈ ([] : List Addr) from z) (by simp)) (by simp)
        | some u =>
          rcases hO b with z | ⟨ob, xs, z⟩
          · rw [q] at z; cases z
          · have z2 := un.frzs b ob _ z
            obtain ⟨e1, _⟩ := hok b _ z
            obtain ⟨e2, _⟩ := hok' b _ z2
            rw [e] at e1; cases e1
            exact e2
  cases hk : K.lookup a with
  | some o =>
    -- the script is one of the module's own objects
    have e := KX a o hk
    rw [ha] at e
    cases e
    refine core (fun _ => none) (fun _ => .inl rfl) (.inr ⟨_, vs.toArray, _, hk, rfl, rfl, rfl, by rw [List.size_toArray, lenV]; exact hl, by simpa using rv⟩) (fun b u z => by have z' : (none : Option HO) = some u := z; cases z') (fun b z => absurd rfl z) fun z => absurd rfl z
  | none =>
    refine core (fun b => if b = a then some (.frz { cls := .type "list", data := .seq vs.toArray } (.lst (ns.map V.int))) else none) (fun b => ?_) (.inl (.inr ⟨{ cls := .type "list", data := .seq vs.toArray }, if_pos rfl⟩)) (fun b u z => ?_) (fun b z => ?_) fun _ => hk
    · by_cases hb : b = a
      · exact .inr ⟨_, _, if_pos hb⟩
      · exact .inl (if_neg hb)
    · by_cases hb : b = a
      · have z' := (if_pos hb).symm.trans z
        cases z'
        subst hb
        exact ⟨ha, by rw [List.length_map]; exact hl, vs, _, rv, ha⟩
      · have z' := (if_neg hb).symm.trans z
        cases z'
    · by_cases hb : b = a
      · exact hb
      · exact absurd (if_neg hb) z
end L2
namespace L2
open PySem PySem.Spec PyProof.Rows
end L2
/- THE LAST THEOREM (shape; LID, My.* are yours):
   My.Adr: a structure of the addresses that your layer names (classes, functions); My.Txt K t: a structure (Prop) of the equations over K;
   My.txt_mk : {K} {implicit addresses ..} (e1 : nsIn K mainGlobals "law" = some (some (.ref f))) (e2 : K.lookup f = some ⟨oc, od, .func (fnOf "law" "law" params body scope dV kV doc pm an cdv ct), sl⟩) (e3 : codeIn K cdv "law" = true) .. : ∃ t, My.Txt K t
set_option maxRecDepth 100000 in
set_option maxHeartbeats 0 in
theorem PySem.Challenge.cw_LID_holds : PySem.Challenge.rw_LID.Holds := by
  w_on; o_law; k_head; (case hw => w_witness2)
  k_fill
  refine L2.walk_of (l := PySem.Challenge.rw_LID) (n := 63) (k := 40) (x := "script") (CX := fun w => ..) (sp := fun _ => My.sp_law) rfl (by decide) rfl ⟨rfl, by decide, by decide⟩ (fun w h Y => PySem.W.kIn_of Y) ?F ?S ?C
  case F =>
    intro w mg fa h KX G hmg
    have T : ∃ t, My.Txt (L2.KOf KX) t := by
      dsimp only [L2.KOf]                          -- K must stand as «<heap const> w.params» for k_is
      refine' My.txt_mk ?e1 ?e2 ?e3 ..
      (case e1 => PySem.W.k_is)                    -- in the order: a name -> its address -> its object -> its parts
      (case e2 => PySem.W.k_is)
      ..
    obtain ⟨t, T⟩ := T
    have e0 := hmg.symm.trans (PySem.W.mg_of KX G T.law)
    cases e0                                       -- fa is the law's own address
    exact ⟨_, fun s u => .of_eq rfl, fun base kb nb => My.law_fn T kb nb⟩     -- if «.of_eq rfl» comes too early: refine' ⟨_, ?b, fun base kb nb => My.law_fn T kb nb⟩; exact fun s u => .of_eq rfl
  case S => exact fun w H a ns hl hO hS => ..
  case C => exact ..
(the tactic k_is has no namespace: write k_is) -/
namespace L2
open PySem PySem.Spec PyProof.Rows
def inClass (s : Stmt) (j : Nat) : Stmt := match s with
  | .ClassDef _ _ _ body _ _ _ _ _ _ _ => body.getD j (.Pass ⟨0, 0, 0, 0⟩)
  | _ => .Pass ⟨0, 0, 0, 0⟩
def defArgs (s : Stmt) : Arguments := match s with
  | .FunctionDef _ a _ _ _ _ _ _ _ _ => a
  | _ => { posonlyargs := [], args := [], vararg := none, kwonlyargs := [], kw_defaults := [], kwarg := none, defaults := [] }
def defBody (s : Stmt) : List Stmt := match s with
  | .FunctionDef _ _ b _ _ _ _ _ _ _ => b
  | _ => []
def defScope (s : Stmt) : Scope := match s with
  | .FunctionDef _ _ _ _ _ _ sc _ _ _ => sc
  | _ => { kind := .function, names := [], isGenerator := false, isCoroutine := false }
abbrev CX0 : CXT := fun _ _ _ _ _ _ => False
abbrev E0 : XK := fun _ _ _ => False
theorem pass0 {X : Cx} : Passes CX0 X E0 := fun _ _ _ _ _ _ _ h => h.elim
structure Fun (K : PySem.W.Frag) (x qual : Str) (st : Stmt) (f : Addr) (fd : FuncData) : Prop where
  ex : ∃ (oc : Value) (od : Option Addr) (kV doc pm : Value) (an : Option Addr) (cdv ct : Value) (osl : Array (Option Value)),
    fd = PySem.W.fnOf x qual (defArgs st) (defBody st) (defScope st) .none kV doc pm an cdv ct /\ K.lookup f = some ⟨oc, od, .func fd, osl⟩ /\ PySem.W.codeIn K cdv qual = true
  kp : PySem.W.keepIn K (.ref f) = true
section
variable {P : Program} {w : World} {K : PySem.W.Frag} {mg : Str -> Option Value} {base : Heap}
theorem Fun.ok {x qual : Str} {st : Stmt} {f : Addr} {fd : FuncData} {N ps : List Str} {k : Nat} {sp : Sp} (F : Fun K x qual st f fd) (S : FnScope N ps (defScope st)) (len : ∀ vs H Q E, sp vs H Q E -> vs.length = ps.length)
    (hbody : ∀ (cdv : Value) (A : Around) (outer : List Env) (s : Shared) (H : Hp) (vs : List V) (Q : VK) (E : XK), Room k (A.deeper (envOfC qual (defScope st) s.heap.objs.size f cdv)) -> sp vs H Q E ->
      ∃ t, PSs (cxOf CX0 P w K mg base N qual (defScope st) f cdv A outer s H E).nox (defBody st) t /\ t { nx := fun _ H' => Q .non H', rt := Q } (start N vs) H) : FnOk P w K mg base CX0 (k + 1) f fd ps sp := by
  obtain ⟨oc, od, kV, doc, pm, an, cdv, ct, osl, rfl, lk, hcd⟩ := F.ex
  refine fn_of lk hcd S len fun A outer s H vs Q E hr hsp => ?_
  obtain ⟨t, h, q⟩ := hbody cdv A outer s H vs Q E hr hsp
  exact ⟨t, h.nox, q⟩
end
theorem small1000 {n : Nat} (h : n <= 1000) : n < sizeLine := Nat.lt_of_le_of_lt h (by decide)
section
variable {X : Cx}
theorem pv (i : Nat) {x : Str} {pos : Pos} (hN : X.N[i]? = some x := by rfl) (hv : Vis X.env.scope x := by first | exact Or.inl rfl | exact Or.inr (Or.inl rfl) | exact Or.inr (Or.inr rfl)) (hd : (x == ("__debug__" : Str)) = false := by decide)
    (hcd : (x == ("__classdict__" : Str)) = false := by decide) : PE X (.Name x pos) (tVar i) := pe_var hN hv hd hcd
end
theorem iteT {A B : Prop} (h : A) : if true = true then A else B := by
  rw [if_pos rfl]
  exact h
def Same (H H' : Hp) : Prop := ∀ b o, H b = some o -> H' b = some o
theorem Same.refl (H : Hp) : Same H H := fun _ _ h => h
theorem Same.trans {H H1 H2 : Hp} (a : Same H H1) (b : Same H1 H2) : Same H H2 := fun c o h => b c o (a c o h)
theorem Same.seq {K : PySem.W.Frag} {H H' : Hp} {a : Addr} {xs : List V} (e : Same H H') (h : SqL K H a xs) : SqL K H' a xs := by
  rcases h with (h | ⟨o, h⟩) | h
  · exact .inl (.inl (e _ _ h))
  · exact .inl (.inr ⟨o, e _ _ h⟩)
  · exact .inr h
section
variable {κ : Type} [DecidableEq κ]
end
end L2
set_option Elab.async false
set_option linter.all false
set_option maxRecDepth 100000
set_option maxHeartbeats 4000000
namespace L2
open PySem PySem.Spec PyProof.Rows
structure Fly (P : Program) (w : World) (outer : List Env) (H : Hp) (s : Shared) (H' : Hp) (B : Heap) (s' : Shared) : Prop where
  os : s'.os = s.os
  bare : AllBare s'.gens
  un : Un (frs outer) [] H H' s.heap s'.heap
  kb : ∀ b o, s.heap.get? b = some o -> H b = none -> b ∉ frs outer -> B.get? b = some o
  kt : ∀ b o, s.heap.get? b = some o -> b ∉ frs outer -> ∃ o', B.get? b = some o'
  hok : HOk P w H' B
def CXF (P : Program) (w : World) : CXT := fun outer H s E e s' =>
  ∃ (ea : Addr) (cls a0 : Value) (H' : Hp) (B : Heap), e = .ref ea /\ Fly P w outer H s H' B s' /\ Heap.FlyingW B outer ea cls a0 s'.heap /\ E cls none H'
section
variable {P : Program} {w : World} {outer : List Env} {H H' : Hp} {s s' : Shared} {B h2 base : Heap}
theorem Fly.land {ea : Addr} {cls a0 : Value} {l : List Env} (F : Fly P w outer H s H' B s') (fr : s.heap.FunFrames base outer) (frf : ∀ b ∈ frs outer, H b = none) (fl : Heap.FlyingW B l ea cls a0 h2) (up : s'.heap.UpToSlots h2) : Un (frs outer) [] H H' s.heap h2 := by
  have sl : ∀ b o, s.heap.get? b = some o -> b ∈ frs outer -> ∃ sl, h2.get? b = some { o with slots := sl } := fun b o e hb => by
    obtain ⟨_, o', ho', hd⟩ := fr.mem hb
    rw [e] at ho'
    cases ho'
    obtain ⟨sl, e1⟩ := F.un.slot b o e (frf b hb) hb (by simp)
    obtain ⟨sl', e2⟩ := up b _ e1 hd
    exact ⟨sl', e2⟩
  refine ⟨fun b o e n hb _ => fl.1 b o (F.kb b o e n hb), fun b o e n hb _ => sl b o e hb, F.un.free, fun b o e _ => ?_, F.un.tups, F.un.frzs, F.un.tbls⟩
  by_cases hb : b ∈ frs outer
  · obtain ⟨q, e1⟩ := sl b o e hb
    exact ⟨_, e1⟩
  · obtain ⟨o', e1⟩ := F.kt b o e hb
    exact ⟨o', fl.1 b o' e1⟩
end
def Raises (X : Cx) (E : St -> XK) : Prop := ∀ (pins : List (Addr × Obj)) (σ : St) (H : Hp) (s : Shared) (ea : Addr) (cls : Value) (args : List Value) (h' : Heap),
  Inv X pins σ H s -> Heap.MadeExcOf s.heap h' ea cls args -> E σ cls none H -> X.xe (.ref ea) { s with heap := h' }
def PassesS (CX : CXT) (X : Cx) (E : St -> XK) : Prop := ∀ (pins : List (Addr × Obj)) (σ : St) (H : Hp) (s : Shared) (e : Value) (s' : Shared), Inv X pins σ H s -> CX X.stack H s (E σ) e s' -> X.xe e s'
section
variable {X : Cx} {pins : List (Addr × Obj)} {σ : St} {H : Hp} {s : Shared}
theorem Inv.notStk (I : Inv X pins σ H s) {b : Addr} {o : Obj} (e : X.s₀.heap.get? b = some o) (hb : b ∉ X.fs) : b ∉ frs X.stack := fun z => by
  rcases List.mem_cons.mp (I.stkSub b z) with q | q
  · exact absurd (Nat.lt_of_lt_of_le (Heap.lt_size e) I.ok.above) (by rw [q]; exact Nat.lt_irrefl _)
  · exact hb q
theorem Inv.fly (I : Inv X pins σ H s) {h' : Heap} {ea : Addr} {cls : Value} {args : List Value} (M : Heap.MadeExcOf s.heap h' ea cls args) :
    Fly X.prog X.w X.stack H s H (PySem.W.hideAll s.heap (frs X.stack)) { s with heap := h' } := by
  refine ⟨rfl, I.bare, Un.kept M.keeps, fun b o e _ hb => PySem.W.hideAll_get _ e hb, fun b o e hb => ⟨o, PySem.W.hideAll_get _ e hb⟩, fun a o e => ?_⟩
  refine (I.hok a o e).stay (fun b u hb q => PySem.W.hideAll_get _ q fun z => ?_) (fun _ q => q) fun _ _ q => q
  have n := I.stkFree b z
  rcases hb with rfl | hb
  · rw [n] at e; cases e
  · rw [n] at hb; cases hb
end
section
variable {P : Program} {w : World} {K : PySem.W.Frag} {mg : Str -> Option Value} {base : Heap} {N : List Str} {qual : Str} {scope : Scope} {f : Addr} {cd : Value} {A : Around} {outer : List Env} {s : Shared} {H : Hp} {E : XK}
theorem fly_out {pins : List (Addr × Obj)} {σ : St} {H1 H' : Hp} {s1 s' : Shared} {B h2 : Heap} {ea : Addr} {cls a0 : Value} (I : Inv (cxOf (CXF P w) P w K mg base N qual scope f cd A outer s H E) pins σ H1 s1)
    (F : Fly P w (envOfC qual scope s.heap.objs.size f cd :: outer) H1 s1 H' B s') (fl : Heap.FlyingW B outer ea cls a0 h2) (up : s'.heap.UpToSlots h2) : Fly P w outer H s H' B { s' with heap := h2 } := by
  have u := F.land I.stack I.stkFree fl up
  have J := I.call (h' := h2) (g' := s'.gens) (t' := s'.toks) (d' := s'.drawn) (ch := []) u (F.hok.kept fl.1) F.bare (fun b z => absurd z (by simp))
  refine ⟨F.os.trans I.os, F.bare, J.base, fun b o e n hb => ?_, fun b o e hb => ?_, F.hok⟩
  · exact F.kb b o (I.base.keep b o e n hb (by simp [cxOf])) (I.base.free b o e n (by simp [cxOf])) (I.notStk e hb)
  · obtain ⟨o', e1⟩ := I.base.there b o e (by simp [cxOf])
    exact F.kt b o' e1 (I.notStk e hb)
theorem raises_fn : Raises (cxOf (CXF P w) P w K mg base N qual scope f cd A outer s H E) (fun _ => E) := by
  intro pins σ H1 s1 ea cls args h' I M hE
  have F := I.fly M
  show wpAny (model P w) _ (leaving (envOfC qual scope s.heap.objs.size f cd) (.ref ea)) _ _ _
  refine wpAny_leaves_madeW (base := PySem.W.hideAll s1.heap (frs (envOfC qual scope s.heap.objs.size f cd :: outer))) (h := s1.heap) I.ok.frames rfl (fun b o q => PySem.W.of_hideAll _ q)
    (PySem.W.funFrames_hide I.stack fun env he b hb => List.mem_filterMap.mpr ⟨env, he, hb⟩) M fun h2 t fl _ _ up => ?_
  exact ⟨ea, cls, .ref t, H1, _, rfl, fly_out I F fl up, fl, hE⟩
theorem passes_fn : PassesS (CXF P w) (cxOf (CXF P w) P w K mg base N qual scope f cd A outer s H E) (fun _ => E) := by
  intro pins σ H1 s1 e s' I h
  obtain ⟨ea, cls, a0, H', B, rfl, F, fl, hE⟩ := h
  show wpAny (model P w) _ (leaving (envOfC qual scope s.heap.objs.size f cd) (.ref ea)) _ _ s'
  refine wpAny_leaves_onW I.ok.frames rfl fl fun h2 fl' up => ?_
  exact ⟨ea, cls, a0, H', B, rfl, fly_out I F fl' up, fl', hE⟩
end
theorem Fun.okX {P : Program} {w : World} {K : PySem.W.Frag} {mg : Str -> Option Value} {base : Heap} {x qual : Str} {st : Stmt} {f : Addr} {fd : FuncData} {N ps : List Str} {k : Nat} {sp : Sp} (F : Fun K x qual st f fd) (S : FnScope N ps (defScope st)) (len : ∀ vs H Q E, sp vs H Q E -> vs.length = ps.length)
    (hbody : ∀ (cdv : Value) (A : Around) (outer : List Env) (s : Shared) (H : Hp) (vs : List V) (Q : VK) (E : XK), Room k (A.deeper (envOfC qual (defScope st) s.heap.objs.size f cdv)) -> sp vs H Q E ->
      ∃ t, PSs (cxOf (CXF P w) P w K mg base N qual (defScope st) f cdv A outer s H E) (defBody st) t /\ t { nx := fun _ H' => Q .non H', rt := Q } (start N vs) H) : FnOk P w K mg base (CXF P w) (k + 1) f fd ps sp := by
  obtain ⟨oc, od, kV, doc, pm, an, cdv, ct, osl, rfl, lk, hcd⟩ := F.ex
  exact fn_of lk hcd S len fun A outer s H vs Q E hr hsp => hbody cdv A outer s H vs Q E hr hsp
theorem pown_fn {P : Program} {w : World} {K : PySem.W.Frag} {mg : Str -> Option Value} {base : Heap} {N : List Str} {qual : Str} {scope : Scope} {f : Addr} {cd : Value} {A : Around} {outer : List Env} {s : Shared} {H : Hp} {E : XK} :
    PassesOwn (model P w) (cxOf (CXF P w) P w K mg base N qual scope f cd A outer s H E).A (cxOf (CXF P w) P w K mg base N qual scope f cd A outer s H E).env (cxOf (CXF P w) P w K mg base N qual scope f cd A outer s H E).xe := PassesOwn.leaving
theorem FnOk.cxf {P : Program} {w : World} {K : PySem.W.Frag} {mg : Str -> Option Value} {base : Heap} {k : Nat} {f : Addr} {fd : FuncData} {ps : List Str} {sp : Sp} (F : FnOk P w K mg base CX0 k f fd ps sp) (CX : CXT) : FnOk P w K mg base CX k f fd ps sp :=
  ⟨F.len, fun A outer s H args us vs Q E hr he hb hv hs => codeAny_mono (F.run A outer s H args us vs Q E hr he hb hv hs) fun r s' q => by
    cases r with
    | error e => exact False.elim q
    | ok fl => cases fl <;> exact q⟩
def tCallS (sp : Sp) (dvs : List V) (E : St -> XK) (t : TA) : TE := fun σ H Q => t σ H fun vs H1 => sp (vs ++ dvs) H1 Q (E σ)
section
variable {X : Cx} {CX : CXT} {k : Nat} {f C : Addr} {fd : FuncData} {ps : List Str} {sp : Sp} {dvs : List V} {ds : List Value} {E : St -> XK} {x m : Str} {p pos apos : Pos} {e o : Expr} {es : List Expr} {ta : TE} {t : TA}
theorem run_fnS {pins : List (Addr × Obj)} {σ : St} {H : Hp} {s : Shared} {Q : VK} {us : List Value} {vs : List V} (F : FnOk X.prog X.w X.K X.mg X.base CX k f fd ps sp) (hr : Room k X.A) (hb : Binds X.K fd ps ds) (hd : Vals dvs ds) (hx : PassesS CX X E)
    (I : Inv X pins σ H s) (r : Vals vs us) (h : sp (vs ++ dvs) H Q (E σ)) : wpAny (model X.prog X.w) X.A (call (.ref f) us) (EP X pins σ Q) X.xe s := by
  have r2 : Vals (vs ++ dvs) (us ++ ds) := r.append hd
  have hl : (us ++ ds).length = ps.length := by rw [← r2.length]; exact F.len _ _ _ _ h
  refine wpAny_call (codeAny_mono (F.run X.A X.stack s H ⟨us, []⟩ (us ++ ds) (vs ++ dvs) Q (E σ) hr I.env0 (hb s us I.kIn hl) r2 h) fun r s' hq => ?_)
  cases r with
  | error e => exact hx pins σ H s e s' I hq
  | ok fl =>
    cases fl with
    | ret u => exact I.after hq
    | next => exact False.elim hq
    | brk => exact False.elim hq
    | cont => exact False.elim hq
theorem pe_callS (F : FnOk X.prog X.w X.K X.mg X.base CX k f fd ps sp) (hr : Room k X.A) (hg : Gl X x) (hm : X.mg x = some (.ref f)) (hk : PySem.W.keepIn X.K (.ref f) = true) (hb : Binds X.K fd ps ds) (hd : Vals dvs ds) (hx : PassesS CX X E)
    (ha : PA X (e :: es) t) (hdb : (x == ("__debug__" : Str)) = false := by decide) (he : starEach (e :: es) X.env = (false, eval e X.env) :: starEach es X.env := by rfl) (hpl : (backTo pos (starEach es X.env)).any (·.1) = false := by rfl) :
    PE X (.Call (.Name x p) (e :: es) [] pos) (tCallS sp dvs E t) := by
  intro pins s σ H Q I h
  refine wpAny_Call_Name_kw (ld_glob I hg hm ?_ hdb)
  refine PySem.W.callWith_K (h₀ := X.base) I.ok.mod.kin hk (thn (ha pos pins s σ H _ I h) fun us s1 ⟨vs, H1, I1, r, q⟩ => ⟨I1.kIn, ?_⟩) he hpl
  exact run_fnS F hr hb hd hx I1 r q
end
abbrev veB : List Value := [.type "ValueError", .type "Exception", .type "BaseException", .type "object"]
theorem excObj_of {K : PySem.W.Frag} {h : Heap} {C : Addr} {bmB : List Value} {newId : String} (X : K.In h) (q : PySem.W.excIn K C bmB newId = true) :
    ∃ bm N nm q bs hdct sn sub ab col dd k0 k1 k2 k3 k5 mN, h.get? C = some (excClassObj nm q C N bs bm hdct sn sub ab col dd k0 k1 k2 k3 k5 newId) /\ h.Ns N mN /\ mN "__init__" = none /\ OwnTail h bmB bm := by
  unfold PySem.W.excIn at q
  split at q
  · rename_i dd cd sl ho
    split at q
    · rename_i C' bm k0 k1 k2 k3 n k5 hm hs
      simp only [Bool.and_eq_true, beq_iff_eq, Bool.not_eq_true'] at q
      obtain ⟨⟨⟨⟨⟨rfl, rfl⟩, hdel⟩, ht⟩, hok⟩, hni⟩ := q
      obtain ⟨nm, bs, mro, ns, qn, hd, sn, sub, ab, col, del⟩ := cd
      dsimp only at hm hdel hok hni
      subst hm hdel
      have hsl : sl = #[k0, k1, k2, k3, some (.builtin n), k5] := by
        obtain ⟨l⟩ := sl
        simp only at hs
        rw [hs]
      subst hsl
      exact ⟨bm, ns, nm, qn, bs, hd, sn, sub, ab, col, dd, k0, k1, k2, k3, k5, _, X _ _ ho, .of_isNs (PySem.W.isNs_of_in X hok), PySem.W.nsMap_none_of_in X hok hni, PySem.W.tail_of_in X ht⟩
    · cases q
  · cases q
def tRaise (E : St -> XK) (C : Addr) (t : TA) : TS := fun _ σ H => t σ H fun vs H1 => vs.length <= sizeLine /\ E σ (.ref C) none H1
theorem ps_raise {X : Cx} {E : St -> XK} {C : Addr} {x : Str} {np cpos pos : Pos} {e : Expr} {es : List Expr} {t : TA} (hc : X.calm = true) (hR : Raises X E) (q : PySem.W.excIn X.K C veB "ValueError.__new__" = true) (hg : Gl X x) (hm : X.mg x = some (.ref C)) (ha : PA X (e :: es) t)
    (hdb : (x == ("__debug__" : Str)) = false := by decide) (he : starEach (e :: es) X.env = (false, eval e X.env) :: starEach es X.env := by rfl) (hpl : (backTo cpos (starEach es X.env)).any (·.1) = false := by rfl) :
    PS X (.Raise (some (.Call (.Name x np) (e :: es) [] cpos)) none pos) (tRaise E C t) := by
  intro pins s σ H D I h
  obtain ⟨tl, N, nm, q, bs, hdct, sn, sub, ab, col, dd, k0, k1, k2, k3, k5, mN, hC, hN, hni, T⟩ := excObj_of I.ok.mod.kin q
  refine wpAny_Raise_call_subT (C := C) (nm := nm) (q := q) (N := N) (bs := bs) (bm := tl) (hdct := hdct) (sn := sn) (sub := sub) (ab := ab) (col := col) (dd := dd) (k0 := k0) (k1 := k1) (k2 := k2) (k3 := k3) (k5 := k5)
    PySem.F.excBase_ValueError (mN := mN) (T.hasType PySem.F.excBase_ValueError.hasBase) (I.ok.hd hc) (by rw [he]; show (false || (backTo cpos (starEach es X.env)).any (·.1)) = false; rw [hpl]; rfl) hni (ld_glob I hg hm ⟨rfl, ?_⟩ hdb)
  have h1 := ha cpos pins s σ H _ I h
  rw [he] at h1 ⊢
  refine Calls.evalArgs_plain (thn h1 fun us s2 ⟨vs, H2, I2, r, z, hE⟩ => ⟨rfl, by rw [← r.length]; exact z, I2.bk _ _ hC, hN.keeps I2.bk, T.keeps I2.bk, fun h' ea M => ?_⟩)
  exact hR pins σ H2 s2 ea (.ref C) us h' I2 M hE
end L2
set_option Elab.async false
set_option linter.all false
set_option maxRecDepth 100000
set_option maxHeartbeats 4000000
namespace L2
open PySem PySem.Spec PyProof.Rows
section
variable {X : Cx} {pins : List (Addr × Obj)} {σ : St} {H : Hp} {s : Shared}
end
section
variable {X : Cx} {pins pins' pn : List (Addr × Obj)} {σ : St} {H : Hp} {s : Shared} {E : Value -> Shared -> Prop} {ea : Addr}
end
end L2
set_option Elab.async false
set_option linter.all false
set_option maxRecDepth 100000
set_option maxHeartbeats 4000000
namespace L2
open PySem PySem.Spec PyProof.Rows
section
variable {X : Cx}
end
section
open PySem.W PySem.Calls Builtin Builtin.ObjectAttr Builtin.Getset_descriptor
variable {prog : Program} {w : World} {A : Around} {E : Value -> Shared -> Prop} {s : Shared} {K : Frag} {x C : Addr}
end
end L2
set_option Elab.async false
set_option linter.all false
set_option maxRecDepth 100000
set_option maxHeartbeats 4000000
namespace L2
open PySem PySem.Spec PyProof.Rows
def clStep (env : Env) (x : Str × NameKind) (cs : List (Str × Addr)) : Sem (ForInStep (List (Str × Addr))) :=
  if (x.2 == NameKind.free) = true then (cellOf env x.1 >>= fun a => pure (ForInStep.yield ((x.1, a) :: cs))) else pure (ForInStep.yield cs)
theorem closureFor_go {env : Env} : ∀ (names : List (Str × NameKind)) (cs : List (Str × Addr)), (∀ x ∈ names, x.2 = .free -> ∃ c, env.cells.lookup x.1 = some c) ->
    ∃ cl : List (Str × Addr), (forIn names cs (clStep env) : Sem (List (Str × Addr))) = pure cl /\
      (∀ y c, cl.lookup y = some c -> cs.lookup y = some c ∨ env.cells.lookup y = some c) /\ (∀ y, (∃ c, cs.lookup y = some c) -> ∃ c, cl.lookup y = some c) /\ ∀ x ∈ names, x.2 = .free -> ∃ c, cl.lookup x.1 = some c
  | [], cs, _ => ⟨cs, rfl, fun _ _ h => .inl h, fun _ h => h, fun _ h => nomatch h⟩
  | (n, k) :: r, cs, h => by
    by_cases hk : k = .free
    · subst hk
      obtain ⟨c, hc⟩ := h (n, .free) List.mem_cons_self rfl
      obtain ⟨cl, e, a, b, d⟩ := closureFor_go r ((n, c) :: cs) fun x hx => h x (List.mem_cons_of_mem _ hx)
      refine ⟨cl, ?_, fun y c' hy => ?_, fun y ⟨c', hy⟩ => ?_, fun x hx hf => ?_⟩
      · rw [List.forIn_cons]
        have e1 : cellOf env n = pure c := by unfold cellOf; rw [hc]
        have e2 : clStep env (n, .free) cs = pure (ForInStep.yield ((n, c) :: cs)) := by
          show (cellOf env n >>= fun a => pure (ForInStep.yield ((n, a) :: cs))) = _
          rw [e1]
          rfl
        rw [e2]
        exact e
      · rcases a y c' hy with z | z
        · rw [List.lookup_cons] at z
          split at z
          · rename_i q
            have : y = n := by simpa using q
            subst this
            cases z
            exact .inr hc
          · exact .inl z
        · exact .inr z
      · refine b y ?_
        rw [List.lookup_cons]
        split
        · exact ⟨_, rfl⟩
        · exact ⟨c', hy⟩
      · rcases List.mem_cons.mp hx with z | z
        · subst z
          refine b n ⟨c, ?_⟩
          rw [List.lookup_cons]; simp
        · exact d x z hf
    · have hb : (k == NameKind.free) = false := by simpa using hk
      obtain ⟨cl, e, a, b, d⟩ := closureFor_go r cs fun x hx => h x (List.mem_cons_of_mem _ hx)
      refine ⟨cl, ?_, a, b, fun x hx hf => ?_⟩
      · rw [List.forIn_cons]
        have e2 : clStep env (n, k) cs = pure (ForInStep.yield cs) := by
          unfold clStep
          rw [if_neg (by rw [hb]; decide)]
        rw [e2]
        exact e
      · rcases List.mem_cons.mp hx with z | z
        · subst z; exact absurd hf hk
        · exact d x z hf
theorem closureFor_of {scope : Scope} {env : Env} (h : ∀ x ∈ scope.names, x.2 = .free -> ∃ c, env.cells.lookup x.1 = some c) :
    ∃ cl, closureFor scope env = pure cl /\ (∀ y c, cl.lookup y = some c -> env.cells.lookup y = some c) /\ ∀ x ∈ scope.names, x.2 = .free -> ∃ c, cl.lookup x.1 = some c := by
  obtain ⟨cl, e, a, _, d⟩ := closureFor_go scope.names [] h
  refine ⟨cl, ?_, fun y c hy => ?_, d⟩
  · have e0 : closureFor scope env = (forIn scope.names [] (clStep env) >>= fun cs => pure cs) := by
      unfold closureFor
      congr 1
    rw [e0, e]
    rfl
  · rcases a y c hy with z | z
    · cases z
    · exact z
section
variable {prog : Program} {w : World} {A : Around} {R : Result -> Shared -> Prop} {s : Shared}
theorem compLoop_gen {elt target iter : Expr} {ifs : List Expr} {scope : Scope} {pos : Pos} {it acc : Value} {env : Env} (I : Nat -> Shared -> Prop)
    (turn : ∀ n s, I n s -> wpAny (model prog w) A (pyNext it) (fun r s₁ => match r with
      | none => R (.ok .next) s₁
      | some v => wpAny (model prog w) A (letOwnedTupleGo target it v) (fun _ s₁' => wpAny (model prog w) A (assign target env v) (fun _ s₂ =>
          wpAny (model prog w) A (forIn ifs true fun c r => if r = true then do let ok ← isTrue c env (eval c env); pure (ForInStep.yield ok) else pure (ForInStep.yield r)) (fun ok s₃ =>
            if ok = true then wpAny (model prog w) A (eval elt env) (fun x s₄ =>
              wpAny (model prog w) A (call (.builtin "list.append") [acc, x]) (fun _ s₅ => ∃ m, m < n /\ I m s₅) (notedBy (model prog w) A env fun e s' => R (.error e) s') s₄) (notedBy (model prog w) A env fun e s' => R (.error e) s') s₃
            else ∃ m, m < n /\ I m s₃) (notedBy (model prog w) A env fun e s' => R (.error e) s') s₂) (notedBy (model prog w) A env fun e s' => R (.error e) s') s₁') (notedBy (model prog w) A env fun e s' => R (.error e) s') s₁) (notedBy (model prog w) A env fun e s' => R (.error e) s') s)
    (n : Nat) (h : I n s) :
    codeAny (model prog w) A (.compLoop (.ListComp elt [⟨target, iter, ifs, 0⟩] scope pos) 0 it acc env) R s := by
  refine codeAny_loop rfl I (fun n s hI => ?_) n h
  show wpAny _ A ((compTurn (.ListComp elt [⟨target, iter, ifs, 0⟩] scope pos) 0 it acc env).onRaise (fun x => do noteFrame x env; theTreesLotGoes x)) _ _ s
  refine wpAny_noted ?_
  rw [compTurn_list]
  refine wpAny_bind (wpAny_standAt (wpAny_bind (wpAny_mono (turn n s hI) (fun r s₁ h₁ => ?_) fun _ _ h' => h')))
  cases r with
  | none => exact wpAny_pure h₁
  | some v =>
    refine wpAny_bind (wpAny_mono h₁ (fun _ s₁' h₁' => ?_) fun _ _ h' => h')
    refine wpAny_bind (wpAny_mono h₁' (fun _ s₂ h₂ => wpAny_bind (wpAny_mono h₂ (fun ok s₃ h₃ => ?_) fun _ _ h' => h')) fun _ _ h' => h')
    cases ok with
    | false => exact wpAny_pure ⟨rfl, h₃⟩
    | true =>
      exact wpAny_bind (wpAny_bind (wpAny_mono h₃ (fun x s₄ h₄ => wpAny_bind (wpAny_mono h₄ (fun _ s₅ h₅ => wpAny_pure (wpAny_pure ⟨rfl, h₅⟩)) fun _ _ h' => h')) fun _ _ h' => h'))
end
def PIf (X : Cx) (ifs : List Expr) (t : TT) : Prop :=
  ∀ (pins : List (Addr × Obj)) (s : Shared) (σ : St) (H : Hp) (Q : Bool -> Hp -> Prop), Inv X pins σ H s -> t σ H Q ->
    wpAny (model X.prog X.w) X.A (forIn ifs true fun c r => if r = true then do let ok ← isTrue c X.env (eval c X.env); pure (ForInStep.yield ok) else pure (ForInStep.yield r)) (TP X pins σ Q) X.xe s
def tYes : TT := fun _ H Q => Q true H
theorem pif_nil {X : Cx} : PIf X [] tYes := fun _ _ _ H _ I h => wpAny_tests_nil ⟨H, I, h⟩
theorem pif_one {X : Cx} {c : Expr} {t : TT} (h : PT X c t) : PIf X [c] t := fun pins s σ H Q I hq => wpAny_tests_one (h pins s σ H Q I hq)
def cxComp (X : Cx) (N : List Str) (scope : Scope) (cl : List (Str × Addr)) (C : Addr) (s : Shared) (H : Hp) (fp : List Addr) (pins : List (Addr × Obj)) : Cx :=
  { X with N := N, s₀ := s, H₀ := H, env := compEnvC scope cl C X.env, outer := X.stack, ex := fp, fn := fun _ => false, pn := X.pn ++ pins, xe := fun _ _ => False }
theorem relabel_lookup {env : Env} : ∀ {names : List (Str × NameKind)} {x : Str} {k : NameKind}, (∀ y ∈ names, y.2 ≠ .cell) -> (k = .cell ∨ k = .free) ->
    (names.map fun (n, k) => if (k == NameKind.free && env.scope.kind == .function && env.kindOf n == some .cell) then (n, NameKind.cell) else (n, k)).lookup x = some k -> names.lookup x = some .free
  | [], _, _, _, _, h => by cases h
  | (n, k') :: r, x, k, hc, hk, h => by
    have ih := @relabel_lookup env r x k (fun y hy => hc y (List.mem_cons_of_mem _ hy)) hk
    have h' : List.lookup x ((if (k' == NameKind.free && env.scope.kind == .function && env.kindOf n == some .cell) = true then (n, NameKind.cell) else (n, k')) :: (r.map fun (n, k) => if (k == NameKind.free && env.scope.kind == .function && env.kindOf n == some .cell) then (n, NameKind.cell) else (n, k))) = some k := h
    rw [List.lookup_cons]
    by_cases hx : (x == n) = true
    · rw [hx]
      by_cases c : (k' == NameKind.free && env.scope.kind == .function && env.kindOf n == some .cell) = true
      · simp only [Bool.and_eq_true, beq_iff_eq] at c
        rw [c.1.1]
      · rw [if_neg c, List.lookup_cons, hx] at h'
        have e : k' = k := Option.some.inj h'
        subst e
        rcases hk with z | z
        · exact absurd z (hc (n, k') List.mem_cons_self)
        · rw [z]
    · have hx' : (x == n) = false := by simpa using hx
      rw [hx']
      refine ih ?_
      by_cases c : (k' == NameKind.free && env.scope.kind == .function && env.kindOf n == some .cell) = true
      · rw [if_pos c, List.lookup_cons, hx'] at h'
        exact h'
      · rw [if_neg c, List.lookup_cons, hx'] at h'
        exact h'
theorem relabel_free {env : Env} : ∀ {names : List (Str × NameKind)} {x : Str}, names.lookup x = some .free ->
    (names.map fun (n, k) => if (k == NameKind.free && env.scope.kind == .function && env.kindOf n == some .cell) then (n, NameKind.cell) else (n, k)).lookup x = some .cell ∨
    (names.map fun (n, k) => if (k == NameKind.free && env.scope.kind == .function && env.kindOf n == some .cell) then (n, NameKind.cell) else (n, k)).lookup x = some .free
  | [], _, h => by cases h
  | (n, k') :: r, x, h => by
    have ih := @relabel_free env r x
    show List.lookup x ((if (k' == NameKind.free && env.scope.kind == .function && env.kindOf n == some .cell) = true then (n, NameKind.cell) else (n, k')) :: _) = _ ∨ List.lookup x ((if (k' == NameKind.free && env.scope.kind == .function && env.kindOf n == some .cell) = true then (n, NameKind.cell) else (n, k')) :: _) = _
    rw [List.lookup_cons] at h
    by_cases hx : (x == n) = true
    · rw [hx] at h
      have e : k' = .free := Option.some.inj h
      subst e
      by_cases c : (NameKind.free == NameKind.free && env.scope.kind == .function && env.kindOf n == some .cell) = true
      · rw [if_pos c]; simp only [List.lookup_cons, hx]; exact .inl trivial
      · rw [if_neg c]; simp only [List.lookup_cons, hx]; exact .inr trivial
    · have hx' : (x == n) = false := by simpa using hx
      rw [hx'] at h
      by_cases c : (k' == NameKind.free && env.scope.kind == .function && env.kindOf n == some .cell) = true
      · rw [if_pos c]; simp only [List.lookup_cons, hx']; exact ih h
      · rw [if_neg c]; simp only [List.lookup_cons, hx']; exact ih h
def tComp (wi : TI) (σ0 : St -> St) (g : TG) (ti : TT) (te : TE) : TE := fun σ H Q => wi σ H fun J H1 => ∀ D, H1 D = none -> ∃ W : Nat -> Nat -> St -> Hp -> Prop, (∃ m, W 0 m (σ0 σ) (upd H1 D (.lst []))) /\ ∀ i m σ' H', W i m σ' H' ->
  (J.stop i H' /\ Q (.ref D) H') ∨ (J.go i H' /\ ∀ x H2, J.yld i H' x H2 -> g x σ' H2 fun σ2 H3 => ti σ2 H3 fun b H4 => if b = true then te σ2 H4 fun y H5 => ∃ ys, H5 D = some (.lst ys) /\ ys.length < sizeLine /\ ∃ m', m' < m /\ W (i + 1) m' σ2 (upd H5 D (.lst (ys ++ [y])))
    else ∃ m', m' < m /\ W (i + 1) m' σ2 H4)
structure Frees (X : Cx) (scope : Scope) (N : List Str) (σ0 : St -> St) : Prop where
  len : ∀ σ, (σ0 σ).length = N.length
  at_ : ∀ (σ : St) (i : Nat) (y : Str) (v : V), N[i]? = some y -> (σ0 σ)[i]? = some (some v) -> scope.names.lookup y = some .free /\ ∃ j : Nat, X.N[j]? = some y /\ σ[j]? = some (some v)
theorem pe_comp {X : Cx} {elt tg iter : Expr} {ifs : List Expr} {scope : Scope} {pos : Pos} {N : List Str} {σ0 : St -> St} {wi : TI} {g : TG} {ti : TT} {te : TE}
    (hc : X.calm = true) (hF : Frees X scope N σ0) (hvis : ∀ y ∈ scope.names, y.2 = .free -> X.env.kindOf y.1 = some .cell ∨ X.env.kindOf y.1 = some .free)
    (hcell : ∀ y ∈ scope.names, y.2 ≠ .cell) (hkind : scope.kind = .function) (hnames : ∀ y ∈ scope.names, y.2 = .local -> scope.names.lookup y.1 = some .local) (hfl : ∀ y, scope.names.lookup y = some .free -> (y, NameKind.free) ∈ scope.names)
    (hi : PI X tg iter wi) (hg : ∀ cl C s H fp pins, PG (cxComp X N scope cl C s H fp pins) tg g) (ht : ∀ cl C s H fp pins, PIf (cxComp X N scope cl C s H fp pins) ifs ti) (he : ∀ cl C s H fp pins, PE (cxComp X N scope cl C s H fp pins) elt te)
    (hs : ∀ x, foldedSetIterable iter X.env x = pure x := by intro _; rfl) : PE X (.ListComp elt [⟨tg, iter, ifs, 0⟩] scope pos) (tComp wi σ0 g ti te) := by
  intro pins s σ H Q I h
  obtain ⟨cl, hclos, hsub, hhas⟩ := closureFor_of (scope := scope) (env := X.env) fun y hy hf => I.ok.has y.1 (hvis y hy hf)
  rw [eval_ListComp]
  refine wpAny_comprehension_free (use := none) rfl hs hclos hkind hnames (thn (hi pins s σ H _ I h) fun v s1 h1 => thn h1 fun itv s2 h2 => ?_)
  obtain ⟨it, fp, tn, J, H2, e, I2, T, st2, f2, q2⟩ := h2
  subst e
  refine wpAny_newObj_type (wpAny_newFunctionEnv hcell (by intro y hy; simp at hy) (fun h₁ hns₁ hsb₁ => ?_) hkind)
  dsimp only at hns₁ hsb₁ ⊢
  generalize hH2 : s2.heap.push { cls := .type "list", dict := none, data := .seq ([] : List Value).toArray } = G2 at hns₁ hsb₁ ⊢
  have hC : G2.objs.size = s2.heap.objs.size + 1 := by rw [← hH2, Heap.size_push]
  have hDC : s2.heap.objs.size ≠ G2.objs.size := by rw [hC]; exact Nat.ne_of_lt (Nat.lt_succ_self _)
  have below : ∀ b, b < s2.heap.objs.size -> b ≠ G2.objs.size /\ b ≠ s2.heap.objs.size := fun b hb => ⟨by rw [hC]; exact Nat.ne_of_lt (Nat.lt_succ_of_lt hb), Nat.ne_of_lt hb⟩
  have old : ∀ b o, s2.heap.get? b = some o -> h₁.get? b = some o := fun b o e => hsb₁.extBut b o (below b (Heap.lt_size e)).1 (Heap.get?_push_of_some _ (hH2 ▸ Heap.get?_push_of_some _ e))
  have hD : h₁.get? s2.heap.objs.size = some { cls := .type "list", dict := none, data := .seq ([] : List Value).toArray } := hsb₁.extBut _ _ hDC (Heap.get?_push_of_some _ (hH2 ▸ Heap.get?_push_size _ rfl))
  have nD : H2 s2.heap.objs.size = none := I2.hok.fresh (Nat.le_refl _)
  have nC : H2 G2.objs.size = none := I2.hok.fresh (by rw [hC]; exact Nat.le_succ _)
  have fpl : ∀ b ∈ fp, b < s2.heap.objs.size := fun b hb => by
    obtain ⟨o, e, _⟩ := T.obj _ _ st2 b hb
    exact Heap.lt_size e
  have cells : ∀ y c, cl.lookup y = some c -> ∃ v, s2.heap.IsCell c v := fun y c e => I2.cell y c (hsub y c e)
  have cellLt : ∀ y c, cl.lookup y = some c -> c < s2.heap.objs.size := fun y c e => by
    obtain ⟨v, o, ho, _⟩ := cells y c e
    exact Heap.lt_size ho
  have stkNo : ∀ b, b ≠ X.env.locals -> b ∉ X.fs -> b ∉ frs X.stack := fun b n1 n2 z => by
    rcases List.mem_cons.mp (I2.stkSub b z) with r | r
    · exact n1 r
    · exact n2 r
  obtain ⟨W, ⟨m0, w0⟩, turn⟩ := q2 s2.heap.objs.size nD
  have ok : (cxComp X N scope cl G2.objs.size s2 H2 fp pins).Ok := by
    refine ⟨I2.ok.mod, hkind, I2.ok.glob, I2.ok.blt, (by show s2.heap.objs.size <= G2.objs.size; rw [hC]; exact Nat.le_succ _), fun x y c a b => I2.ok.inj x y c (hsub x c a) (hsub y c b), fun x hx => ?_, fun x c a => (nomatch a), I2.ok.hd, I2.ok.frames, .inl rfl, fun b hb => ⟨(below b (fpl b hb)).1, fun x c e => ?_⟩, I2.bs, Nat.le_trans I2.ok.bsz I2.sz, fun b o e hb => ?_, fun b hb => stkNo b (f2 b hb).2.1 (f2 b hb).2.2.1, I2.stack, I2.stkFree⟩
    · have hx' : scope.names.lookup x = some .free := by
        rcases hx with z | z
        · exact relabel_lookup hcell (.inl rfl) z
        · exact relabel_lookup hcell (.inr rfl) z
      exact hhas _ (hfl x hx') rfl
    · exact (f2 b hb).2.2.2.2.1 x c (hsub x c e)
    · rcases (f2 b hb).2.2.2.1 with z | z
      · exact I2.ok.noex b o e z
      · exact absurd (Nat.lt_of_lt_of_le (Heap.lt_size e) (Nat.le_trans I2.ok.bsz z)) (Nat.lt_irrefl _)
  have inv0 : Inv (cxComp X N scope cl G2.objs.size s2 H2 fp pins) [] (σ0 σ) (upd H2 s2.heap.objs.size (.lst [])) { s2 with heap := h₁, toks := s2.toks + ([] : List (Str × Value)).length } := by
    refine ⟨ok, rfl, I2.bare, Un.laid old (Nat.le_refl _) nD, ⟨_, hns₁, fun i y v e1 e2 e3 => ?_⟩, fun y c e => ?_, ?_, fun y c e => ?_, fun p hp => ?_, ?_, hF.len σ⟩
    · obtain ⟨hfr, j, hj, hv⟩ := hF.at_ σ i y v e1 e2
      have hk := hvis _ (hfl y hfr) rfl
      obtain ⟨m, hn, hl⟩ := I2.loc
      obtain ⟨u, r, l⟩ := hl j y v hj hv (.inr (hk.elim .inl .inr))
      refine ⟨u, r, .inr ⟨relabel_free hfr, ?_⟩⟩
      rcases l with ⟨k1, _⟩ | ⟨_, c, hc, hcell⟩
      · rcases hk with z | z
        · rw [k1] at z; cases z
        · rw [k1] at z; cases z
      · obtain ⟨c', hc'⟩ := hhas _ (hfl y hfr) rfl
        have : c' = c := Option.some.inj ((hsub _ _ hc').symm.trans hc)
        subst this
        refine ⟨c', hc', ?_⟩
        obtain ⟨o, ho, hd⟩ := hcell
        exact ⟨o, old _ _ ho, hd⟩
    · obtain ⟨v, o, ho, hd⟩ := cells y c e
      exact ⟨v, o, old _ _ ho, hd⟩
    · show upd H2 s2.heap.objs.size (.lst []) G2.objs.size = none
      rw [upd_ne (Ne.symm hDC)]; exact nC
    · show upd H2 s2.heap.objs.size (.lst []) c = none
      rw [upd_ne (below c (cellLt y c e)).2]; exact I2.freeC y c (hsub y c e)
    · have hp' : p ∈ X.pn ++ pins := by simpa [cxComp] using hp
      obtain ⟨e, n, ne, nf, d⟩ := I2.pin p hp'
      refine ⟨old _ _ e, ?_, (below _ (Heap.lt_size e)).1, stkNo _ ne nf, d⟩
      rw [upd_ne (below _ (Heap.lt_size e)).2]; exact n
    · exact I2.hok.laid old (Nat.le_refl _) ⟨Nat.zero_le _, [], 0, .nil, hD⟩
  have tn0 : tn 0 h₁ := T.keep 0 _ _ st2 fun b _ o e => old b o e
  have stat : ∀ {H' : Hp}, (∀ b ∈ fp, H' b = none) -> ∀ b ∈ fp, FpOk (cxComp X N scope cl G2.objs.size s2 H2 fp pins) [] H' b := fun hn b hb =>
    ⟨hn b hb, (below b (fpl b hb)).1, stkNo b (f2 b hb).2.1 (f2 b hb).2.2.1, .inl hb, fun x c e => (f2 b hb).2.2.2.2.1 x c (hsub x c e), fun p hp => (f2 b hb).2.2.2.2.2 p (by simpa [cxComp] using hp)⟩
  have loop : codeAny (model X.prog X.w) X.A (.compLoop (.ListComp elt [⟨tg, iter, ifs, 0⟩] scope pos) 0 (.ref it) (.ref s2.heap.objs.size) (compEnvC scope cl G2.objs.size X.env))
      (compPost (model X.prog X.w) X.A X.xe none (EP X pins σ Q) (.ref s2.heap.objs.size) G2.objs.size) { s2 with heap := h₁, toks := s2.toks + ([] : List (Str × Value)).length } := by
    refine compLoop_gen (fun n s' => ∃ i σ' H', Inv (cxComp X N scope cl G2.objs.size s2 H2 fp pins) [] σ' H' s' /\ tn i s'.heap /\ (∀ b ∈ fp, H' b = none) /\ W i n σ' H') ?_ m0
      ⟨0, σ0 σ, _, inv0, tn0, fun b hb => by rw [upd_ne (below b (fpl b hb)).2]; exact (f2 b hb).1, w0⟩
    rintro n s3 ⟨i, σ3, H3, I3, st3, fr3, w3⟩
    have no : ∀ {α : Type} {t : Sem α} {Q' : α -> Shared -> Prop} {E' : Value -> Shared -> Prop} {s' : Shared}, wpAny (model X.prog X.w) X.A t Q' (fun _ _ => False) s' -> wpAny (model X.prog X.w) X.A t Q' E' s' := fun h => wpAny_mono h (fun _ _ z => z) fun _ _ z => False.elim z
    rcases turn i n σ3 H3 w3 with ⟨stop, qn⟩ | ⟨go, step⟩
    · refine no (thn (T.done (cxComp X N scope cl G2.objs.size s2 H2 fp pins) rfl rfl rfl hc i [] s3 σ3 H3 _ I3 (stat fr3) st3 stop) fun r s4 ⟨hr, I4⟩ => ?_)
      subst hr
      obtain ⟨m, hn, _⟩ := I4.loc
      refine ⟨m, hn, fun h' hs' => ?_⟩
      have u : Un (frs X.stack) fp H2 H3 s2.heap h' := by
        have b0 : Un (frs X.stack) fp H2 H3 s2.heap s4.heap := I4.base
        have neC : ∀ b o, s2.heap.get? b = some o -> b ≠ G2.objs.size := fun b o e => (below b (Heap.lt_size e)).1
        exact ⟨fun b o e n hb hx => (hs'.2 b (neC b o e)).trans (b0.keep b o e n hb hx), fun b o e n hb hx => by
          obtain ⟨sl, z⟩ := b0.slot b o e n hb hx
          exact ⟨sl, (hs'.2 b (neC b o e)).trans z⟩, b0.free, fun b o e hx => by
          obtain ⟨o', z⟩ := b0.there b o e hx
          exact ⟨o', (hs'.2 b (neC b o e)).trans z⟩, b0.tups, b0.frzs, b0.tbls⟩
      have hfreeC : H3 G2.objs.size = none := I4.free
      have hk : HOk X.prog X.w H3 h' := fun b ob e => by
        refine (I4.hok b ob e).stay (fun c w' hc q => (hs'.2 c ?_).trans q) (fun _ q => q) fun _ _ q => q
        rintro rfl
        rcases hc with z | z
        · rw [← z, hfreeC] at e; cases e
        · rw [hfreeC] at z; cases z
      have hos : s4.os = s2.os := I4.os
      have J4 : Inv X pins σ H3 { s4 with heap := h' } := I2.call' (s' := { s4 with heap := h' }) (ch := fp) hos u hk I4.bare fun b hb => ⟨(f2 b hb).2.2.2.1, (f2 b hb).2.1, (f2 b hb).2.2.2.2.1, (f2 b hb).2.2.2.2.2⟩
      exact ⟨.ref s2.heap.objs.size, H3, J4, rfl, qn⟩
    · refine no (thn (T.item (cxComp X N scope cl G2.objs.size s2 H2 fp pins) rfl rfl rfl hc i [] s3 σ3 H3 _ I3 (stat fr3) st3 go) fun r s4 ⟨u, hr, h4⟩ => ?_)
      subst hr
      refine no (thn h4 fun _ s5 ⟨x, H5, I5, r5, y5, st5, fr5⟩ => ?_)
      have I5' := I5.pinned (stat fr5) (T.obj _ _ st5)
      have again : ∀ {s7 : Shared} {σ7 : St} {H7 : Hp} {m' : Nat}, Inv (cxComp X N scope cl G2.objs.size s2 H2 fp pins) ([] ++ pinsAt fp s5.heap) σ7 H7 s7 -> m' < n -> W (i + 1) m' σ7 H7 -> ∃ m, m < n /\ ∃ i σ' H', Inv (cxComp X N scope cl G2.objs.size s2 H2 fp pins) [] σ' H' s7 /\ tn i s7.heap /\ (∀ b ∈ fp, H' b = none) /\ W i m σ' H' := fun {s7 σ7 H7 m'} I7 hm w7 => by
        refine ⟨m', hm, i + 1, σ7, H7, I7.unpinned, T.keep _ _ _ st5 fun b hb o e => (I7.pin (b, o) (List.mem_append_right _ (List.mem_append_right _ (mem_pinsAt hb e)))).1, fun b hb => ?_, w7⟩
        obtain ⟨o, e, d⟩ := T.obj _ _ st5 b hb
        exact (I7.pin (b, o) (List.mem_append_right _ (List.mem_append_right _ (mem_pinsAt hb e)))).2.1
      refine no (thn (hg cl G2.objs.size s2 H2 fp pins _ s5 σ3 H5 x u _ I5' r5 (step x H5 y5)) fun _ s6 ⟨σ6, H6, I6, q6⟩ => ?_)
      refine no (thn (ht cl G2.objs.size s2 H2 fp pins _ s6 σ6 H6 _ I6 q6) fun b s7 ⟨H7, I7, q7⟩ => ?_)
      cases b with
      | false =>
        rw [if_neg (by decide)] at q7
        obtain ⟨m', hm, w7⟩ := q7
        exact again I7 hm w7
      | true =>
        rw [if_pos rfl] at q7
        refine no (thn (he cl G2.objs.size s2 H2 fp pins _ s7 σ6 H7 _ I7 q7) fun yv s8 ⟨y, H8, I8, r8, ys, hys, hz, m', hm, w8⟩ => ?_)
        refine no (thn (mt_append (X := cxComp X N scope cl G2.objs.size s2 H2 fp pins) _ s8 σ6 H8 (.ref s2.heap.objs.size) [y] _ [yv] (fun _ H9 => H9 = upd H8 s2.heap.objs.size (.lst (ys ++ [y]))) I8 rfl (.cons r8 .nil) ⟨_, ys, y, rfl, rfl, hys, hz, rfl⟩) fun _ s9 ⟨_, H9, I9, _, q9⟩ => ?_)
        subst q9
        exact again I9 hm w8
  exact codeAny_compStart_list loop (T.self X.A 0 _ _ _ tn0 loop)
end L2
set_option Elab.async false
set_option linter.all false
set_option maxRecDepth 100000
set_option maxHeartbeats 4000000
namespace L2
open PySem PySem.Spec PyProof.Rows
section
variable {X : Cx}
theorem op_fdivB : OpR X (binaryOp .FloorDiv) (rI (fun _ j => j ≠ 0 /\ j.natAbs.log2 < 9000) fun i j => .int (i.fdiv j)) := opI fun _ _ _ _ _ _ _ hc q => floordiv_int hc.1 q (.inl (PyProof.noPylong_of_log2 hc.2))
end
structure FunD (K : PySem.W.Frag) (x qual : Str) (st : Stmt) (dV : Value) (f : Addr) (fd : FuncData) : Prop where
  ex : ∃ (oc : Value) (od : Option Addr) (kV doc pm : Value) (an : Option Addr) (cdv ct : Value) (osl : Array (Option Value)),
    fd = PySem.W.fnOf x qual (defArgs st) (defBody st) (defScope st) dV kV doc pm an cdv ct /\ K.lookup f = some ⟨oc, od, .func fd, osl⟩ /\ PySem.W.codeIn K cdv qual = true
  kp : PySem.W.keepIn K (.ref f) = true
theorem FunD.okX {P : Program} {w : World} {K : PySem.W.Frag} {mg : Str -> Option Value} {base : Heap} {x qual : Str} {st : Stmt} {dV : Value} {f : Addr} {fd : FuncData} {N ps : List Str} {k : Nat} {sp : Sp} (F : FunD K x qual st dV f fd) (S : FnScope N ps (defScope st)) (len : ∀ vs H Q E, sp vs H Q E -> vs.length = ps.length)
    (hbody : ∀ (cdv : Value) (A : Around) (outer : List Env) (s : Shared) (H : Hp) (vs : List V) (Q : VK) (E : XK), Room k (A.deeper (envOfC qual (defScope st) s.heap.objs.size f cdv)) -> sp vs H Q E ->
      ∃ t, PSs (cxOf (CXF P w) P w K mg base N qual (defScope st) f cdv A outer s H E) (defBody st) t /\ t { nx := fun _ H' => Q .non H', rt := Q } (start N vs) H) : FnOk P w K mg base (CXF P w) (k + 1) f fd ps sp := by
  obtain ⟨oc, od, kV, doc, pm, an, cdv, ct, osl, rfl, lk, hcd⟩ := F.ex
  exact fn_of lk hcd S len fun A outer s H vs Q E hr hsp => hbody cdv A outer s H vs Q E hr hsp
theorem funD_mk {K : PySem.W.Frag} {x qual : Str} {st : Stmt} {dV : Value} {f : Addr} {oc : Value} {od an : Option Addr} {osl : Array (Option Value)} {kV doc pm cdv ct : Value} (l : K.lookup f = some ⟨oc, od, .func (PySem.W.fnOf x qual (defArgs st) (defBody st) (defScope st) dV kV doc pm an cdv ct), osl⟩)
    (c : PySem.W.codeIn K cdv qual = true) (k : PySem.W.keepIn K (.ref f) = true) : FunD K x qual st dV f (PySem.W.fnOf x qual (defArgs st) (defBody st) (defScope st) dV kV doc pm an cdv ct) := ⟨⟨oc, od, kV, doc, pm, an, cdv, ct, osl, rfl, l, c⟩, k⟩
def eqVs : List V -> List V -> Bool
  | [], [] => true
  | x :: xs, y :: ys => eqV x y && eqVs xs ys
  | _, _ => false
theorem eqVs_range {xs ys : List V} : ((List.range (min xs.length ys.length)).all (fun j => eqV (xs.getD j .non) (ys.getD j .non)) && xs.length == ys.length) = eqVs xs ys := by
  induction xs generalizing ys with
  | nil =>
    cases ys with
    | nil => rfl
    | cons y ys => simp [eqVs]
  | cons x xs ih =>
    cases ys with
    | nil => simp [eqVs]
    | cons y ys =>
      have h := @ih ys
      rw [eqVs, ← h, List.length_cons, List.length_cons, Nat.succ_min_succ, List.range_succ_eq_map, List.all_cons, List.all_map]
      have e1 : (xs.length + 1 == ys.length + 1) = (xs.length == ys.length) := by simp
      rw [e1]
      have e2 : (List.range (min xs.length ys.length)).all ((fun j => eqV ((x :: xs).getD j .non) ((y :: ys).getD j .non)) ∘ Nat.succ) = (List.range (min xs.length ys.length)).all (fun j => eqV (xs.getD j .non) (ys.getD j .non)) := rfl
      rw [e2, Bool.and_assoc]
      rfl
theorem op_eqTF {X : Cx} (hu : X.A.units < cLine) : OpR X (compareOp .Eq) (fun x y H Q => ∃ p q xs ys, x = .ref p /\ y = .ref q /\ SqT X.K H p xs /\ SqT X.K H q ys /\ xs.all flatV = true /\ ys.all flatV = true /\ Q (.bl (eqVs xs ys)) H) := by
  intro pins s σ H x y v u Q I rx ry h
  obtain ⟨p, q, xs, ys, rfl, rfl, hx, hy, fx, fy, hq⟩ := h
  cases rx
  cases ry
  obtain ⟨its, r, pl, hz⟩ := I.tuple hx
  obtain ⟨its2, r2, pl2, hz2⟩ := I.tuple hy
  refine SeqAt.eq_tupleAt (e := fun j => eqV (xs.getD j .non) (ys.getD j .non)) (show s.heap.IsTuple p its.toArray from pl) (show s.heap.IsTuple q its2.toArray from pl2) hu (fun j h1 h2 => ?_) ?_
  · have j1 : j < xs.length := by rw [r.length]; simpa using h1
    have j2 : j < ys.length := by rw [r2.length]; simpa using h2
    obtain ⟨u1, e1, q1⟩ := r.get (i := j) (x := xs[j]) (by simp [j1])
    obtain ⟨u2, e2, q2⟩ := r2.get (i := j) (x := ys[j]) (by simp [j2])
    have z1 : its.toArray[j] = u1 := by
      have := e1
      rw [List.getElem?_eq_getElem (by simpa using h1)] at this
      simpa using Option.some.inj this
    have z2 : its2.toArray[j] = u2 := by
      have := e2
      rw [List.getElem?_eq_getElem (by simpa using h2)] at this
      simpa using Option.some.inj this
    have g1 : xs.getD j .non = xs[j] := by simp [List.getD, j1]
    have g2 : ys.getD j .non = ys[j] := by simp [List.getD, j2]
    rw [z1, z2, g1, g2]
    exact eqAt_V q1 q2 (List.all_eq_true.mp fx _ (List.getElem_mem j1)) (List.all_eq_true.mp fy _ (List.getElem_mem j2))
  · rw [List.size_toArray, List.size_toArray, ← r.length, ← r2.length, eqVs_range]
    exact ⟨.bl _, H, I, rfl, hq⟩
theorem bt_isinstance : bootBuiltins "isinstance" = some (.builtin "isinstance") := by decide +kernel
theorem bt_len : bootBuiltins "len" = some (.builtin "len") := by decide +kernel
theorem bt_abs : bootBuiltins "abs" = some (.builtin "abs") := by decide +kernel
theorem bt_max : bootBuiltins "max" = some (.builtin "max") := by decide +kernel
theorem bt_int : bootBuiltins "int" = some (.type "int") := by decide +kernel
theorem bt_bool : bootBuiltins "bool" = some (.type "bool") := by decide +kernel
theorem bt_tuple : bootBuiltins "tuple" = some (.type "tuple") := by decide +kernel
theorem bt_str : bootBuiltins "str" = some (.type "str") := by decide +kernel
theorem bt_list : bootBuiltins "list" = some (.type "list") := by decide +kernel
theorem bt_enumerate : bootBuiltins "enumerate" = some (.type "enumerate") := by decide +kernel
theorem iteY {c : Bool} {A B : Prop} (h : c = true) (a : A) : if c = true then A else B := by rw [if_pos h]; exact a
theorem iteN {c : Bool} {A B : Prop} (h : c = false) (b : B) : if c = true then A else B := by rw [if_neg (by rw [h]; decide)]; exact b
theorem dI {a b : Int} : decide (V.int a = V.int b) = decide (a = b) := by
  by_cases g : a = b
  · rw [g, decide_eq_true rfl, decide_eq_true rfl]
  · rw [decide_eq_false g, decide_eq_false (fun z => g (by injection z))]
theorem eqY {a b : Int} (h : a = b) : decide (V.int a = V.int b) = true := by rw [dI]; exact decide_eq_true h
theorem eqN {a b : Int} (h : ¬ a = b) : decide (V.int a = V.int b) = false := by rw [dI]; exact decide_eq_false h
theorem neY {a b : Int} (h : ¬ a = b) : (!decide (V.int a = V.int b)) = true := by rw [eqN h]; rfl
theorem neN {a b : Int} (h : a = b) : (!decide (V.int a = V.int b)) = false := by rw [eqY h]; rfl
end L2
set_option Elab.async false
set_option linter.all false
set_option maxRecDepth 100000
set_option maxHeartbeats 4000000
namespace L2
open PySem PySem.Spec PyProof.Rows
section
variable {X : Cx} {e v v₁ v₂ : Expr} {te : TE} {pos : Pos} {es : List Expr}
theorem pe_join1 (h : PE X v te) : PE X (.JoinedStr [v] pos) te := fun pins s σ H Q I hw => JoinedStr_one (h pins s σ H Q I hw)
abbrev TJ := St -> Hp -> Str -> VK -> Prop
def PJ (X : Cx) (es : List Expr) (t : TJ) : Prop :=
  ∀ (pins : List (Addr × Obj)) (s : Shared) (σ : St) (H : Hp) (out : Str) (Q : VK), Inv X pins σ H s -> out.length <= sizeLine -> t σ H out Q -> wpAny (model X.prog X.w) X.A (joinParts out (evalEach es X.env)) (EP X pins σ Q) X.xe s
def jNil : TJ := fun _ H out Q => Q (.str out) H
def jCons (te : TE) (t : TJ) : TJ := fun σ H out Q => te σ H fun x H1 => ∃ y : Str, x = .str y /\ (out ++ y).length <= sizeLine /\ t σ H1 (out ++ y) Q
theorem pj_nil : PJ X [] jNil := fun _ s σ H out Q I hz h => joinParts_nilE (joinParts_nil ⟨.str out, H, I.tok _, ⟨_, rfl⟩, h⟩ hz)
theorem pj_cons {t : TJ} (he : PE X e te) (ht : PJ X es t) : PJ X (e :: es) (jCons te t) := by
  intro pins s σ H out Q I hz h
  refine joinParts_consE (joinParts_cons (thn (he pins s σ H _ I h) fun u s1 ⟨x, H1, I1, r1, y, ex, hl, q⟩ => ?_))
  subst ex
  obtain ⟨t', rfl⟩ := r1
  exact ⟨hl, ht pins s1 σ H1 _ Q I1 hl q⟩
theorem pe_join {t : TJ} (h : PJ X (v₁ :: v₂ :: es) t) : PE X (.JoinedStr (v₁ :: v₂ :: es) pos) (fun σ H Q => t σ H Str.empty Q) := fun pins s σ H Q I hw => JoinedStr_many (h pins s σ H Str.empty Q I (Nat.zero_le _) hw)
def rSlS : V -> Option Int -> Option Int -> Hp -> VK -> Prop := fun x lo hi H Q => ∃ z : Str, x = .str z /\ z.length <= sizeLine /\ Q (.str (Txt.slice z lo hi)) H
theorem isPart_val {v : Value} {o : Option Int} (h : IsPart v o) : ∃ p : Option (Int × Tok), v = partValue p /\ p.map (·.1) = o := by
  cases h with
  | none => exact ⟨none, rfl, rfl⟩
  | int i t => exact ⟨some (i, t), rfl, rfl⟩
theorem sl_str : SlR X rSlS := by
  intro pins s σ H x v vl vu lo hi sl Q I rx hs pl pu h
  obtain ⟨z, rfl, hz, q⟩ := h
  obtain ⟨t, rfl⟩ := rx
  obtain ⟨l, rfl, rfl⟩ := isPart_val pl
  obtain ⟨u, rfl, rfl⟩ := isPart_val pu
  refine ⟨"str", _, slot_str_getitem.lookup, typeIs_str _ _ _, wpAny_getItem_str_slice (l := l) (u := u) (st := none) hs rfl (post_val_or_str ⟨Nat.le_trans (Txt.slice_le z _ _) hz, fun t' k => ?_⟩)⟩
  exact ⟨.str _, H, I.tok _, ⟨_, rfl⟩, q⟩
end
theorem app_len (a y : Str) : (a ++ y).length = a.length + y.length := by
  show (a.cps ++ y.cps).size = a.cps.size + y.cps.size
  simp
end L2
set_option Elab.async false
set_option linter.all false
set_option maxRecDepth 100000
set_option maxHeartbeats 4000000
namespace L2
open PySem PySem.Spec PyProof.Rows
section
variable {P : Program} {w : World} {K : PySem.W.Frag} {mg : Str -> Option Value} {base : Heap}
end
section
variable {X : Cx} {k : Nat} {f : Addr} {fd : FuncData} {ps : List Str} {sp : Sp} {dvs : List V} {ds : List Value} {x : Str} {p pos : Pos} {e : Expr} {es : List Expr} {t : TA}
end
theorem FnOk.to0 {P : Program} {w : World} {K : PySem.W.Frag} {mg : Str -> Option Value} {base : Heap} {k : Nat} {f : Addr} {fd : FuncData} {ps : List Str} {sp : Sp} (F : FnOk P w K mg base (CXF P w) k f fd ps sp) : FnOk P w K mg base CX0 k f fd ps (fun vs H Q _ => sp vs H Q E0) :=
  ⟨fun vs H Q E h => F.len vs H Q E0 h, fun A outer s H args us vs Q E hr he hb hv hs => codeAny_mono (F.run A outer s H args us vs Q E0 hr he hb hv hs) fun r s' q => by
    cases r with
    | error e => obtain ⟨_, _, _, _, _, _, _, _, z⟩ := q; exact False.elim z
    | ok fl => cases fl <;> exact q⟩
theorem strsAre_of : ∀ {ys : List Str} {us : List Value}, Vals (ys.map V.str) us -> StrsAre us ys
  | [], _, .nil => .nil
  | y :: ys, _ :: us, .cons r t => by
    obtain ⟨k, rfl⟩ := r
    exact .cons _ _ (strsAre_of t)
def rJoin (K : PySem.W.Frag) : V -> List V -> Hp -> VK -> Prop := fun x vs H Q => ∃ z l ys, x = .str z /\ vs = [.ref l] /\ SqL K H l (ys.map V.str) /\ (ys.map (·.length)).sum + ys.length * z.length <= 16777216 /\ Q (.str (Txt.join z ys)) H
theorem mt_join {X : Cx} : MtR X "str.join" (rJoin X.K) := by
  intro pins s σ H x xs v us Q I rx rs h
  obtain ⟨z, l, ys, rfl, rfl, hq, hz, q⟩ := h
  obtain ⟨t, rfl⟩ := rx
  obtain ⟨u, rfl, ru⟩ := rs.one
  cases (show u = Value.ref l from ru)
  obtain ⟨its, rv, pl, _⟩ := I.list hq
  exact join_list pl.isList (strsAre_of rv) hz fun t' k => ⟨.str _, H, I.tok _, ⟨_, rfl⟩, q⟩
theorem eqVs_len {xs ys : List V} (h : xs.length = ys.length) : (List.range xs.length).all (fun j => eqV (xs.getD j .non) (ys.getD j .non)) = eqVs xs ys := by
  have e := @eqVs_range xs ys
  rw [← h, Nat.min_self, beq_self_eq_true, Bool.and_true] at e
  exact e
theorem eqVs_ne {xs ys : List V} (h : xs.length ≠ ys.length) : eqVs xs ys = false := by
  have e := @eqVs_range xs ys
  rw [← e]
  have : (xs.length == ys.length) = false := by simpa using h
  rw [this, Bool.and_false]
theorem eqAt_items {X : Cx} {A : Around} {s : Shared} {xs ys : List V} {its its2 : List Value} (r : Vals xs its) (r2 : Vals ys its2) (fx : xs.all flatV = true) (fy : ys.all flatV = true) (j : Nat) (h1 : j < its.toArray.size) (h2 : j < its2.toArray.size) :
    SeqAt.EqAt A s its.toArray[j] its2.toArray[j] (eqV (xs.getD j .non) (ys.getD j .non)) := by
  have j1 : j < xs.length := by rw [r.length]; simpa using h1
  have j2 : j < ys.length := by rw [r2.length]; simpa using h2
  obtain ⟨u1, e1, q1⟩ := r.get (i := j) (x := xs[j]) (by simp [j1])
  obtain ⟨u2, e2, q2⟩ := r2.get (i := j) (x := ys[j]) (by simp [j2])
  have z1 : its.toArray[j] = u1 := by
    have := e1
    rw [List.getElem?_eq_getElem (by simpa using h1)] at this
    simpa using Option.some.inj this
  have z2 : its2.toArray[j] = u2 := by
    have := e2
    rw [List.getElem?_eq_getElem (by simpa using h2)] at this
    simpa using Option.some.inj this
  have g1 : xs.getD j .non = xs[j] := by simp [List.getD, j1]
  have g2 : ys.getD j .non = ys[j] := by simp [List.getD, j2]
  rw [z1, z2, g1, g2]
  exact eqAt_V q1 q2 (List.all_eq_true.mp fx _ (List.getElem_mem j1)) (List.all_eq_true.mp fy _ (List.getElem_mem j2))
def rEqLF (K : PySem.W.Frag) (neg : Bool) : R2 := fun x y H Q => ∃ p q xs ys, x = .ref p /\ y = .ref q /\ SqL K H p xs /\ SqL K H q ys /\ xs.all flatV = true /\ ys.all flatV = true /\ Q (.bl (if neg then !eqVs xs ys else eqVs xs ys)) H
theorem op_eqLF {X : Cx} {K : PySem.W.Frag} (hK : X.K = K) (hu : X.A.units < cLine) : OpR X (compareOp .Eq) (rEqLF K false) := by
  subst hK
  intro pins s σ H x y v u Q I rx ry h
  obtain ⟨p, q, xs, ys, rfl, rfl, hx, hy, fx, fy, hq⟩ := h
  cases rx
  cases ry
  obtain ⟨its, r, pl, hz⟩ := I.list hx
  obtain ⟨its2, r2, pl2, hz2⟩ := I.list hy
  by_cases hl : xs.length = ys.length
  · refine SeqAt.eq_listAt (e := fun j => eqV (xs.getD j .non) (ys.getD j .non)) pl.isList pl2.isList (by rw [List.size_toArray, List.size_toArray, ← r.length, ← r2.length]; exact hl) hu (fun j h1 h2 => eqAt_items (X := X) r r2 fx fy j h1 h2) ?_
    rw [List.size_toArray, ← r.length, eqVs_len hl]
    exact ⟨.bl _, H, I, rfl, hq⟩
  · refine SeqAt.eq_list_lengthsAt pl.isList pl2.isList (by rw [List.size_toArray, List.size_toArray, ← r.length, ← r2.length]; simpa using hl) hu ?_
    rw [eqVs_ne hl] at hq
    exact ⟨.bl _, H, I, rfl, hq⟩
theorem op_neLF {X : Cx} {K : PySem.W.Frag} (hK : X.K = K) (hu : X.A.units < cLine) : OpR X (compareOp .NotEq) (rEqLF K true) := by
  subst hK
  intro pins s σ H x y v u Q I rx ry h
  obtain ⟨p, q, xs, ys, rfl, rfl, hx, hy, fx, fy, hq⟩ := h
  cases rx
  cases ry
  obtain ⟨its, r, pl, hz⟩ := I.list hx
  obtain ⟨its2, r2, pl2, hz2⟩ := I.list hy
  by_cases hl : xs.length = ys.length
  · refine SeqAt.RcNeAt.lists (e := fun j => eqV (xs.getD j .non) (ys.getD j .non)) pl.isList pl2.isList (by rw [List.size_toArray, List.size_toArray, ← r.length, ← r2.length]; exact hl) hu (fun j h1 h2 => eqAt_items (X := X) r r2 fx fy j h1 h2) _ _ _ _ ?_
    rw [List.size_toArray, ← r.length, eqVs_len hl]
    exact ⟨.bl _, H, I, rfl, hq⟩
  · refine SeqAt.RcNeAt.lists_lengths pl.isList pl2.isList (by rw [List.size_toArray, List.size_toArray, ← r.length, ← r2.length]; simpa using hl) hu _ _ _ _ ?_
    rw [eqVs_ne hl] at hq
    exact ⟨.bl _, H, I, rfl, hq⟩
end L2
set_option Elab.async false
set_option linter.all false
set_option maxRecDepth 100000
set_option maxHeartbeats 4000000
namespace L2
open PySem PySem.Spec PyProof.Rows PySem.W Builtin.Str
def Few (i : Int) : Prop := i.natAbs.log2 < 1048576
theorem few_of {ns : List Int} (h : WData.layableAll [WData.list (ns.map WData.int)] = true) : ∀ i ∈ ns, Few i := by
  intro i hi
  have h1 := layableW_arg h _ (List.mem_singleton.mpr rfl)
  have h2 := layableW_item h1 (WData.int i) (List.mem_map.mpr ⟨i, hi, rfl⟩)
  have h3 := (layableW_iff.mp h2).2.2
  unfold Few
  have e : (WData.int i).weight = if i == 0 then 0 else i.natAbs.log2 + 1 := by simp only [WData.weight]
  rw [e] at h3
  by_cases z : i = 0
  · subst z
    decide
  · have : (i == 0) = false := by simpa using z
    rw [this] at h3
    simp only [Bool.false_eq_true, if_false] at h3
    have e2 : (2 : Nat) ^ 20 = 1048576 := by decide
    omega
theorem walk_ofB {l : PySem.W.OpenLaw} {n k : Nat} {q : Program} {loose : List Str} {XP : (Str -> Option Value) -> Heap -> Prop} {YP : World -> Heap -> Prop} {d : DefRec} {K : Params -> PySem.W.Frag} {CX : World -> CXT} {sp : World -> Sp} {x : Str}
    (hn : l.most = some n) (hn2 : n <= sizeLine) (hdf : d.params.defaults = []) (hr : Room k callerA)
    (hY : ∀ (w : World) (h : Heap), YP w h -> (K w.params).In h)
    (F : ∀ (w : World) (mg : Str -> Option Value) (fa : Addr) (h : Heap), (K w.params).In h -> h.Ns mainGlobals mg -> mg d.name = some (.ref fa) ->
      ∃ fd : FuncData, (∀ (s : Shared) (u : Value), BindsTo s fd ⟨[u], []⟩ [(x, u)]) /\
        ∀ base : Heap, (K w.params).In base -> base.Ns mainGlobals mg -> FnOk l.prog w (K w.params) mg base (CX w) k fa fd [x] (sp w))
    (hsp : ∀ (w : World) (H : Hp) (a : Addr) (ns : List Int), ns.length <= n -> (∀ i ∈ ns, Few i) -> Only H -> SqL (K w.params) H a (ns.map V.int) -> sp w [.ref a] H (fun v _ => v = .bl true) fun _ _ _ => False)
    (hCX : ∀ (w : World) (H : Hp) (s : Shared) (e : Value) (s' : Shared), CX w [] H s (fun _ _ _ => False) e s' -> False) :
    PySem.W.WalkO q loose XP YP l.row.toRowW d [] (fun f vs => PySem.call f vs) := by
  intro w s₀ s₁ mg mb G Y fa o pm cd doc dV kV ho hd hcd hD hmg hg args vals as hpre hlay hrd hwl hlo
  obtain rfl : dV = .none := Dflts.none hD hdf
  obtain rfl : kV = .none := Dflts.noKw hD
  obtain ⟨a, vs, ns, rfl, rfl, hobj, hints, hlen⟩ := Att.script_of hn hpre hwl
  have few := few_of hlay
  have KX := hY w _ Y
  obtain ⟨fd, hb, hF⟩ := F w mg fa _ KX G.T.g hmg
  refine enter_call (codeAny_mono (law_call KX G.T.g G.T.b G.T.builtins G.T.nolimit hg hobj hints (Nat.le_trans hlen hn2) hr hF hb (fun H hO hS => hsp w H a ns hlen few hO hS) fun H e s' => hCX w H s₁ e s') fun r s' hq => ?_)
  obtain ⟨rfl, h2, h3, h4⟩ := hq
  exact ⟨.inl ⟨.bool true, .bool true, [], rfl, fun _ => rfl, .bool true, Att.post_true l _, fun _ => ⟨List.Pairwise.nil, fun _ hm => (nomatch hm)⟩⟩, h2, h3, h4⟩
theorem Few.lt {i : Int} (h : Few i) : i.natAbs < 2 ^ 1048576 := by
  rcases Nat.eq_zero_or_pos i.natAbs with e | p
  · rw [e]; exact Nat.two_pow_pos _
  · exact (Nat.log2_lt (Nat.ne_of_gt p)).mp h
theorem log_lt {n m : Nat} (h : n < 2 ^ m) (h0 : 0 < m) : n.log2 < m := by
  rcases Nat.eq_zero_or_pos n with e | p
  · subst e
    rw [show Nat.log2 0 = 0 by decide]
    exact h0
  · exact (Nat.log2_lt (Nat.ne_of_gt p)).mpr h
theorem bits_le {i : Int} {m : Nat} (h : i.natAbs < 2 ^ m) (h0 : 0 < m) : Builtin.Int.intBits i <= m := by
  unfold Builtin.Int.intBits
  split
  · exact Nat.zero_le _
  · have := log_lt h h0
    omega
def CMulF (i j : Int) : Prop := ∃ k : Nat, k <= 1048580 /\ i.natAbs < 2 ^ k /\ j.natAbs < 2 ^ k
theorem op_mulF {X : Cx} : OpR X (binaryOp .Mult) (rI CMulF fun i j => .int (i * j)) := opI fun i j _ _ _ _ _ hc q => mul_int q (by
  obtain ⟨k, hk, h1, h2⟩ := hc
  have a := bits_le (m := k + 1) (Nat.lt_of_lt_of_le h1 (Nat.pow_le_pow_right (by decide) (Nat.le_succ k))) (Nat.succ_pos k)
  have b := bits_le (m := k + 1) (Nat.lt_of_lt_of_le h2 (Nat.pow_le_pow_right (by decide) (Nat.le_succ k))) (Nat.succ_pos k)
  unfold IntMulOk
  have z : Builtin.Int.intTooBig (Builtin.Int.intBits i + Builtin.Int.intBits j) = false := by
    unfold Builtin.Int.intTooBig
    refine decide_eq_false ?_
    have e : ((bitsLine : Nat) : Int) = 134217728 := by decide +kernel
    rw [e]
    omega
  rw [z, Bool.and_false]
  exact Bool.false_ne_true)
theorem few_add {i c : Int} (h : Few i) (hc : c.natAbs < 10000000) : ∃ k : Nat, k <= 1048580 /\ (i + c).natAbs < 2 ^ k := by
  have a := h.lt
  have b := Int.natAbs_add_le i c
  obtain ⟨m, hm⟩ : ∃ m : Nat, m = 1048576 := ⟨_, rfl⟩
  rw [← hm] at a
  have hc : c.natAbs < 2 ^ m := Nat.lt_of_lt_of_le hc (Nat.le_trans (show 10000000 <= 2 ^ 24 by decide) (Nat.pow_le_pow_right (by decide) (by omega)))
  have e : 2 ^ m + 2 ^ m = 2 ^ (m + 1) := by rw [Nat.pow_succ, Nat.mul_two]
  exact ⟨m + 1, by omega, by omega⟩
end L2
set_option Elab.async false
set_option linter.all false
set_option maxRecDepth 100000
set_option maxHeartbeats 4000000
namespace L2
open PySem PySem.Spec PyProof.Rows
theorem noFree {X : Cx} {names : List (Str × NameKind)} (h : names.all (fun y => y.2 != .free) = true) : ∀ y ∈ names, y.2 = .free -> X.env.kindOf y.1 = some .cell ∨ X.env.kindOf y.1 = some .free := fun y hy hf => by
  have := List.all_eq_true.mp h y hy
  rw [hf] at this
  exact absurd this (by decide)
theorem visC {X : Cx} {scope : Scope} (st : Stmt) (h : ∀ y ∈ scope.names, y.2 = .free -> (defScope st).names.lookup y.1 = some .cell) (he : X.env.scope = defScope st := by rfl) : ∀ y ∈ scope.names, y.2 = .free -> X.env.kindOf y.1 = some .cell ∨ X.env.kindOf y.1 = some .free := fun y hy hf => by
  refine .inl ?_
  show X.env.scope.names.lookup y.1 = some .cell
  rw [he]
  exact h y hy hf
theorem frees_of {X : Cx} {scope : Scope} (ts : List Str) (fs : List (Str × Nat)) (N0 : List Str) (h : ∀ p ∈ fs, scope.names.lookup p.1 = some .free /\ N0[p.2]? = some p.1) (hN : X.N = N0 := by rfl) :
    Frees X scope (ts ++ fs.map (·.1)) (fun σ => ts.map (fun _ => none) ++ fs.map fun p => (σ[p.2]?).join) where
  len := fun σ => by simp
  at_ := fun σ i y v e1 e2 => by
    by_cases hi : i < ts.length
    · rw [List.getElem?_append_left (by simpa using hi), List.getElem?_map, List.getElem?_eq_getElem hi] at e2
      cases e2
    · rw [List.getElem?_append_right (by simpa using hi), List.getElem?_map] at e1 e2
      rw [List.length_map] at e2
      cases q : fs[i - ts.length]? with
      | none => rw [q] at e1; cases e1
      | some p =>
        rw [q] at e1 e2
        have e1' : p.1 = y := Option.some.inj e1
        have e2' : (σ[p.2]?).join = some v := Option.some.inj e2
        subst e1'
        obtain ⟨a, b⟩ := h p (List.mem_of_getElem? q)
        refine ⟨a, p.2, by rw [hN]; exact b, ?_⟩
        cases z : σ[p.2]? with
        | none => rw [z] at e2'; cases e2'
        | some o =>
          rw [z] at e2'
          have : o = some v := e2'
          rw [this]
theorem relab_other {env : Env} : ∀ {names : List (Str × NameKind)} {x : Str} {k : NameKind}, k ≠ .free -> names.lookup x = some k ->
    (names.map fun (n, k) => if (k == NameKind.free && env.scope.kind == .function && env.kindOf n == some .cell) then (n, NameKind.cell) else (n, k)).lookup x = some k
  | [], _, _, _, h => by cases h
  | (n, k') :: r, x, k, hk, h => by
    have ih := @relab_other env r x k hk
    show List.lookup x ((if (k' == NameKind.free && env.scope.kind == .function && env.kindOf n == some .cell) = true then (n, NameKind.cell) else (n, k')) :: _) = some k
    rw [List.lookup_cons] at h
    by_cases hx : (x == n) = true
    · rw [hx] at h
      have e : k' = k := Option.some.inj h
      subst e
      rw [if_neg, List.lookup_cons, hx]
      intro c
      simp only [Bool.and_eq_true, beq_iff_eq] at c
      exact hk c.1.1
    · have hx' : (x == n) = false := by simpa using hx
      rw [hx'] at h
      split
      · rw [List.lookup_cons, hx']; exact ih h
      · rw [List.lookup_cons, hx']; exact ih h
section
variable {X : Cx} {N : List Str} {scope : Scope} {cl : List (Str × Addr)} {C : Addr} {s : Shared} {H : Hp} {fp : List Addr} {pins : List (Addr × Obj)} {x : Str}
theorem c_loc (h : scope.names.lookup x = some .local) : (cxComp X N scope cl C s H fp pins).env.scope.names.lookup x = some .local := relab_other (by decide) h
theorem c_vloc (h : scope.names.lookup x = some .local) : Vis (cxComp X N scope cl C s H fp pins).env.scope x := .inl (c_loc h)
theorem c_free (h : scope.names.lookup x = some .free) : Vis (cxComp X N scope cl C s H fp pins).env.scope x := .inr (relabel_free h)
theorem c_gl (h : scope.names.lookup x = some .globalImplicit) : Gl (cxComp X N scope cl C s H fp pins) x := relab_other (by decide) h
end
section
variable {X : Cx} {es : List Expr} {te : TE} {t : TA}
end
end L2
set_option Elab.async false
set_option linter.all false
set_option maxRecDepth 100000
set_option maxHeartbeats 4000000
namespace L2
open PySem PySem.Spec PyProof.Rows
end L2
set_option Elab.async false
set_option linter.all false
set_option maxRecDepth 100000
set_option maxHeartbeats 4000000
namespace L2
open PySem PySem.Spec PyProof.Rows
theorem ps_setc {X : Cx} {i0 : Nat} {xn : Str} {pos' spos : Pos} {elt tg iter : Expr} {ifs : List Expr} {scope : Scope} {pos : Pos} {N : List Str} {σ0 : St -> St} {wi : TI} {g : TG} {ti : TT} {te : TE}
    (hN0 : X.N.Nodup) (hi0 : X.N[i0]? = some xn) (hx0 : X.env.scope.names.lookup xn = some .local) (hc : X.calm = true) (hF : Frees X scope N σ0) (hvis : ∀ y ∈ scope.names, y.2 = .free -> X.env.kindOf y.1 = some .cell ∨ X.env.kindOf y.1 = some .free)
    (hcell : ∀ y ∈ scope.names, y.2 ≠ .cell) (hkind : scope.kind = .function) (hnames : ∀ y ∈ scope.names, y.2 = .local -> scope.names.lookup y.1 = some .local) (hfl : ∀ y, scope.names.lookup y = some .free -> (y, NameKind.free) ∈ scope.names)
    (hi : PI X tg iter wi) (hg : ∀ cl C s H fp pins, PG (cxComp X N scope cl C s H fp pins) tg g) (ht : ∀ cl C s H fp pins, PIf (cxComp X N scope cl C s H fp pins) ifs ti) (he : ∀ cl C s H fp pins, PE (cxComp X N scope cl C s H fp pins) elt te)
    (hs : ∀ x, foldedSetIterable iter X.env x = pure x := by intro _; rfl) (hsw : swapsWith (.ListComp elt [⟨tg, iter, ifs, 0⟩] scope pos) (some (.Name xn pos')) spos.line X.env = pure true := by rfl) : PS X (.Assign [.Name xn pos'] (.ListComp elt [⟨tg, iter, ifs, 0⟩] scope pos) spos) (tAsg (tComp wi σ0 g ti te) (gName i0)) := by
  intro pins s σ H D0 I h
  have h : tComp wi σ0 g ti te σ H (fun x H1 => D0.nx (σ.set i0 (some x)) H1) := h
  rw [exec_Assign_Name_used _ _ _ _ hsw]
  refine wpAny_bind (wpAny_standAt (wpAny_bind ?_))
  show wpAny _ X.A (do let _ ← comprehension (.ListComp elt [⟨tg, iter, ifs, 0⟩] scope pos) scope X.env _ (newList []) false (eval iter X.env) (some (assign (.Name xn pos') X.env))) _ _ s
  obtain ⟨cl, hclos, hsub, hhas⟩ := closureFor_of (scope := scope) (env := X.env) fun y hy hf => I.ok.has y.1 (hvis y hy hf)
  refine wpAny_bind (wpAny_mono (wpAny_comprehension_free (use := some (assign (.Name xn pos') X.env)) (Q := fun _ s' => SP X pins D0 .next s') rfl hs hclos hkind hnames (thn (hi pins s σ H _ I h) fun v s1 h1 => thn h1 fun itv s2 h2 => ?_)) (fun _ s' hq => wpAny_pure (wpAny_pure hq)) fun _ _ e => e)
  obtain ⟨it, fp, tn, J, H2, e, I2, T, st2, f2, q2⟩ := h2
  subst e
  refine wpAny_newObj_type (wpAny_newFunctionEnv hcell (by intro y hy; simp at hy) (fun h₁ hns₁ hsb₁ => ?_) hkind)
  dsimp only at hns₁ hsb₁ ⊢
  generalize hH2 : s2.heap.push { cls := .type "list", dict := none, data := .seq ([] : List Value).toArray } = G2 at hns₁ hsb₁ ⊢
  have hC : G2.objs.size = s2.heap.objs.size + 1 := by rw [← hH2, Heap.size_push]
  have hDC : s2.heap.objs.size ≠ G2.objs.size := by rw [hC]; exact Nat.ne_of_lt (Nat.lt_succ_self _)
  have below : ∀ b, b < s2.heap.objs.size -> b ≠ G2.objs.size /\ b ≠ s2.heap.objs.size := fun b hb => ⟨by rw [hC]; exact Nat.ne_of_lt (Nat.lt_succ_of_lt hb), Nat.ne_of_lt hb⟩
  have old : ∀ b o, s2.heap.get? b = some o -> h₁.get? b = some o := fun b o e => hsb₁.extBut b o (below b (Heap.lt_size e)).1 (Heap.get?_push_of_some _ (hH2 ▸ Heap.get?_push_of_some _ e))
  have hD : h₁.get? s2.heap.objs.size = some { cls := .type "list", dict := none, data := .seq ([] : List Value).toArray } := hsb₁.extBut _ _ hDC (Heap.get?_push_of_some _ (hH2 ▸ Heap.get?_push_size _ rfl))
  have nD : H2 s2.heap.objs.size = none := I2.hok.fresh (Nat.le_refl _)
  have nC : H2 G2.objs.size = none := I2.hok.fresh (by rw [hC]; exact Nat.le_succ _)
  have fpl : ∀ b ∈ fp, b < s2.heap.objs.size := fun b hb => by
    obtain ⟨o, e, _⟩ := T.obj _ _ st2 b hb
    exact Heap.lt_size e
  have cells : ∀ y c, cl.lookup y = some c -> ∃ v, s2.heap.IsCell c v := fun y c e => I2.cell y c (hsub y c e)
  have cellLt : ∀ y c, cl.lookup y = some c -> c < s2.heap.objs.size := fun y c e => by
    obtain ⟨v, o, ho, _⟩ := cells y c e
    exact Heap.lt_size ho
  have stkNo : ∀ b, b ≠ X.env.locals -> b ∉ X.fs -> b ∉ frs X.stack := fun b n1 n2 z => by
    rcases List.mem_cons.mp (I2.stkSub b z) with r | r
    · exact n1 r
    · exact n2 r
  obtain ⟨W, ⟨m0, w0⟩, turn⟩ := q2 s2.heap.objs.size nD
  have ok : (cxComp X N scope cl G2.objs.size s2 H2 fp pins).Ok := by
    refine ⟨I2.ok.mod, hkind, I2.ok.glob, I2.ok.blt, (by show s2.heap.objs.size <= G2.objs.size; rw [hC]; exact Nat.le_succ _), fun x y c a b => I2.ok.inj x y c (hsub x c a) (hsub y c b), fun x hx => ?_, fun x c a => (nomatch a), I2.ok.hd, I2.ok.frames, .inl rfl, fun b hb => ⟨(below b (fpl b hb)).1, fun x c e => ?_⟩, I2.bs, Nat.le_trans I2.ok.bsz I2.sz, fun b o e hb => ?_, fun b hb => stkNo b (f2 b hb).2.1 (f2 b hb).2.2.1, I2.stack, I2.stkFree⟩
    · have hx' : scope.names.lookup x = some .free := by
        rcases hx with z | z
        · exact relabel_lookup hcell (.inl rfl) z
        · exact relabel_lookup hcell (.inr rfl) z
      exact hhas _ (hfl x hx') rfl
    · exact (f2 b hb).2.2.2.2.1 x c (hsub x c e)
    · rcases (f2 b hb).2.2.2.1 with z | z
      · exact I2.ok.noex b o e z
      · exact absurd (Nat.lt_of_lt_of_le (Heap.lt_size e) (Nat.le_trans I2.ok.bsz z)) (Nat.lt_irrefl _)
  have inv0 : Inv (cxComp X N scope cl G2.objs.size s2 H2 fp pins) [] (σ0 σ) (upd H2 s2.heap.objs.size (.lst [])) { s2 with heap := h₁, toks := s2.toks + ([] : List (Str × Value)).length } := by
    refine ⟨ok, rfl, I2.bare, Un.laid old (Nat.le_refl _) nD, ⟨_, hns₁, fun i y v e1 e2 e3 => ?_⟩, fun y c e => ?_, ?_, fun y c e => ?_, fun p hp => ?_, ?_, hF.len σ⟩
    · obtain ⟨hfr, j, hj, hv⟩ := hF.at_ σ i y v e1 e2
      have hk := hvis _ (hfl y hfr) rfl
      obtain ⟨m, hn, hl⟩ := I2.loc
      obtain ⟨u, r, l⟩ := hl j y v hj hv (.inr (hk.elim .inl .inr))
      refine ⟨u, r, .inr ⟨relabel_free hfr, ?_⟩⟩
      rcases l with ⟨k1, _⟩ | ⟨_, c, hc, hcell⟩
      · rcases hk with z | z
        · rw [k1] at z; cases z
        · rw [k1] at z; cases z
      · obtain ⟨c', hc'⟩ := hhas _ (hfl y hfr) rfl
        have : c' = c := Option.some.inj ((hsub _ _ hc').symm.trans hc)
        subst this
        refine ⟨c', hc', ?_⟩
        obtain ⟨o, ho, hd⟩ := hcell
        exact ⟨o, old _ _ ho, hd⟩
    · obtain ⟨v, o, ho, hd⟩ := cells y c e
      exact ⟨v, o, old _ _ ho, hd⟩
    · show upd H2 s2.heap.objs.size (.lst []) G2.objs.size = none
      rw [upd_ne (Ne.symm hDC)]; exact nC
    · show upd H2 s2.heap.objs.size (.lst []) c = none
      rw [upd_ne (below c (cellLt y c e)).2]; exact I2.freeC y c (hsub y c e)
    · have hp' : p ∈ X.pn ++ pins := by simpa [cxComp] using hp
      obtain ⟨e, n, ne, nf, d⟩ := I2.pin p hp'
      refine ⟨old _ _ e, ?_, (below _ (Heap.lt_size e)).1, stkNo _ ne nf, d⟩
      rw [upd_ne (below _ (Heap.lt_size e)).2]; exact n
    · exact I2.hok.laid old (Nat.le_refl _) ⟨Nat.zero_le _, [], 0, .nil, hD⟩
  have tn0 : tn 0 h₁ := T.keep 0 _ _ st2 fun b _ o e => old b o e
  have stat : ∀ {H' : Hp}, (∀ b ∈ fp, H' b = none) -> ∀ b ∈ fp, FpOk (cxComp X N scope cl G2.objs.size s2 H2 fp pins) [] H' b := fun hn b hb =>
    ⟨hn b hb, (below b (fpl b hb)).1, stkNo b (f2 b hb).2.1 (f2 b hb).2.2.1, .inl hb, fun x c e => (f2 b hb).2.2.2.2.1 x c (hsub x c e), fun p hp => (f2 b hb).2.2.2.2.2 p (by simpa [cxComp] using hp)⟩
  have loop : codeAny (model X.prog X.w) X.A (.compLoop (.ListComp elt [⟨tg, iter, ifs, 0⟩] scope pos) 0 (.ref it) (.ref s2.heap.objs.size) (compEnvC scope cl G2.objs.size X.env))
      (compPost (model X.prog X.w) X.A X.xe (some (assign (.Name xn pos') X.env)) (fun _ s' => SP X pins D0 .next s') (.ref s2.heap.objs.size) G2.objs.size) { s2 with heap := h₁, toks := s2.toks + ([] : List (Str × Value)).length } := by
    refine compLoop_gen (fun n s' => ∃ i σ' H', Inv (cxComp X N scope cl G2.objs.size s2 H2 fp pins) [] σ' H' s' /\ tn i s'.heap /\ (∀ b ∈ fp, H' b = none) /\ W i n σ' H') ?_ m0
      ⟨0, σ0 σ, _, inv0, tn0, fun b hb => by rw [upd_ne (below b (fpl b hb)).2]; exact (f2 b hb).1, w0⟩
    rintro n s3 ⟨i, σ3, H3, I3, st3, fr3, w3⟩
    have no : ∀ {α : Type} {t : Sem α} {Q' : α -> Shared -> Prop} {E' : Value -> Shared -> Prop} {s' : Shared}, wpAny (model X.prog X.w) X.A t Q' (fun _ _ => False) s' -> wpAny (model X.prog X.w) X.A t Q' E' s' := fun h => wpAny_mono h (fun _ _ z => z) fun _ _ z => False.elim z
    rcases turn i n σ3 H3 w3 with ⟨stop, qn⟩ | ⟨go, step⟩
    · refine no (thn (T.done (cxComp X N scope cl G2.objs.size s2 H2 fp pins) rfl rfl rfl hc i [] s3 σ3 H3 _ I3 (stat fr3) st3 stop) fun r s4 ⟨hr, I4⟩ => ?_)
      subst hr
      obtain ⟨m, hn, _⟩ := I4.loc
      have mk : ∀ h', Heap.SameBut G2.objs.size s4.heap h' -> Inv X pins σ H3 { s4 with heap := h' } := by
        intro h' hs'
        have u : Un (frs X.stack) fp H2 H3 s2.heap h' := by
          have b0 : Un (frs X.stack) fp H2 H3 s2.heap s4.heap := I4.base
          have neC : ∀ b o, s2.heap.get? b = some o -> b ≠ G2.objs.size := fun b o e => (below b (Heap.lt_size e)).1
          exact ⟨fun b o e n hb hx => (hs'.2 b (neC b o e)).trans (b0.keep b o e n hb hx), fun b o e n hb hx => by
            obtain ⟨sl, z⟩ := b0.slot b o e n hb hx
            exact ⟨sl, (hs'.2 b (neC b o e)).trans z⟩, b0.free, fun b o e hx => by
            obtain ⟨o', z⟩ := b0.there b o e hx
            exact ⟨o', (hs'.2 b (neC b o e)).trans z⟩, b0.tups, b0.frzs, b0.tbls⟩
        have hfreeC : H3 G2.objs.size = none := I4.free
        have hk : HOk X.prog X.w H3 h' := fun b ob e => by
          refine (I4.hok b ob e).stay (fun c w' hc q => (hs'.2 c ?_).trans q) (fun _ q => q) fun _ _ q => q
          rintro rfl
          rcases hc with z | z
          · rw [← z, hfreeC] at e; cases e
          · rw [hfreeC] at z; cases z
        have hos : s4.os = s2.os := I4.os
        have J4 : Inv X pins σ H3 { s4 with heap := h' } := I2.call' (s' := { s4 with heap := h' }) (ch := fp) hos u hk I4.bare fun b hb => ⟨(f2 b hb).2.2.2.1, (f2 b hb).2.1, (f2 b hb).2.2.2.2.1, (f2 b hb).2.2.2.2.2⟩
        exact J4
      have hfreeC : H3 G2.objs.size = none := I4.free
      have J := mk s4.heap ⟨rfl, fun _ _ => rfl⟩
      have cL : G2.objs.size ≠ X.env.locals := (below _ I2.lt).1.symm
      have cC : ∀ x c, X.env.cells.lookup x = some c -> c ≠ G2.objs.size := fun x c e => by
        obtain ⟨v, o, ho, _⟩ := I2.cell x c e
        exact (below _ (Heap.lt_size ho)).1
      refine wpAny_assign_Name (store_ok2 J hN0 hi0 (.inl hx0) (v := .ref s2.heap.objs.size) rfl (fun s5 J5 ha => ?_) (.inr hx0))
      obtain ⟨a, sb, ha⟩ := ha
      have hac : a ≠ G2.objs.size := by
        rcases ha with z | z
        · rw [z]; exact cL.symm
        · exact cC xn a z
      refine ⟨m, hn.sameBut sb (Ne.symm hac), fun h'' hs'' => ?_⟩
      have ge : X.s₀.heap.objs.size <= G2.objs.size := by
        have := I2.sz
        rw [hC]
        exact Nat.le_trans this (Nat.le_succ _)
      have J6 : Inv X pins (σ.set i0 (some (.ref s2.heap.objs.size))) H3 { s5 with heap := h'' } := J5.turned (it := G2.objs.size) (t' := s5.toks) (fun b o hb e => (hs''.2 b hb).trans e) hfreeC cL (.inr ge) cC (fun p hp => (below _ (Heap.lt_size (I2.pin p hp).1)).1)
      exact ⟨_, H3, J6, qn⟩
    · refine no (thn (T.item (cxComp X N scope cl G2.objs.size s2 H2 fp pins) rfl rfl rfl hc i [] s3 σ3 H3 _ I3 (stat fr3) st3 go) fun r s4 ⟨u, hr, h4⟩ => ?_)
      subst hr
      refine no (thn h4 fun _ s5 ⟨x, H5, I5, r5, y5, st5, fr5⟩ => ?_)
      have I5' := I5.pinned (stat fr5) (T.obj _ _ st5)
      have again : ∀ {s7 : Shared} {σ7 : St} {H7 : Hp} {m' : Nat}, Inv (cxComp X N scope cl G2.objs.size s2 H2 fp pins) ([] ++ pinsAt fp s5.heap) σ7 H7 s7 -> m' < n -> W (i + 1) m' σ7 H7 -> ∃ m, m < n /\ ∃ i σ' H', Inv (cxComp X N scope cl G2.objs.size s2 H2 fp pins) [] σ' H' s7 /\ tn i s7.heap /\ (∀ b ∈ fp, H' b = none) /\ W i m σ' H' := fun {s7 σ7 H7 m'} I7 hm w7 => by
        refine ⟨m', hm, i + 1, σ7, H7, I7.unpinned, T.keep _ _ _ st5 fun b hb o e => (I7.pin (b, o) (List.mem_append_right _ (List.mem_append_right _ (mem_pinsAt hb e)))).1, fun b hb => ?_, w7⟩
        obtain ⟨o, e, d⟩ := T.obj _ _ st5 b hb
        exact (I7.pin (b, o) (List.mem_append_right _ (List.mem_append_right _ (mem_pinsAt hb e)))).2.1
      refine no (thn (hg cl G2.objs.size s2 H2 fp pins _ s5 σ3 H5 x u _ I5' r5 (step x H5 y5)) fun _ s6 ⟨σ6, H6, I6, q6⟩ => ?_)
      refine no (thn (ht cl G2.objs.size s2 H2 fp pins _ s6 σ6 H6 _ I6 q6) fun b s7 ⟨H7, I7, q7⟩ => ?_)
      cases b with
      | false =>
        rw [if_neg (by decide)] at q7
        obtain ⟨m', hm, w7⟩ := q7
        exact again I7 hm w7
      | true =>
        rw [if_pos rfl] at q7
        refine no (thn (he cl G2.objs.size s2 H2 fp pins _ s7 σ6 H7 _ I7 q7) fun yv s8 ⟨y, H8, I8, r8, ys, hys, hz, m', hm, w8⟩ => ?_)
        refine no (thn (mt_append (X := cxComp X N scope cl G2.objs.size s2 H2 fp pins) _ s8 σ6 H8 (.ref s2.heap.objs.size) [y] _ [yv] (fun _ H9 => H9 = upd H8 s2.heap.objs.size (.lst (ys ++ [y]))) I8 rfl (.cons r8 .nil) ⟨_, ys, y, rfl, rfl, hys, hz, rfl⟩) fun _ s9 ⟨_, H9, I9, _, q9⟩ => ?_)
        subst q9
        exact again I9 hm w8
  exact codeAny_compStart_list loop (T.self X.A 0 _ _ _ tn0 loop)
end L2
set_option Elab.async false
set_option linter.all false
set_option maxRecDepth 100000
set_option maxHeartbeats 4000000
namespace L2
open PySem PySem.Spec PyProof.Rows
theorem Same.seqT {K : PySem.W.Frag} {H H' : Hp} {a : Addr} {xs : List V} (e : Same H H') (h : SqT K H a xs) : SqT K H' a xs := by
  rcases h with (h | ⟨o, h⟩) | h
  · exact .inl (.inl (e _ _ h))
  · exact .inl (.inr ⟨o, e _ _ h⟩)
  · exact .inr h
def Alike (K : PySem.W.Frag) (H : Hp) : Nat -> V -> V -> Prop
  | 0, x, y => flatV x = true /\ flatV y = true /\ eqV x y = true
  | n + 1, x, y => (flatV x = true /\ flatV y = true /\ eqV x y = true) ∨
      ∃ p q xs ys, x = .ref p /\ y = .ref q /\ ((SqT K H p xs /\ SqT K H q ys) ∨ (SqL K H p xs /\ SqL K H q ys)) /\ Paired (Alike K H n) xs ys
theorem Alike.flat {K : PySem.W.Frag} {H : Hp} {n : Nat} {x y : V} (a : flatV x = true) (b : flatV y = true) (c : eqV x y = true) : Alike K H n x y := by
  cases n with
  | zero => exact ⟨a, b, c⟩
  | succ n => exact .inl ⟨a, b, c⟩
theorem Alike.int {K : PySem.W.Frag} {H : Hp} {n : Nat} (i : Int) : Alike K H n (.int i) (.int i) := Alike.flat rfl rfl (beq_self_eq_true i)
theorem Alike.str {K : PySem.W.Frag} {H : Hp} {n : Nat} (z : Str) : Alike K H n (.str z) (.str z) := Alike.flat rfl rfl (beq_self_eq_true z)
theorem Alike.tup {K : PySem.W.Frag} {H : Hp} {n : Nat} {p q : Addr} {xs ys : List V} (a : SqT K H p xs) (b : SqT K H q ys) (c : Paired (Alike K H n) xs ys) : Alike K H (n + 1) (.ref p) (.ref q) := .inr ⟨p, q, xs, ys, rfl, rfl, .inl ⟨a, b⟩, c⟩
theorem Alike.lst {K : PySem.W.Frag} {H : Hp} {n : Nat} {p q : Addr} {xs ys : List V} (a : SqL K H p xs) (b : SqL K H q ys) (c : Paired (Alike K H n) xs ys) : Alike K H (n + 1) (.ref p) (.ref q) := .inr ⟨p, q, xs, ys, rfl, rfl, .inr ⟨a, b⟩, c⟩
theorem pair_get {α β : Type} {F : α -> β -> Prop} : ∀ {xs : List α} {ys : List β}, Paired F xs ys -> ∀ (j : Nat) (a : α) (b : β), xs[j]? = some a -> ys[j]? = some b -> F a b
  | _, _, .nil, _, _, _, h, _ => by cases h
  | x :: xs, y :: ys, .cons r t, j, a, b, h1, h2 => by
    cases j with
    | zero => cases h1; cases h2; exact r
    | succ j => exact pair_get t j a b (by simpa using h1) (by simpa using h2)
section
variable {X : Cx} {pins : List (Addr × Obj)} {σ : St} {H : Hp} {s : Shared}
theorem all_true (n : Nat) : (List.range n).all (fun _ => true) = true := List.all_eq_true.mpr fun _ _ => rfl
theorem items_alike {n : Nat} {A : Around} {xs ys : List V} {its its2 : List Value} (r : Vals xs its) (r2 : Vals ys its2) (pr : Paired (Alike X.K H n) xs ys)
    (ih : ∀ x y u v, Alike X.K H n x y -> RelV x u -> RelV y v -> SeqAt.EqAt A s u v true) (j : Nat) (h1 : j < its.toArray.size) (h2 : j < its2.toArray.size) : SeqAt.EqAt A s its.toArray[j] its2.toArray[j] true := by
  have j1 : j < xs.length := by rw [r.length]; simpa using h1
  have j2 : j < ys.length := by rw [r2.length]; simpa using h2
  obtain ⟨u1, e1, q1⟩ := r.get (i := j) (x := xs[j]) (by simp [j1])
  obtain ⟨u2, e2, q2⟩ := r2.get (i := j) (x := ys[j]) (by simp [j2])
  have z1 : its.toArray[j] = u1 := by
    have := e1
    rw [List.getElem?_eq_getElem (by simpa using h1)] at this
    simpa using Option.some.inj this
  have z2 : its2.toArray[j] = u2 := by
    have := e2
    rw [List.getElem?_eq_getElem (by simpa using h2)] at this
    simpa using Option.some.inj this
  rw [z1, z2]
  exact ih _ _ _ _ (pair_get pr j _ _ (List.getElem?_eq_getElem j1) (List.getElem?_eq_getElem j2)) q1 q2
theorem eqAt_alike (I : Inv X pins σ H s) : ∀ (n : Nat) (A : Around) (x y : V) (u v : Value), A.units + n < cLine -> Alike X.K H n x y -> RelV x u -> RelV y v -> SeqAt.EqAt A s u v true
  | 0, A, x, y, u, v, _, h, rx, ry => by
    have := eqAt_V (A := A) (s := s) rx ry h.1 h.2.1
    rw [h.2.2] at this
    exact this
  | n + 1, A, x, y, u, v, hu, h, rx, ry => by
    rcases h with h | ⟨p, q, xs, ys, rfl, rfl, hq, pr⟩
    · have := eqAt_V (A := A) (s := s) rx ry h.1 h.2.1
      rw [h.2.2] at this
      exact this
    · cases (show u = Value.ref p from rx)
      cases (show v = Value.ref q from ry)
      by_cases hpq : p = q
      · subst hpq
        exact SeqAt.EqAt.same _
      · refine SeqAt.EqAt.of_refs hpq ?_
        have hl := pr.length
        have ih := fun x y u v => eqAt_alike I n A.in1 x y u v (by show A.units + 1 + n < cLine; omega)
        rcases hq with ⟨h1, h2⟩ | ⟨h1, h2⟩
        · obtain ⟨its, r, pl, _⟩ := I.tuple h1
          obtain ⟨its2, r2, pl2, _⟩ := I.tuple h2
          have := SeqAt.RcAt.tuples (A := A) (e := fun _ => true) (show s.heap.IsTuple p its.toArray from pl) (show s.heap.IsTuple q its2.toArray from pl2) (by omega) (fun j a b => items_alike r r2 pr ih j a b)
          rw [all_true, List.size_toArray, List.size_toArray, ← r.length, ← r2.length, hl, beq_self_eq_true] at this
          exact this
        · obtain ⟨its, r, pl, _⟩ := I.list h1
          obtain ⟨its2, r2, pl2, _⟩ := I.list h2
          have := SeqAt.RcAt.lists (A := A) (e := fun _ => true) pl.isList pl2.isList (by rw [List.size_toArray, List.size_toArray, ← r.length, ← r2.length, hl]) (by omega) (fun j a b => items_alike r r2 pr ih j a b)
          rw [all_true] at this
          exact this
end
def rAlike (K : PySem.W.Frag) (b : Bool) : R2 := fun x y H Q => ∃ p q xs ys, x = .ref p /\ y = .ref q /\ ((SqT K H p xs /\ SqT K H q ys) ∨ (SqL K H p xs /\ SqL K H q ys)) /\ Paired (Alike K H 40) xs ys /\ Q (.bl b) H
theorem op_eqA {X : Cx} {K : PySem.W.Frag} (hK : X.K = K) (hu : X.A.units + 64 < cLine) : OpR X (compareOp .Eq) (rAlike K true) := by
  subst hK
  intro pins s σ H x y v u Q I rx ry h
  obtain ⟨p, q, xs, ys, rfl, rfl, hq, pr, k⟩ := h
  cases rx
  cases ry
  have hl := pr.length
  have ih := fun x y u v => eqAt_alike I 40 X.A.in1 x y u v (by show X.A.units + 1 + 40 < cLine; omega)
  rcases hq with ⟨h1, h2⟩ | ⟨h1, h2⟩
  · obtain ⟨its, r, pl, _⟩ := I.tuple h1
    obtain ⟨its2, r2, pl2, _⟩ := I.tuple h2
    refine SeqAt.eq_tupleAt (e := fun _ => true) (show s.heap.IsTuple p its.toArray from pl) (show s.heap.IsTuple q its2.toArray from pl2) (by omega) (fun j a b => items_alike r r2 pr ih j a b) ?_
    rw [all_true, List.size_toArray, List.size_toArray, ← r.length, ← r2.length, hl, beq_self_eq_true]
    exact ⟨.bl _, H, I, rfl, k⟩
  · obtain ⟨its, r, pl, _⟩ := I.list h1
    obtain ⟨its2, r2, pl2, _⟩ := I.list h2
    refine SeqAt.eq_listAt (e := fun _ => true) pl.isList pl2.isList (by rw [List.size_toArray, List.size_toArray, ← r.length, ← r2.length, hl]) (by omega) (fun j a b => items_alike r r2 pr ih j a b) ?_
    rw [all_true]
    exact ⟨.bl _, H, I, rfl, k⟩
theorem op_neA {X : Cx} {K : PySem.W.Frag} (hK : X.K = K) (hu : X.A.units + 64 < cLine) : OpR X (compareOp .NotEq) (rAlike K false) := by
  subst hK
  intro pins s σ H x y v u Q I rx ry h
  obtain ⟨p, q, xs, ys, rfl, rfl, hq, pr, k⟩ := h
  cases rx
  cases ry
  have hl := pr.length
  have ih := fun x y u v => eqAt_alike I 40 X.A.in1 x y u v (by show X.A.units + 1 + 40 < cLine; omega)
  rcases hq with ⟨h1, h2⟩ | ⟨h1, h2⟩
  · obtain ⟨its, r, pl, _⟩ := I.tuple h1
    obtain ⟨its2, r2, pl2, _⟩ := I.tuple h2
    refine SeqAt.RcNeAt.tuples (e := fun _ => true) (show s.heap.IsTuple p its.toArray from pl) (show s.heap.IsTuple q its2.toArray from pl2) (by omega) (fun j a b => items_alike r r2 pr ih j a b) _ _ _ _ ?_
    rw [all_true, List.size_toArray, List.size_toArray, ← r.length, ← r2.length, hl, beq_self_eq_true]
    exact ⟨.bl _, H, I, rfl, k⟩
  · obtain ⟨its, r, pl, _⟩ := I.list h1
    obtain ⟨its2, r2, pl2, _⟩ := I.list h2
    refine SeqAt.RcNeAt.lists (e := fun _ => true) pl.isList pl2.isList (by rw [List.size_toArray, List.size_toArray, ← r.length, ← r2.length, hl]) (by omega) (fun j a b => items_alike r r2 pr ih j a b) _ _ _ _ ?_
    rw [all_true]
    exact ⟨.bl _, H, I, rfl, k⟩
theorem op_neTF {X : Cx} {K : PySem.W.Frag} (hK : X.K = K) (hu : X.A.units < cLine) : OpR X (compareOp .NotEq) (fun x y H Q => ∃ p q xs ys, x = .ref p /\ y = .ref q /\ SqT K H p xs /\ SqT K H q ys /\ xs.all flatV = true /\ ys.all flatV = true /\ Q (.bl (!eqVs xs ys)) H) := by
  subst hK
  intro pins s σ H x y v u Q I rx ry h
  obtain ⟨p, q, xs, ys, rfl, rfl, hx, hy, fx, fy, hq⟩ := h
  cases rx
  cases ry
  obtain ⟨its, r, pl, hz⟩ := I.tuple hx
  obtain ⟨its2, r2, pl2, hz2⟩ := I.tuple hy
  refine SeqAt.RcNeAt.tuples (e := fun j => eqV (xs.getD j .non) (ys.getD j .non)) (show s.heap.IsTuple p its.toArray from pl) (show s.heap.IsTuple q its2.toArray from pl2) hu (fun j h1 h2 => eqAt_items (X := X) r r2 fx fy j h1 h2) _ _ _ _ ?_
  rw [List.size_toArray, List.size_toArray, ← r.length, ← r2.length, eqVs_range]
  exact ⟨.bl _, H, I, rfl, hq⟩
end L2
set_option Elab.async false
set_option linter.all false
set_option maxRecDepth 100000
set_option maxHeartbeats 4000000
namespace Dt
open PySem PySem.Spec PyProof.Rows
section
variable {prog : Program} {w : World} {A : Around} {E : Value -> Shared -> Prop} {s : Shared}
end
section
variable {prog : Program} {w : World} {K : Type} [DecidableEq K] {knd : KeyKind prog w K} {A : Around} {E : Value -> Shared -> Prop} {s : Shared}
end
end Dt
namespace Dt
open PySem PySem.Spec PyProof.Rows
section
variable {prog : Program} {w : World} {K : Type} [DecidableEq K] {knd : KeyKind prog w K} {A : Around} {E : Value -> Shared -> Prop} {s : Shared}
end
end Dt
set_option Elab.async false
set_option linter.all false
set_option maxRecDepth 100000
set_option maxHeartbeats 4000000
namespace L2
open PySem PySem.Spec PyProof.Rows
section
variable {X : Cx} {pins : List (Addr × Obj)} {σ : St} {H : Hp} {s : Shared}
theorem Inv.adoptN {a : Addr} {o : HO} (I : Inv X pins σ H s) (hn : H a = none) (h0 : ∀ u, X.s₀.heap.get? a = some u -> a ∉ X.ex -> False) (hL : a ≠ X.env.locals) (hC : ∀ x c, X.env.cells.lookup x = some c -> c ≠ a) (hp : ∀ p ∈ X.pn ++ pins, p.1 ≠ a) (ok : ObjOk X.prog X.w (upd H a o) s.heap a o) : Inv X pins σ (upd H a o) s := by
  refine ⟨I.ok, I.os, I.bare, ⟨I.base.keep, I.base.slot, fun b u e n hx => ?_, I.base.there, fun b xs q => ?_, fun b u xs q => ?_, fun b ps q => ?_⟩, I.loc, I.cell, ?_, fun x c e => ?_, fun p hp' => ?_, fun b u e => ?_, I.len⟩
  · rw [upd_ne (fun z => by rw [z] at e hx; exact h0 u e hx)]; exact I.base.free b u e n hx
  · have z := I.base.tups b xs q
    rw [upd_ne (ne_of_none z hn)]; exact z
  · have z := I.base.frzs b u xs q
    rw [upd_ne (ne_of_none z hn)]; exact z
  · obtain ⟨more, z⟩ := I.base.tbls b ps q
    exact ⟨more, by rw [upd_ne (ne_of_none z hn)]; exact z⟩
  · rw [upd_ne (Ne.symm hL)]; exact I.free
  · rw [upd_ne (hC x c e)]; exact I.freeC x c e
  · obtain ⟨e, n, ne, nf, d⟩ := I.pin p hp'
    exact ⟨e, by rw [upd_ne (hp p hp')]; exact n, ne, nf, d⟩
  · by_cases hb : b = a
    · subst hb; rw [upd_same] at e; cases e; exact ok
    · rw [upd_ne hb] at e
      exact (I.hok b u e).stay (fun c v _ q => q) (fun c q => by rw [upd_ne (ne_of_none q hn)]; exact q) fun c xs q => by rw [upd_ne (ne_of_none q hn)]; exact q
theorem Inv.later {a : Addr} {o : HO} {H1 : Hp} {s1 : Shared} (I : Inv X pins σ H s) (hB : s.heap.get? a = none) (J : Inv X pins σ H1 s1) (hn : H1 a = none) (ok : ObjOk X.prog X.w (upd H1 a o) s1.heap a o) : Inv X pins σ (upd H1 a o) s1 := by
  have nl : ∀ b u, s.heap.get? b = some u -> b ≠ a := fun b u e z => by rw [z, hB] at e; cases e
  refine J.adoptN hn (fun u e hx => ?_) ?_ (fun x c e => ?_) (fun p hp => nl _ _ (I.pin p hp).1) ok
  · obtain ⟨o', e'⟩ := I.base.there a u e hx
    exact nl a o' e' rfl
  · obtain ⟨m, ⟨oL, es, ep, eL, _⟩, _⟩ := id I.loc
    exact Ne.symm (nl _ _ eL)
  · obtain ⟨v, oc, ec, _⟩ := I.cell x c e
    exact nl _ _ ec
end
end L2
set_option Elab.async false
set_option linter.all false
set_option maxRecDepth 100000
set_option maxHeartbeats 4000000
namespace Srt
open PySem PySem.W PyProof.Rows
section
variable {key : Nat -> Int} {n : Nat}
variable (hk : ∀ i j, i < n -> j < n -> key i = key j -> i = j)
include hk
end
end Srt
set_option Elab.async false
set_option linter.all false
set_option maxRecDepth 100000
set_option maxHeartbeats 4000000
namespace Dt
open PySem PySem.W PySem.Spec PyProof.Rows
section
variable {prog : Program} {w : World} {A : Around} {E : Value -> Shared -> Prop} {s : Shared}
end
section
variable {prog : Program} {w : World} {K : Type} [DecidableEq K] {knd : KeyKind prog w K} {A : Around} {E : Value -> Shared -> Prop} {s : Shared}
end
end Dt
namespace L2
open PySem PySem.Spec PyProof.Rows
end L2
set_option Elab.async false
set_option linter.all false
set_option maxRecDepth 100000
set_option maxHeartbeats 4000000
namespace Dt
open PySem PySem.Spec PyProof.Rows
open AutoSeq1 (wpAny_loadPart')
section
variable {prog : Program} {w : World} {A : Around} {E : Value -> Shared -> Prop} {s : Shared}
theorem next_tuple {it t : Addr} {i : Nat} {items : Array Value} {x : Value} {Q : Value -> Shared -> Prop} (hit : s.heap.IsTupleIter it t i) (ht : s.heap.IsTuple t items) (hx : items[i]? = some x)
    (hQ : ∀ h', h'.IsTupleIter it t (i + 1) -> Heap.SameBut it s.heap h' -> Q x { s with heap := h' }) : wpAny (model prog w) A (Builtin.SmallTypes.nextOf (.ref it)) Q E s := by
  obtain ⟨o, ho, hc, hd⟩ := id hit
  obtain ⟨ol, hol, _, nl, hdl⟩ := ht
  unfold Builtin.SmallTypes.nextOf
  refine wpAny_bind (wpAny_callSpecial?_slot (name := Str.ofString "__next__") hit.typeIs PySem.F.slot_tuple_iterator_next
    (wpAny_call_entry PySem.F.slot_tuple_iterator_next hit.typeIs PySem.F.entry_tuple_iterator_next ?_ (PySem.F.args_tuple_iterator_next_1 _)))
  show wpAny _ _ (field (.ref it) 0 >>= _) _ _ s
  refine wpAny_bind (wpAny_field ho hd (x := .ref t) rfl ?_)
  show wpAny _ _ (if (Value.ref t == Value.none) = true then _ else _) _ _ s
  rw [if_neg (show ¬ ((Value.ref t == Value.none) = true) from Bool.false_ne_true)]
  show wpAny _ _ (field (.ref it) 1 >>= _) _ _ s
  refine wpAny_bind (wpAny_field ho hd (x := .int i 0) rfl ?_)
  show wpAny _ _ (seqItems? (.ref t) >>= _) _ _ s
  refine wpAny_bind (wpAny_seqItems hol hdl ?_)
  simp only [Int.toNat_natCast, hx]
  refine wpAny_bind (wpAny_setField ho hd (by simp) (wpAny_pure ⟨x, rfl, wpAny_pure (hQ _ ?_ (Heap.SameBut.update ..))⟩))
  exact ⟨_, Heap.get?_update_self _ ho (Obj.isFreed_of_fields (Obj.data_mapFields hd _)), (Obj.cls_mapFields ..).trans hc, by
    rw [Obj.data_mapFields hd]; simp [rawInt]⟩
theorem next_tuple_end {it t : Addr} {i : Nat} {items : Array Value} {Q : Value -> Shared -> Prop} (hh : A.handled = none) (hit : s.heap.IsTupleIter it t i) (ht : s.heap.IsTuple t items) (hx : items[i]? = none)
    (hE : ∀ h' e, Heap.ExtBut it s.heap h' -> (∃ o, h'.get? e = some o /\ o.cls = .type "StopIteration") -> E (.ref e) { s with heap := h' }) : wpAny (model prog w) A (Builtin.SmallTypes.nextOf (.ref it)) Q E s := by
  obtain ⟨o, ho, hc, hd⟩ := id hit
  obtain ⟨ol, hol, _, nl, hdl⟩ := ht
  unfold Builtin.SmallTypes.nextOf
  refine wpAny_bind (wpAny_callSpecial?_slot (name := Str.ofString "__next__") hit.typeIs PySem.F.slot_tuple_iterator_next
    (wpAny_call_entry PySem.F.slot_tuple_iterator_next hit.typeIs PySem.F.entry_tuple_iterator_next ?_ (PySem.F.args_tuple_iterator_next_1 _)))
  show wpAny _ _ (field (.ref it) 0 >>= _) _ _ s
  refine wpAny_bind (wpAny_field ho hd (x := .ref t) rfl ?_)
  show wpAny _ _ (if (Value.ref t == Value.none) = true then _ else _) _ _ s
  rw [if_neg (show ¬ ((Value.ref t == Value.none) = true) from Bool.false_ne_true)]
  show wpAny _ _ (field (.ref it) 1 >>= _) _ _ s
  refine wpAny_bind (wpAny_field ho hd (x := .int i 0) rfl ?_)
  show wpAny _ _ (seqItems? (.ref t) >>= _) _ _ s
  refine wpAny_bind (wpAny_seqItems hol hdl ?_)
  simp only [Int.toNat_natCast, hx]
  refine wpAny_bind (wpAny_rule (wpAny_bind (wpAny_setField ho hd (by simp) ?_)))
  show wpAny _ _ (newExc (.type "StopIteration") [] >>= _) _ _ _
  refine wpAny_bind ?_
  simp only [newExc, newTuple]
  refine wpAny_bind (wpAny_newObj_type ?_ (by size_fits))
  refine wpAny_bind (m := firstArgMember _ _) (wpAny_of_eq (a := Value.none) (by first | rfl | (simp only [firstArgMember]; rfl)) ?_)
  refine wpAny_newObj_type ?_ (by size_fits)
  unfold raiseNew
  refine wpAny_bind (wpAny_handled ?_)
  first | rw [show A.in1.handled = none from hh] | rw [hh]
  refine wpAny_bind (wpAny_pure (wpAny_throw ?_))
  exact hE _ _ (((Heap.SameBut.update ..).extBut.push _).push _) ⟨_, Heap.get?_push_size _ rfl, rfl⟩
end
theorem draws {prog : Program} {w : World} {A : Around} (hh : A.handled = none) (it t : Addr) (hne : t ≠ it) (items : Array Value) :
    Draws prog w A it [it, t] items.size (fun i v => items[i]? = some v) (fun i h => h.IsTupleIter it t i /\ h.IsTuple t items) where
  live := fun _ _ st => let ⟨o, ho, _⟩ := st.1; ⟨o, ho⟩
  frame := fun _ _ _ st hk => ⟨let ⟨o, ho, r⟩ := st.1; ⟨o, hk it (by simp) o ho, r⟩, let ⟨o, ho, r⟩ := st.2; ⟨o, hk t (by simp) o ho, r⟩⟩
  item := fun i s Q E hi st hQ => by
    refine next_tuple st.1 st.2 (x := items[i]) (by simp [hi]) fun h' hit' hs' => ?_
    exact hQ _ h' s.toks (by simp [hi]) ⟨hit', st.2.extBut hs'.extBut hne⟩ hs'
  done := fun s Q E st hE => next_tuple_end hh st.1 st.2 (by simp) hE
theorem enum_new (t : Addr) (items : Array Value) (n : Nat) (dct : Option Addr) (sl : Array (Option Value)) :
    Meets (Builtin.«enumerate.__new__» ⟨[.type "enumerate", .ref t], []⟩) (fun _ R s => s.heap.get? t = some { cls := .type "tuple", dict := dct, data := .seq items n, slots := sl } /\
      R (.ok (.ret (.ref (s.heap.push { cls := .type "tuple_iterator", data := .fields #[.ref t, .int 0 0] }).objs.size)))
        { s with heap := (s.heap.push { cls := .type "tuple_iterator", data := .fields #[.ref t, .int 0 0] }).push { cls := .type "enumerate", data := .fields #[.none, .bool false, .ref s.heap.objs.size, rawInt 0, .none, .none] } }) :=
  .of_wp fun prog w A R s h => by
    obtain ⟨hp, g, d, tk, os⟩ := s; obtain ⟨hl, h⟩ := h
    have hsub := sub_enumerate
    have hL : Heap.IsTuple (Shared.heap ⟨hp, g, d, tk, os⟩) t items := ⟨_, hl, rfl, n, rfl⟩
    wp_walk using wpAny_loadPart' hl
    refine wpAny_stack_any fun st => wpAny_pure ?_
    split
    · rename_i c _ _ _ _ _
      cases (c == Value.type "enumerate")
      · wp_walk using wpAny_loadPart' hl, wpAny_pyIter_tuple hL
        exact ⟨_, rfl, h⟩
      · wp_walk using wpAny_loadPart' hl, wpAny_pyIter_tuple hL
        exact ⟨_, rfl, h⟩
    · wp_walk using wpAny_loadPart' hl, wpAny_pyIter_tuple hL
      exact ⟨_, rfl, h⟩
theorem call_enum {prog : Program} {w : World} {A : Around} {E : Value -> Shared -> Prop} {s : Shared} {t : Addr} {items : Array Value} {Q : Value -> Shared -> Prop} (hL : s.heap.IsTuple t items)
    (h : ∀ h', IsEnum h' (s.heap.objs.size + 1) s.heap.objs.size 0 .none -> h'.IsTupleIter s.heap.objs.size t 0 -> h'.objs.size = s.heap.objs.size + 2 ->
      (∀ b o, s.heap.get? b = some o -> h'.get? b = some o) -> Q (.ref (s.heap.objs.size + 1)) { s with heap := h' }) :
    wpAny (model prog w) A (call (.type "enumerate") [.ref t]) Q E s := by
  obtain ⟨⟨c, dct, dt, sl⟩, hl, hc, n, hd⟩ := hL
  replace hc : c = .type "tuple" := hc
  replace hd : dt = .seq items n := hd
  subst hc hd
  refine callType_new PySem.F.called_enumerate (by decide) (PySem.F.typeCall_enumerate_1 _) (PySem.F.newCall_enumerate_1 _) (fun obj => PySem.F.args_object_init_2 obj _) PySem.F.entry_enumerate_new
    (enum_new t items n dct sl) ⟨hl, ?_⟩
  have hz : (s.heap.push { cls := .type "tuple_iterator", data := .fields #[.ref t, .int 0 0] }).objs.size = s.heap.objs.size + 1 := Heap.size_push ..
  show _ /\ _
  rw [hz]
  have he : IsEnum ((s.heap.push { cls := .type "tuple_iterator", data := .fields #[.ref t, .int 0 0] }).push
      { cls := .type "enumerate", data := .fields #[.none, .bool false, .ref s.heap.objs.size, rawInt 0, .none, .none] }) (s.heap.objs.size + 1) s.heap.objs.size 0 .none := by
    have := Heap.get?_push_size (s.heap.push { cls := .type "tuple_iterator", data := .fields #[.ref t, .int 0 0] })
      (o := { cls := .type "enumerate", data := .fields #[.none, .bool false, .ref s.heap.objs.size, rawInt 0, .none, .none] }) rfl
    rw [hz] at this; exact this
  refine ⟨⟨_, he, rfl⟩, h _ he ⟨_, Heap.get?_push_of_some _ (Heap.get?_push_size _ rfl), rfl, rfl⟩ (by rw [Heap.size_push, hz]) fun b o x => Heap.get?_push_of_some _ (Heap.get?_push_of_some _ x)⟩
theorem enum_end {prog : Program} {w : World} {A : Around} {E : Value -> Shared -> Prop} {s : Shared} {e it t : Addr} {i : Nat} {items : Array Value} {old : Value} {Q : Option Value -> Shared -> Prop} (hh : A.handled = none)
    (he : IsEnum s.heap e it i old) (hit : s.heap.IsTupleIter it t i) (ht : s.heap.IsTuple t items) (hx : items[i]? = none)
    (hQ : ∀ h', Heap.ExtBut it s.heap h' -> Q none { s with heap := h' }) : wpAny (model prog w) A (pyNext (.ref e)) Q E s := by
  have hT : s.TypeIs (.ref e) "enumerate" := ⟨_, he, rfl⟩
  unfold pyNext
  refine wpAny_bind (wpAny_attempt (wpAny_callSpecial?_slot (name := Str.ofString "__next__") hT PySem.F.slot_enumerate_next
    (wpAny_call_entry PySem.F.slot_enumerate_next hT PySem.F.entry_enumerate_next ?_ (PySem.F.args_enumerate_next_1 _))))
  show wpAny _ _ (field (.ref e) 2 >>= _) _ _ _
  refine wpAny_bind (wpAny_field he rfl (x := .ref it) rfl ?_)
  refine wpAny_bind (next_tuple_end hh hit ht hx fun h' x he' hx' => ?_)
  obtain ⟨o, ho, hc⟩ := hx'
  refine wpAny_bind (wpAny_isInstance (T := "StopIteration") (b := true) ⟨o, ho, hc⟩ isSubtype_stop ?_)
  exact wpAny_pure (hQ _ he')
end Dt
namespace L2
open PySem PySem.Spec PyProof.Rows
theorem ints_of_vals : ∀ {ns : List Int} {us : List Value}, Vals (ns.map V.int) us -> IntsAre us ns
  | [], _, .nil => .nil
  | n :: ns, _ :: us, .cons r t => by
    obtain ⟨k, rfl⟩ := r
    exact .cons n k (ints_of_vals t)
theorem call_maxL {X : Cx} {K : PySem.W.Frag} (hK : X.K = K) (hc : X.calm = true) : CallR X (.builtin "max") (fun xs H Q => ∃ (l : Addr) (ns : List Int), xs = [.ref l] /\ SqL K H l (ns.map V.int) /\ 0 < ns.length /\ ∀ M, M ∈ ns -> (∀ a, a ∈ ns -> a <= M) -> Q (.int M) H) := by
  subst hK
  intro pins s σ H xs us Q I r h
  obtain ⟨l, ns, rfl, hl, hne, q⟩ := h
  obtain ⟨u, rfl, rx⟩ := r.one
  cases (show u = Value.ref l from rx)
  obtain ⟨its, rv, pl, hz⟩ := I.list hl
  have hi : IntsAre its ns := ints_of_vals rv
  obtain ⟨ys, e⟩ := hi.allInts.items
  have hns : ns = ys.toList.map (·.1) := by rw [← hi.numsOf, ← nums_intItems, ← e]
  have hsz : 0 < ys.size := by
    have h3 := hne; rw [hns, List.length_map, Array.length_toList] at h3; exact h3
  have hl' := pl.isList
  rw [e] at hl'
  refine max_intList (I.ok.hd hc) hl' hsz fun v h' tk hv hk => ?_
  obtain ⟨t, rfl⟩ := intItems_at hv
  obtain ⟨h1, h2⟩ := argBest_gt (numAt ys) (ys.size - 1)
  refine ⟨.int _, H, I.kept (t' := tk) hk, ⟨t, rfl⟩, q _ ?_ fun a ha => ?_⟩
  · rw [hns, numAt_eq]; exact getD_mem (by rw [List.length_map, Array.length_toList]; omega)
  · rw [hns] at ha
    obtain ⟨j, hj, rfl⟩ := mem_getD ha
    rw [List.length_map, Array.length_toList] at hj
    rw [← numAt_eq]; exact h2 j (by omega)
theorem op_neT0 {X : Cx} {K : PySem.W.Frag} (hK : X.K = K) (hu : X.A.units < cLine) : OpR X (compareOp .NotEq) (fun x y H Q => ∃ p q xs, x = .ref p /\ y = .ref q /\ SqT K H p xs /\ SqT K H q [] /\ Q (.bl (!xs.isEmpty)) H) := by
  subst hK
  intro pins s σ H x y v u Q I rx ry h
  obtain ⟨p, q, xs, rfl, rfl, hx, hy, hq⟩ := h
  cases rx
  cases ry
  obtain ⟨its, r, pl, hz⟩ := I.tuple hx
  obtain ⟨its2, r2, pl2, hz2⟩ := I.tuple hy
  cases r2
  refine SeqAt.RcNeAt.tuples (e := fun _ => true) (show s.heap.IsTuple p its.toArray from pl) (show s.heap.IsTuple q #[] from pl2) hu (fun j h1 h2 => absurd h2 (Nat.not_lt_zero j)) _ _ _ _ ?_
  have e : (!((List.range (min its.toArray.size (#[] : Array Value).size)).all (fun _ => true) && its.toArray.size == (#[] : Array Value).size)) = !xs.isEmpty := by
    cases r with
    | nil => rfl
    | cons a b => rfl
  rw [e]
  exact ⟨.bl _, H, I, rfl, hq⟩
theorem op_eqT0 {X : Cx} {K : PySem.W.Frag} (hK : X.K = K) (hu : X.A.units < cLine) : OpR X (compareOp .Eq) (fun x y H Q => ∃ p q xs, x = .ref p /\ y = .ref q /\ SqT K H p xs /\ SqT K H q [] /\ Q (.bl xs.isEmpty) H) := by
  subst hK
  intro pins s σ H x y v u Q I rx ry h
  obtain ⟨p, q, xs, rfl, rfl, hx, hy, hq⟩ := h
  cases rx
  cases ry
  obtain ⟨its, r, pl, hz⟩ := I.tuple hx
  obtain ⟨its2, r2, pl2, hz2⟩ := I.tuple hy
  cases r2
  refine SeqAt.eq_tupleAt (e := fun _ => true) (show s.heap.IsTuple p its.toArray from pl) (show s.heap.IsTuple q #[] from pl2) hu (fun j h1 h2 => absurd h2 (Nat.not_lt_zero j)) ?_
  have e : ((List.range (min its.toArray.size (#[] : Array Value).size)).all (fun _ => true) && its.toArray.size == (#[] : Array Value).size) = xs.isEmpty := by
    cases r with
    | nil => rfl
    | cons a b => rfl
  rw [e]
  exact ⟨.bl _, H, I, rfl, hq⟩
end L2
set_option Elab.async false
set_option linter.all false
set_option maxRecDepth 100000
set_option maxHeartbeats 4000000
namespace L2
open PySem PySem.Spec PyProof.Rows
def hid (D : Addr) (H : Hp) : Hp := fun b => if b = D then none else H b
theorem hid_ne {D b : Addr} {H : Hp} (h : b ≠ D) : hid D H b = H b := by unfold hid; rw [if_neg h]
theorem hid_at {D : Addr} {H : Hp} : hid D H D = none := by unfold hid; rw [if_pos rfl]
section
variable {K : PySem.W.Frag} {a : Addr} {xs : List V} {H1 : Hp}
end
end L2
set_option Elab.async false
set_option linter.all false
set_option maxRecDepth 100000
set_option maxHeartbeats 4000000
namespace Dt
open PySem PySem.Spec PyProof.Rows
section
variable {prog : Program} {w : World} {A : Around} {E : Value -> Shared -> Prop} {s : Shared}
end
section
variable {prog : Program} {w : World} {A : Around} {E : Value -> Shared -> Prop} {s : Shared}
end
end Dt
namespace L2
open PySem PySem.Spec PyProof.Rows
def SqK (k : Bool) (K : PySem.W.Frag) (H : Hp) (a : Addr) (xs : List V) : Prop := match k with | true => SqT K H a xs | false => SqL K H a xs
theorem Inv.sqK_inj {X : Cx} {pins : List (Addr × Obj)} {σ : St} {H : Hp} {s : Shared} {k : Bool} {a : Addr} {xs ys : List V} (I : Inv X pins σ H s) (h : SqK k X.K H a xs) (h' : SqK k X.K H a ys) : xs = ys := by
  cases k
  · exact I.list_inj h h'
  · exact I.tuple_inj h h'
end L2
set_option Elab.async false
set_option linter.all false
set_option maxRecDepth 100000
set_option maxHeartbeats 4000000
namespace L2
open PySem PySem.Spec PyProof.Rows
section
variable {X : Cx} {K : PySem.W.Frag}
theorem call_listK (hK : X.K = K) : CallR X (.type "list") (fun xs H Q => ∃ p ys, xs = [.ref p] /\ (SqL K H p ys ∨ SqT K H p ys) /\ ∀ l, H l = none -> Q (.ref l) (upd H l (.lst ys))) := hK ▸ call_list_of
theorem call_lenK (hK : X.K = K) : CallR X (.builtin "len") (fun xs H Q => ∃ p ys, xs = [.ref p] /\ (SqL K H p ys ∨ SqT K H p ys) /\ Q (.int ys.length) H) := hK ▸ call_len_seq
theorem op_eqL0 (hK : X.K = K) (hu : X.A.units < cLine) : OpR X (compareOp .Eq) (fun x y H Q => ∃ p q xs, x = .ref p /\ y = .ref q /\ SqL K H p xs /\ SqL K H q [] /\ Q (.bl xs.isEmpty) H) := by
  subst hK
  intro pins s σ H x y v u Q I rx ry h
  obtain ⟨p, q, xs, rfl, rfl, hx, hy, hq⟩ := h
  cases rx
  cases ry
  obtain ⟨its, r, pl, hz⟩ := I.list hx
  obtain ⟨its2, r2, pl2, hz2⟩ := I.list hy
  cases r2
  cases r with
  | nil =>
    refine SeqAt.eq_listAt (e := fun _ => true) pl.isList pl2.isList rfl hu (fun j h1 h2 => absurd h2 (Nat.not_lt_zero j)) ?_
    exact ⟨.bl true, H, I, rfl, hq⟩
  | cons a b =>
    refine SeqAt.eq_list_lengthsAt pl.isList pl2.isList rfl hu ?_
    exact ⟨.bl false, H, I, rfl, hq⟩
end
end L2
set_option Elab.async false
set_option linter.all false
set_option maxRecDepth 100000
set_option maxHeartbeats 4000000
namespace L2
open PySem PySem.Spec PyProof.Rows
inductive Tv where
  | non | bl (b : Bool) | int (i : Int) | str (x : Str) | ty (n : String) | cls (C : Addr)
  | tup (l : List Tv) | lst (l : List Tv) | scr (l : List Tv) | obj (C : Addr) (fs : List Str) (l : List Tv) | dic (ks : List Key) (l : List Tv)
def SqN (K : PySem.W.Frag) (H : Hp) (a : Addr) (xs : List V) : Prop :=
  Rd H a (.tup xs) ∨
    ∃ (o : Obj) (its : Array Value) (n : Nat), K.lookup a = some o /\ o.cls = .type "tuple" /\ o.data = .seq its n /\ its.size <= sizeLine /\ Vals xs its.toList /\ o.dict = none
theorem SqN.t {K : PySem.W.Frag} {H : Hp} {a : Addr} {xs : List V} (h : SqN K H a xs) : SqT K H a xs :=
  h.imp id fun ⟨o, its, n, a, b, c, d, e, _⟩ => ⟨o, its, n, a, b, c, d, e⟩
theorem SqN.of {K : PySem.W.Frag} {H : Hp} {a : Addr} {xs : List V} (h : H a = some (.tup xs)) : SqN K H a xs := .inl (.inl h)
theorem Same.seqN {K : PySem.W.Frag} {H H' : Hp} {a : Addr} {xs : List V} (e : Same H H') (h : SqN K H a xs) : SqN K H' a xs := by
  rcases h with (h | ⟨o, h⟩) | h
  · exact .inl (.inl (e _ _ h))
  · exact .inl (.inr ⟨o, e _ _ h⟩)
  · exact .inr h
mutual
def Rep (K : PySem.W.Frag) (G : Hp) : Tv -> V -> Prop
  | .non, v => v = .non
  | .bl b, v => v = .bl b
  | .int i, v => v = .int i
  | .str x, v => v = .str x
  | .ty n, v => v = .ty n
  | .cls C, v => v = .ref C
  | .tup l, v => ∃ a xs, v = .ref a /\ SqN K G a xs /\ RepL K G l xs
  | .lst l, v => ∃ a xs, v = .ref a /\ G a = some (.lst xs) /\ RepL K G l xs
  | .scr l, v => ∃ a xs, v = .ref a /\ SqL K G a xs /\ RepL K G l xs
  | .obj C fs l, v => ∃ a dx xs, v = .ref a /\ G a = some (.ins C dx (fs.zip xs)) /\ G dx = some (.own a) /\ fs.length = l.length /\ RepL K G l xs
  | .dic ks l, v => ∃ a xs, v = .ref a /\ G a = some (.dK (ks.zip xs)) /\ ks.length = l.length /\ RepL K G l xs
def RepL (K : PySem.W.Frag) (G : Hp) : List Tv -> List V -> Prop
  | [], vs => vs = []
  | t :: l, vs => ∃ v r, vs = v :: r /\ Rep K G t v /\ RepL K G l r
end
section
variable {K : PySem.W.Frag} {G G' : Hp}
mutual
theorem Rep.same (e : Same G G') : ∀ (t : Tv) (v : V), Rep K G t v -> Rep K G' t v
  | .non, _, h => by unfold Rep at h ⊢; exact h
  | .bl b, _, h => by unfold Rep at h ⊢; exact h
  | .int b, _, h => by unfold Rep at h ⊢; exact h
  | .str b, _, h => by unfold Rep at h ⊢; exact h
  | .ty b, _, h => by unfold Rep at h ⊢; exact h
  | .cls b, _, h => by unfold Rep at h ⊢; exact h
  | .tup l, v, h => by
    unfold Rep at h ⊢
    obtain ⟨a, xs, q, s, r⟩ := h
    exact ⟨a, xs, q, e.seqN s, RepL.same e l xs r⟩
  | .lst l, v, h => by
    unfold Rep at h ⊢
    obtain ⟨a, xs, q, s, r⟩ := h
    exact ⟨a, xs, q, e _ _ s, RepL.same e l xs r⟩
  | .scr l, v, h => by
    unfold Rep at h ⊢
    obtain ⟨a, xs, q, s, r⟩ := h
    exact ⟨a, xs, q, e.seq s, RepL.same e l xs r⟩
  | .obj C fs l, v, h => by
    unfold Rep at h ⊢
    obtain ⟨a, dx, xs, q, s, d, n, r⟩ := h
    exact ⟨a, dx, xs, q, e _ _ s, e _ _ d, n, RepL.same e l xs r⟩
  | .dic ks l, v, h => by
    unfold Rep at h ⊢
    obtain ⟨a, xs, q, s, n, r⟩ := h
    exact ⟨a, xs, q, e _ _ s, n, RepL.same e l xs r⟩
theorem RepL.same (e : Same G G') : ∀ (l : List Tv) (vs : List V), RepL K G l vs -> RepL K G' l vs
  | [], _, h => by unfold RepL at h ⊢; exact h
  | t :: l, vs, h => by
    unfold RepL at h ⊢
    obtain ⟨v, r, q, a, b⟩ := h
    exact ⟨v, r, q, Rep.same e t v a, RepL.same e l r b⟩
end
theorem Rep.up {t : Tv} {v : V} (h : Rep K G t v) (e : Same G G') : Rep K G' t v := Rep.same e t v h
theorem RepL.up {l : List Tv} {vs : List V} (h : RepL K G l vs) (e : Same G G') : RepL K G' l vs := RepL.same e l vs h
theorem rep_non {v : V} : Rep K G .non v ↔ v = .non := by unfold Rep; exact Iff.rfl
theorem rep_bl {b : Bool} {v : V} : Rep K G (.bl b) v ↔ v = .bl b := by unfold Rep; exact Iff.rfl
theorem rep_int {i : Int} {v : V} : Rep K G (.int i) v ↔ v = .int i := by unfold Rep; exact Iff.rfl
theorem rep_str {x : Str} {v : V} : Rep K G (.str x) v ↔ v = .str x := by unfold Rep; exact Iff.rfl
theorem rep_ty {x : String} {v : V} : Rep K G (.ty x) v ↔ v = .ty x := by unfold Rep; exact Iff.rfl
theorem rep_cls {x : Addr} {v : V} : Rep K G (.cls x) v ↔ v = .ref x := by unfold Rep; exact Iff.rfl
theorem rep_tup {l : List Tv} {v : V} : Rep K G (.tup l) v ↔ ∃ a xs, v = .ref a /\ SqN K G a xs /\ RepL K G l xs := by
  conv => lhs; unfold Rep
theorem rep_tupS {l : List Tv} {v : V} (h : Rep K G (.tup l) v) : ∃ a xs, v = .ref a /\ SqT K G a xs /\ RepL K G l xs :=
  let ⟨a, xs, e, s, r⟩ := rep_tup.mp h; ⟨a, xs, e, s.t, r⟩
theorem rep_lst {l : List Tv} {v : V} : Rep K G (.lst l) v ↔ ∃ a xs, v = .ref a /\ G a = some (.lst xs) /\ RepL K G l xs := by
  conv => lhs; unfold Rep
theorem rep_scr {l : List Tv} {v : V} : Rep K G (.scr l) v ↔ ∃ a xs, v = .ref a /\ SqL K G a xs /\ RepL K G l xs := by
  conv => lhs; unfold Rep
theorem rep_dic {ks : List Key} {l : List Tv} {v : V} : Rep K G (.dic ks l) v ↔ ∃ a xs, v = .ref a /\ G a = some (.dK (ks.zip xs)) /\ ks.length = l.length /\ RepL K G l xs := by
  conv => lhs; unfold Rep
theorem repL_nil {vs : List V} : RepL K G [] vs ↔ vs = [] := by unfold RepL; exact Iff.rfl
theorem repL_cons {t : Tv} {l : List Tv} {vs : List V} : RepL K G (t :: l) vs ↔ ∃ v r, vs = v :: r /\ Rep K G t v /\ RepL K G l r := by
  conv => lhs; unfold RepL
theorem RepL.cons {t : Tv} {l : List Tv} {v : V} {r : List V} (a : Rep K G t v) (b : RepL K G l r) : RepL K G (t :: l) (v :: r) := repL_cons.mpr ⟨v, r, rfl, a, b⟩
theorem RepL.nil : RepL K G [] [] := repL_nil.mpr rfl
theorem RepL.len : ∀ {l : List Tv} {xs : List V}, RepL K G l xs -> xs.length = l.length
  | [], xs, h => by rw [repL_nil.mp h]; rfl
  | t :: l, xs, h => by
    obtain ⟨v, r, rfl, _, b⟩ := repL_cons.mp h
    rw [List.length_cons, List.length_cons, b.len]
theorem RepL.get : ∀ {l : List Tv} {xs : List V} {i : Nat} {t : Tv}, RepL K G l xs -> l[i]? = some t -> ∃ v, xs[i]? = some v /\ Rep K G t v
  | [], _, _, _, _, e => by simp at e
  | s :: l, xs, 0, t, h, e => by
    obtain ⟨v, r, rfl, a, b⟩ := repL_cons.mp h
    simp at e
    subst e
    exact ⟨v, rfl, a⟩
  | s :: l, xs, i + 1, t, h, e => by
    obtain ⟨v, r, rfl, a, b⟩ := repL_cons.mp h
    obtain ⟨u, hu, q⟩ := b.get (i := i) (t := t) (by simpa using e)
    exact ⟨u, by simpa using hu, q⟩
theorem RepL.app : ∀ {l m : List Tv} {xs ys : List V}, RepL K G l xs -> RepL K G m ys -> RepL K G (l ++ m) (xs ++ ys)
  | [], _, xs, _, h, k => by rw [repL_nil.mp h]; exact k
  | t :: l, m, xs, ys, h, k => by
    obtain ⟨v, r, rfl, a, b⟩ := repL_cons.mp h
    exact .cons a (b.app k)
theorem RepL.drop : ∀ {l : List Tv} {xs : List V} (n : Nat), RepL K G l xs -> RepL K G (l.drop n) (xs.drop n)
  | _, _, 0, h => by simpa using h
  | [], xs, n + 1, h => by rw [repL_nil.mp h]; exact .nil
  | t :: l, xs, n + 1, h => by
    obtain ⟨v, r, rfl, a, b⟩ := repL_cons.mp h
    exact b.drop n
theorem RepL.take : ∀ {l : List Tv} {xs : List V} (n : Nat), RepL K G l xs -> RepL K G (l.take n) (xs.take n)
  | _, _, 0, h => by simpa using RepL.nil
  | [], xs, n + 1, h => by rw [repL_nil.mp h]; exact .nil
  | t :: l, xs, n + 1, h => by
    obtain ⟨v, r, rfl, a, b⟩ := repL_cons.mp h
    exact .cons a (b.take n)
theorem RepL.rep {l : List Tv} {xs : List V} (h : RepL K G l xs) : ∀ n : Nat, RepL K G (List.replicate n l).flatten (List.replicate n xs).flatten
  | 0 => .nil
  | n + 1 => by
    rw [List.replicate_succ, List.replicate_succ, List.flatten_cons, List.flatten_cons]
    exact h.app (h.rep n)
theorem RepL.at {l : List Tv} {xs : List V} {i : Int} {t : Tv} (h : RepL K G l xs) (e : atI l i = some t) : ∃ v, atI xs i = some v /\ Rep K G t v := by
  unfold atI at e ⊢
  rw [h.len]
  cases q : ixN l.length i with
  | none => rw [q] at e; cases e
  | some j => rw [q] at e; exact h.get e
theorem RepL.ints : ∀ {ns : List Int}, RepL K G (ns.map Tv.int) (ns.map V.int)
  | [] => .nil
  | n :: ns => .cons (rep_int.mpr rfl) RepL.ints
end
abbrev Pts := Nat -> Hp
def noH : Hp := fun _ => none
structure Uni (H : Hp) (p : Pts) : Prop where
  mem : ∀ b o, H b = some o ↔ ∃ i, p i b = some o
  ap : ∀ i j b, i ≠ j -> p i b = none ∨ p j b = none
def pset (p : Pts) (i : Nat) (A : Hp) : Pts := fun j => if j = i then A else p j
theorem pset_at {p : Pts} {i : Nat} {A : Hp} : pset p i A i = A := by unfold pset; rw [if_pos rfl]
theorem pset_ne {p : Pts} {i j : Nat} {A : Hp} (h : j ≠ i) : pset p i A j = p j := by unfold pset; rw [if_neg h]
theorem pset_pset {p : Pts} {i : Nat} {A B : Hp} : pset (pset p i A) i B = pset p i B := by
  funext j; unfold pset; split <;> rfl
theorem pset_self {p : Pts} {i : Nat} : pset p i (p i) = p := by
  funext j; unfold pset; split
  · rename_i h; rw [h]
  · rfl
def uniH (A B : Hp) : Hp := fun b => match A b with | some o => some o | none => B b
theorem Same.uni {A B : Hp} : Same A (uniH A B) := fun b o e => by unfold uniH; rw [e]
section
variable {H H' : Hp} {p : Pts} {a : Addr} {o : HO} {i j : Nat}
theorem Uni.fresh (u : Uni H p) (h : H a = none) (i : Nat) : p i a = none := by
  cases e : p i a with
  | none => rfl
  | some o => have := (u.mem a o).mpr ⟨i, e⟩; rw [h] at this; cases this
theorem Uni.sub (u : Uni H p) (i : Nat) : Same (p i) H := fun b o e => (u.mem b o).mpr ⟨i, e⟩
theorem Uni.other (u : Uni H p) (h : p i a = some o) (n : j ≠ i) : p j a = none := by
  rcases u.ap j i a n with q | q
  · exact q
  · rw [h] at q; cases q
theorem Uni.put (u : Uni H p) (h : ∀ j, j ≠ i -> p j a = none) (o : HO) : Uni (upd H a o) (pset p i (upd (p i) a o)) := by
  refine ⟨fun b o' => ?_, fun j k b n => ?_⟩
  · by_cases hb : b = a
    · subst hb
      rw [upd_same]
      constructor
      · intro e; cases e; exact ⟨i, by rw [pset_at, upd_same]⟩
      · rintro ⟨j, e⟩
        by_cases hj : j = i
        · subst hj; rw [pset_at, upd_same] at e; exact e
        · rw [pset_ne hj, h j hj] at e; cases e
    · rw [upd_ne hb, u.mem]
      constructor
      · rintro ⟨j, e⟩
        refine ⟨j, ?_⟩
        by_cases hj : j = i
        · subst hj; rw [pset_at, upd_ne hb]; exact e
        · rw [pset_ne hj]; exact e
      · rintro ⟨j, e⟩
        refine ⟨j, ?_⟩
        by_cases hj : j = i
        · subst hj; rw [pset_at, upd_ne hb] at e; exact e
        · rw [pset_ne hj] at e; exact e
  · have at_ : ∀ j, j ≠ i -> pset p i (upd (p i) a o) j b = p j b := fun j hj => by rw [pset_ne hj]
    by_cases hb : b = a
    · subst hb
      by_cases hj : j = i
      · have hk : k ≠ i := fun z => n (hj.trans z.symm)
        exact .inr (by rw [at_ k hk]; exact h k hk)
      · exact .inl (by rw [at_ j hj]; exact h j hj)
    · have e : ∀ j, pset p i (upd (p i) a o) j b = p j b := fun j => by
        by_cases hj : j = i
        · subst hj; rw [pset_at, upd_ne hb]
        · exact at_ j hj
      rw [e j, e k]; exact u.ap j k b n
theorem Uni.alloc (u : Uni H p) (h : H a = none) (i : Nat) (o : HO) : Uni (upd H a o) (pset p i (upd (p i) a o)) := u.put (fun j _ => u.fresh h j) o
def mv (p : Pts) (j : Nat) : Pts := pset (pset p 0 (uniH (p 0) (p j))) j noH
theorem mv_zero {p : Pts} {j : Nat} (h : j ≠ 0) : mv p j 0 = uniH (p 0) (p j) := by unfold mv; rw [pset_ne (Ne.symm h), pset_at]
theorem mv_at {p : Pts} {j : Nat} : mv p j j = noH := by unfold mv; rw [pset_at]
theorem mv_ne {p : Pts} {j k : Nat} (h0 : k ≠ 0) (h : k ≠ j) : mv p j k = p k := by unfold mv; rw [pset_ne h, pset_ne h0]
theorem Uni.mv (u : Uni H p) (hj : j ≠ 0) : Uni H (L2.mv p j) := by
  have val : ∀ k b, L2.mv p j k b = if k = j then none else if k = 0 then (match p 0 b with | some o => some o | none => p j b) else p k b := fun k b => by
    by_cases h1 : k = j
    · subst h1; rw [mv_at, if_pos rfl]; rfl
    · rw [if_neg h1]
      by_cases h2 : k = 0
      · subst h2; rw [mv_zero hj, if_pos rfl]; rfl
      · rw [mv_ne h2 h1, if_neg h2]
  refine ⟨fun b o => ?_, fun k l b n => ?_⟩
  · rw [u.mem]
    constructor
    · rintro ⟨k, e⟩
      by_cases h1 : k = j
      · subst h1
        refine ⟨0, ?_⟩
        rw [val, if_neg (Ne.symm hj), if_pos rfl, u.other e (Ne.symm hj)]; exact e
      · by_cases h2 : k = 0
        · subst h2
          exact ⟨0, by rw [val, if_neg h1, if_pos rfl, e]⟩
        · exact ⟨k, by rw [val, if_neg h1, if_neg h2]; exact e⟩
    · rintro ⟨k, e⟩
      rw [val] at e
      split at e
      · cases e
      · split at e
        · split at e
          · rename_i q; cases e; exact ⟨0, q⟩
          · exact ⟨j, e⟩
        · exact ⟨k, e⟩
  · rw [val, val]
    by_cases k1 : k = j
    · exact .inl (by rw [if_pos k1])
    by_cases l1 : l = j
    · exact .inr (by rw [if_pos l1])
    rw [if_neg k1, if_neg l1]
    by_cases k0 : k = 0
    · subst k0
      have l0 : l ≠ 0 := Ne.symm n
      rw [if_pos rfl, if_neg l0]
      rcases u.ap 0 l b n with q | q
      · rcases u.ap j l b (Ne.symm l1) with q' | q'
        · exact .inl (by rw [q]; exact q')
        · exact .inr q'
      · exact .inr q
    · rw [if_neg k0]
      by_cases l0 : l = 0
      · subst l0
        rw [if_pos rfl]
        rcases u.ap 0 k b (Ne.symm n) with q | q
        · rcases u.ap j k b (Ne.symm k1) with q' | q'
          · exact .inr (by rw [q]; exact q')
          · exact .inl q'
        · exact .inl q
      · rw [if_neg l0]; exact u.ap k l b n
def three (A B C : Hp) : Pts := fun i => match i with | 0 => A | 1 => B | 2 => C | _ => noH
def butH (H A B : Hp) : Hp := fun b => match A b, B b with | none, none => H b | _, _ => none
theorem Uni.gather (u : Uni H p) (k : Nat) (hk : k ≠ 0) (hk1 : k ≠ 1) : Uni H (three (butH H (p 1) (p k)) (p 1) (p k)) /\ Same (p 0) (butH H (p 1) (p k)) := by
  have v : ∀ b, butH H (p 1) (p k) b = match p 1 b, p k b with | none, none => H b | _, _ => none := fun _ => rfl
  refine ⟨⟨fun b o => ?_, fun i j b n => ?_⟩, fun b o e => ?_⟩
  · constructor
    · intro e
      cases e1 : p 1 b with
      | some o1 =>
        have := (u.mem b o1).mpr ⟨1, e1⟩
        rw [e] at this; cases this
        exact ⟨1, e1⟩
      | none =>
        cases e2 : p k b with
        | some o1 =>
          have := (u.mem b o1).mpr ⟨k, e2⟩
          rw [e] at this; cases this
          exact ⟨2, e2⟩
        | none => exact ⟨0, by show butH H (p 1) (p k) b = _; rw [v, e1, e2]; exact e⟩
    · rintro ⟨i, e⟩
      match i, e with
      | 0, e =>
        have e : butH H (p 1) (p k) b = some o := e
        rw [v] at e
        split at e
        · exact e
        · cases e
      | 1, e => exact (u.mem b o).mpr ⟨1, e⟩
      | 2, e => exact (u.mem b o).mpr ⟨k, e⟩
      | _ + 3, e => cases (show (none : Option HO) = some o from e)
  · have h01 : butH H (p 1) (p k) b = none ∨ p 1 b = none := by
      rw [v]; cases e1 : p 1 b with
      | none => exact .inr rfl
      | some _ => exact .inl rfl
    have h02 : butH H (p 1) (p k) b = none ∨ p k b = none := by
      rw [v]; cases e1 : p 1 b with
      | some _ => exact .inl rfl
      | none =>
        cases e2 : p k b with
        | none => exact .inr rfl
        | some _ => exact .inl rfl
    have h12 := u.ap 1 k b (Ne.symm hk1)
    match i, j, n with
    | 0, 0, n => exact absurd rfl n
    | 0, 1, _ => exact h01
    | 0, 2, _ => exact h02
    | 0, _ + 3, _ => exact .inr rfl
    | 1, 0, _ => exact h01.symm
    | 1, 1, n => exact absurd rfl n
    | 1, 2, _ => exact h12
    | 1, _ + 3, _ => exact .inr rfl
    | 2, 0, _ => exact h02.symm
    | 2, 1, _ => exact h12.symm
    | 2, 2, n => exact absurd rfl n
    | 2, _ + 3, _ => exact .inr rfl
    | _ + 3, _, _ => exact .inl rfl
  · have e1 : p 1 b = none := u.other e (by decide)
    have e2 : p k b = none := u.other e hk
    rw [v, e1, e2]
    exact (u.mem b o).mpr ⟨0, e⟩
def restH (p : Pts) (H : Hp) : Hp := fun b => match p 0 b with | some _ => none | none => H b
theorem restH_some (u : Uni H p) {b : Addr} {o : HO} : restH p H b = some o ↔ ∃ i, i ≠ 0 /\ p i b = some o := by
  unfold restH
  constructor
  · intro e
    split at e
    · cases e
    · rename_i q
      obtain ⟨i, hi⟩ := (u.mem b o).mp e
      refine ⟨i, fun z => ?_, hi⟩
      subst z; rw [q] at hi; cases hi
  · rintro ⟨i, hi, e⟩
    rw [u.other e (Ne.symm hi)]
    exact (u.mem b o).mpr ⟨i, e⟩
theorem Uni.two (u : Uni H p) : Uni H (three (p 0) (restH p H) noH) := by
  refine ⟨fun b o => ?_, fun i j b n => ?_⟩
  · constructor
    · intro e
      obtain ⟨i, hi⟩ := (u.mem b o).mp e
      by_cases h : i = 0
      · subst h; exact ⟨0, hi⟩
      · exact ⟨1, (restH_some u).mpr ⟨i, h, hi⟩⟩
    · rintro ⟨i, e⟩
      match i, e with
      | 0, e => exact (u.mem b o).mpr ⟨0, e⟩
      | 1, e =>
        obtain ⟨i, _, hi⟩ := (restH_some u).mp (show restH p H b = some o from e)
        exact (u.mem b o).mpr ⟨i, hi⟩
      | 2, e => cases (show (none : Option HO) = some o from e)
      | _ + 3, e => cases (show (none : Option HO) = some o from e)
  · have h01 : p 0 b = none ∨ restH p H b = none := by
      unfold restH
      cases e : p 0 b with
      | none => exact .inl rfl
      | some _ => exact .inr rfl
    match i, j, n with
    | 0, 0, n => exact absurd rfl n
    | 0, 1, _ => exact h01
    | 0, 2, _ => exact .inr rfl
    | 0, _ + 3, _ => exact .inr rfl
    | 1, 0, _ => exact h01.symm
    | 1, 1, n => exact absurd rfl n
    | 1, 2, _ => exact .inr rfl
    | 1, _ + 3, _ => exact .inr rfl
    | 2, _, _ => exact .inl rfl
    | _ + 3, _, _ => exact .inl rfl
theorem Uni.back (u : Uni H p) {q : Pts} (v : Uni H' q) (h1 : q 1 = restH p H) : Uni H' (pset p 0 (butH H' (q 1) noH)) /\ Same (q 0) (butH H' (q 1) noH) := by
  have val : ∀ b, butH H' (q 1) noH b = match q 1 b with | none => H' b | some _ => none := fun b => by
    show (match q 1 b, noH b with | none, none => H' b | _, _ => none) = _
    cases q 1 b <;> rfl
  refine ⟨⟨fun b o => ?_, fun i j b n => ?_⟩, fun b o e => ?_⟩
  · constructor
    · intro e
      cases e1 : q 1 b with
      | none => exact ⟨0, by rw [pset_at, val, e1]; exact e⟩
      | some o1 =>
        have := (v.mem b o1).mpr ⟨1, e1⟩
        rw [e] at this; cases this
        rw [h1] at e1
        obtain ⟨i, hi, e2⟩ := (restH_some u).mp e1
        exact ⟨i, by rw [pset_ne hi]; exact e2⟩
    · rintro ⟨i, e⟩
      by_cases hi : i = 0
      · subst hi
        rw [pset_at, val] at e
        split at e
        · exact e
        · cases e
      · rw [pset_ne hi] at e
        exact (v.mem b o).mpr ⟨1, by rw [h1]; exact (restH_some u).mpr ⟨i, hi, e⟩⟩
  · have key : ∀ k, k ≠ 0 -> butH H' (q 1) noH b = none ∨ p k b = none := fun k hk => by
      rw [val]
      cases e : p k b with
      | none => exact .inr rfl
      | some o => exact .inl (by rw [h1, (restH_some u).mpr ⟨k, hk, e⟩])
    by_cases hi : i = 0
    · subst hi
      have hj : j ≠ 0 := Ne.symm n
      rw [pset_at, pset_ne hj]; exact key j hj
    · by_cases hj : j = 0
      · subst hj
        rw [pset_at, pset_ne hi]; exact (key i hi).symm
      · rw [pset_ne hi, pset_ne hj]; exact u.ap i j b n
  · rw [val, v.other e (by decide)]
    exact (v.mem b o).mpr ⟨0, e⟩
end
def RepD (K : PySem.W.Frag) (G : Hp) : List (Key × Tv) -> List (Key × V) -> Prop := Paired fun x y => x.1 = y.1 /\ Rep K G x.2 y.2
theorem RepD.up {K : PySem.W.Frag} {G G' : Hp} {d : List (Key × Tv)} {ds : List (Key × V)} (h : RepD K G d ds) (e : Same G G') : RepD K G' d ds := by
  unfold RepD at h ⊢
  induction h with
  | nil => exact .nil
  | cons f _ ih => exact .cons ⟨f.1, f.2.up e⟩ ih
theorem RepD.keys {K : PySem.W.Frag} {G : Hp} {d : List (Key × Tv)} {ds : List (Key × V)} (h : RepD K G d ds) : ds.map (·.1) = d.map (·.1) := by
  unfold RepD at h
  induction h with
  | nil => rfl
  | cons f _ ih => rw [List.map_cons, List.map_cons, ih, f.1]
theorem RepD.vals {K : PySem.W.Frag} {G : Hp} {d : List (Key × Tv)} {ds : List (Key × V)} (h : RepD K G d ds) : RepL K G (d.map (·.2)) (ds.map (·.2)) := by
  unfold RepD at h
  induction h with
  | nil => exact .nil
  | cons f _ ih => exact .cons f.2 ih
theorem zip_unzip {α β : Type} : ∀ l : List (α × β), (l.map (·.1)).zip (l.map (·.2)) = l
  | [] => rfl
  | _ :: l => by rw [List.map_cons, List.map_cons, List.zip_cons_cons, zip_unzip l]
theorem RepD.dic {K : PySem.W.Frag} {G : Hp} {d : List (Key × Tv)} {ds : List (Key × V)} {a : Addr} (h : RepD K G d ds) (e : G a = some (.dK ds)) : Rep K G (.dic (d.map (·.1)) (d.map (·.2))) (.ref a) :=
  rep_dic.mpr ⟨a, ds.map (·.2), rfl, by rw [← h.keys, zip_unzip]; exact e, by simp, h.vals⟩
theorem RepD.of : ∀ {K : PySem.W.Frag} {G : Hp} {ks : List Key} {l : List Tv} {xs : List V}, ks.length = l.length -> RepL K G l xs -> RepD K G (ks.zip l) (ks.zip xs)
  | _, _, [], l, xs, _, _ => by rw [List.zip_nil_left, List.zip_nil_left]; exact .nil
  | _, _, k :: ks, [], xs, n, _ => by cases n
  | _, _, k :: ks, t :: l, xs, n, h => by
    obtain ⟨v, r, rfl, a, b⟩ := repL_cons.mp h
    rw [List.zip_cons_cons, List.zip_cons_cons]
    exact .cons ⟨rfl, a⟩ (RepD.of (by simpa using n) b)
inductive Sl where
  | un | va (t : Tv) | ow (D : Addr) (l : List Tv) | od (D : Addr) (d : List (Key × Tv))
abbrev En := List Sl
def Sl.frz : Sl -> Tv
  | .un => .non
  | .va t => t
  | .ow _ l => .lst l
  | .od _ d => .dic (d.map (·.1)) (d.map (·.2))
def Sl.mine : Sl -> Bool
  | .ow _ _ => true
  | .od _ _ => true
  | _ => false
def oneH (D : Addr) (o : HO) : Hp := upd noH D o
theorem oneH_at {D : Addr} {o : HO} : oneH D o D = some o := upd_same
theorem oneH_ne {D b : Addr} {o : HO} (h : b ≠ D) : oneH D o b = none := upd_ne h
def SlotR (K : PySem.W.Frag) (G O : Hp) (o : Option V) : Sl -> Prop
  | .un => O = noH
  | .va t => O = noH /\ ∃ v, o = some v /\ Rep K G t v
  | .ow D l => ∃ xs, o = some (.ref D) /\ O = oneH D (.lst xs) /\ RepL K G l xs
  | .od D d => ∃ ds, o = some (.ref D) /\ O = oneH D (.dK ds) /\ RepD K G d ds
structure ER (K : PySem.W.Frag) (p : Pts) (H : Hp) (σ : St) (ρ : En) : Prop where
  uni : Uni H p
  len : σ.length = ρ.length
  slot : ∀ i s, ρ[i]? = some s -> SlotR K (p 0) (p (i + 2)) (σ[i]?).join s
  out : ∀ i, ρ.length <= i -> p (i + 2) = noH
structure Grow (p p' : Pts) : Prop where
  same : Same (p 0) (p' 0)
  fr : p' 1 = p 1
section
variable {K : PySem.W.Frag} {p p' p'' : Pts} {H H' G G' O : Hp} {σ σ' : St} {ρ ρ' : En} {i : Nat} {t : Tv} {v : V} {o : Option V} {s : Sl} {D : Addr} {l : List Tv}
theorem Grow.refl : Grow p p := ⟨Same.refl _, rfl⟩
theorem Grow.trans (a : Grow p p') (b : Grow p' p'') : Grow p p'' := ⟨a.same.trans b.same, b.fr.trans a.fr⟩
theorem SlotR.up (e : Same G G') (h : SlotR K G O o s) : SlotR K G' O o s := by
  cases s with
  | un => exact h
  | va t => obtain ⟨a, v, b, c⟩ := h; exact ⟨a, v, b, c.up e⟩
  | ow D l => obtain ⟨xs, a, b, c⟩ := h; exact ⟨xs, a, b, c.up e⟩
  | od D d => obtain ⟨xs, a, b, c⟩ := h; exact ⟨xs, a, b, c.up e⟩
theorem ER.grow (h : ER K p H σ ρ) (e : Same (p 0) G') (u : Uni H' (pset p 0 G')) : ER K (pset p 0 G') H' σ ρ where
  uni := u
  len := h.len
  slot := fun i s q => by
    rw [pset_at, pset_ne (by omega)]
    exact (h.slot i s q).up e
  out := fun i hi => by rw [pset_ne (by omega)]; exact h.out i hi
theorem grow0 (e : Same (p 0) G') : Grow p (pset p 0 G') := ⟨by rw [pset_at]; exact e, pset_ne (by decide)⟩
theorem ER.alloc (h : ER K p H σ ρ) {a : Addr} (n : H a = none) (o : HO) : ER K (pset p 0 (upd (p 0) a o)) (upd H a o) σ ρ /\ Same (p 0) (upd (p 0) a o) := by
  have s : Same (p 0) (upd (p 0) a o) := fun b o' e => by rw [upd_ne (ne_of_none e (h.uni.fresh n 0))]; exact e
  exact ⟨h.grow s (h.uni.alloc n 0 o), s⟩
theorem ER.get (h : ER K p H σ ρ) (e : ρ[i]? = some (.va t)) : ∃ v, σ[i]? = some (some v) /\ Rep K (p 0) t v := by
  obtain ⟨_, v, q, r⟩ := h.slot i _ e
  refine ⟨v, ?_, r⟩
  cases z : σ[i]? with
  | none => rw [z] at q; cases q
  | some o => rw [z] at q; exact congrArg some (show o = some v from q)
theorem ER.own (h : ER K p H σ ρ) (e : ρ[i]? = some (.ow D l)) : ∃ xs, σ[i]? = some (some (.ref D)) /\ H D = some (.lst xs) /\ p (i + 2) = oneH D (.lst xs) /\ RepL K (p 0) l xs := by
  obtain ⟨xs, q, b, r⟩ := h.slot i _ e
  refine ⟨xs, ?_, (h.uni.mem _ _).mpr ⟨i + 2, by rw [b]; exact oneH_at⟩, b, r⟩
  cases z : σ[i]? with
  | none => rw [z] at q; cases q
  | some o => rw [z] at q; exact congrArg some (show o = some (.ref D) from q)
theorem ER.ownD {d : List (Key × Tv)} (h : ER K p H σ ρ) (e : ρ[i]? = some (.od D d)) : ∃ ds, σ[i]? = some (some (.ref D)) /\ H D = some (.dK ds) /\ p (i + 2) = oneH D (.dK ds) /\ RepD K (p 0) d ds := by
  obtain ⟨xs, q, b, r⟩ := h.slot i _ e
  refine ⟨xs, ?_, (h.uni.mem _ _).mpr ⟨i + 2, by rw [b]; exact oneH_at⟩, b, r⟩
  cases z : σ[i]? with
  | none => rw [z] at q; cases q
  | some o => rw [z] at q; exact congrArg some (show o = some (.ref D) from q)
theorem mv_grow (j : Nat) : Grow p (mv p (j + 2)) := ⟨by rw [mv_zero (by omega)]; exact Same.uni, mv_ne (by decide) (by omega)⟩
theorem ER.mvd (h : ER K p H σ ρ) (i : Nat) : Uni H (mv p (i + 2)) /\ ∀ j s, j ≠ i -> ρ[j]? = some s -> SlotR K (mv p (i + 2) 0) (mv p (i + 2) (j + 2)) (σ[j]?).join s := by
  refine ⟨h.uni.mv (by omega), fun j s n e => ?_⟩
  rw [mv_ne (k := j + 2) (by omega) (by omega)]
  exact (h.slot j s e).up (mv_grow i).same
theorem ER.set (h : ER K p H σ ρ) (i : Nat) (r : Rep K (p 0) t v) : ER K (mv p (i + 2)) H (σ.set i (some v)) (ρ.set i (.va t)) := by
  obtain ⟨u, sl⟩ := h.mvd i
  refine ⟨u, by rw [List.length_set, List.length_set]; exact h.len, fun j s e => ?_, fun j hj => ?_⟩
  · by_cases q : j = i
    · subst q
      have hj : j < ρ.length := by
        have := (List.getElem?_eq_some_iff.mp e).1
        rw [List.length_set] at this; exact this
      rw [List.getElem?_set_self hj] at e
      cases e
      rw [List.getElem?_set_self (by rw [h.len]; exact hj), mv_at]
      exact ⟨rfl, v, rfl, r.up (mv_grow j).same⟩
    · rw [List.getElem?_set_ne (Ne.symm q)] at e
      rw [List.getElem?_set_ne (Ne.symm q)]
      exact sl j s q e
  · rw [List.length_set] at hj
    by_cases q : j = i
    · rw [q, mv_at]
    · rw [mv_ne (by omega) (by omega)]; exact h.out j hj
theorem ER.setNew (h : ER K p H σ ρ) {xs : List V} (hi : i < ρ.length) (n : H D = none) (r : RepL K (p 0) l xs) :
    ER K (pset (mv p (i + 2)) (i + 2) (oneH D (.lst xs))) (upd H D (.lst xs)) (σ.set i (some (.ref D))) (ρ.set i (.ow D l)) /\ Grow p (pset (mv p (i + 2)) (i + 2) (oneH D (.lst xs))) := by
  obtain ⟨u, sl⟩ := h.mvd i
  have u2 := u.alloc n (i + 2) (.lst xs)
  rw [mv_at] at u2
  have e0 : pset (mv p (i + 2)) (i + 2) (oneH D (.lst xs)) 0 = mv p (i + 2) 0 := pset_ne (by omega)
  refine ⟨⟨u2, by rw [List.length_set, List.length_set]; exact h.len, fun j s e => ?_, fun j hj => ?_⟩, ⟨by rw [e0]; exact (mv_grow i).same, by rw [pset_ne (by omega)]; exact (mv_grow i).fr⟩⟩
  · rw [e0]
    by_cases q : j = i
    · subst q
      rw [List.getElem?_set_self hi] at e
      cases e
      rw [List.getElem?_set_self (by rw [h.len]; exact hi), pset_at]
      exact ⟨xs, rfl, rfl, r.up (mv_grow j).same⟩
    · rw [List.getElem?_set_ne (Ne.symm q)] at e
      rw [List.getElem?_set_ne (Ne.symm q), pset_ne (by omega)]
      exact sl j s q e
  · rw [List.length_set] at hj
    rw [pset_ne (by omega), mv_ne (by omega) (by omega)]; exact h.out j hj
theorem ER.putOwn (h : ER K p H σ ρ) {xs : List V} {l' : List Tv} (e : ρ[i]? = some (.ow D l)) (r : RepL K (p 0) l' xs) :
    ER K (pset p (i + 2) (oneH D (.lst xs))) (upd H D (.lst xs)) σ (ρ.set i (.ow D l')) /\ Grow p (pset p (i + 2) (oneH D (.lst xs))) := by
  obtain ⟨ys, e1, e2, e3, _⟩ := h.own e
  have hD : p (i + 2) D = some (.lst ys) := by rw [e3]; exact oneH_at
  have u := h.uni.put (i := i + 2) (a := D) (fun j hj => h.uni.other hD hj) (.lst xs)
  have eo : upd (p (i + 2)) D (.lst xs) = oneH D (.lst xs) := by rw [e3]; exact upd_upd
  rw [eo] at u
  have e0 : pset p (i + 2) (oneH D (.lst xs)) 0 = p 0 := pset_ne (by omega)
  have hi : i < ρ.length := (List.getElem?_eq_some_iff.mp e).1
  refine ⟨⟨u, by rw [List.length_set]; exact h.len, fun j s q => ?_, fun j hj => ?_⟩, ⟨by rw [e0]; exact Same.refl _, pset_ne (by omega)⟩⟩
  · rw [e0]
    by_cases z : j = i
    · subst z
      rw [List.getElem?_set_self hi] at q
      cases q
      rw [e1, pset_at]
      exact ⟨xs, rfl, rfl, r⟩
    · rw [List.getElem?_set_ne (Ne.symm z)] at q
      rw [pset_ne (by omega)]
      exact h.slot j s q
  · rw [List.length_set] at hj
    rw [pset_ne (by omega)]; exact h.out j hj
def frzAt (i : Nat) (ρ : En) : En := match ρ[i]? with | some (.ow D l) => ρ.set i (.va (.lst l)) | some (.od D d) => ρ.set i (.va (.dic (d.map (·.1)) (d.map (·.2)))) | _ => ρ
theorem ER.frz (h : ER K p H σ ρ) (i : Nat) : ∃ p', ER K p' H σ (frzAt i ρ) /\ Grow p p' := by
  have go : ∀ {D : Addr} {t : Tv} {s : Sl}, ρ[i]? = some s -> σ[i]? = some (some (.ref D)) -> Rep K (mv p (i + 2) 0) t (.ref D) -> ∃ p', ER K p' H σ (ρ.set i (.va t)) /\ Grow p p' := fun {D t s} e e1 r' => by
    obtain ⟨u, sl⟩ := h.mvd i
    have hi : i < ρ.length := (List.getElem?_eq_some_iff.mp e).1
    refine ⟨mv p (i + 2), ⟨u, by rw [List.length_set]; exact h.len, fun j s q => ?_, fun j hj => ?_⟩, mv_grow i⟩
    · by_cases z : j = i
      · subst z
        rw [List.getElem?_set_self hi] at q
        cases q
        rw [e1, mv_at]
        exact ⟨rfl, _, rfl, r'⟩
      · rw [List.getElem?_set_ne (Ne.symm z)] at q
        exact sl j s z q
    · rw [List.length_set] at hj
      by_cases z : j = i
      · rw [z, mv_at]
      · rw [mv_ne (by omega) (by omega)]; exact h.out j hj
  unfold frzAt
  split
  · rename_i D l e
    obtain ⟨xs, e1, e2, e3, r⟩ := h.own e
    exact go e e1 (rep_lst.mpr ⟨D, xs, rfl, by
      rw [mv_zero (by omega)]
      unfold uniH
      have hD : p (i + 2) D = some (.lst xs) := by rw [e3]; exact oneH_at
      rw [h.uni.other hD (by omega)]; exact hD, r.up (mv_grow i).same⟩)
  · rename_i D d e
    obtain ⟨xs, e1, e2, e3, r⟩ := h.ownD e
    exact go e e1 ((r.up (mv_grow i).same).dic (by
      rw [mv_zero (by omega)]
      unfold uniH
      have hD : p (i + 2) D = some (.dK xs) := by rw [e3]; exact oneH_at
      rw [h.uni.other hD (by omega)]; exact hD))
  · exact ⟨p, h, .refl⟩
theorem ER.less (h : ER K p H σ ρ') (hl : ρ.length = ρ'.length) (hs : ∀ (j : Nat) (s : Sl), ρ[j]? = some s -> (s = .un /\ ∀ s', ρ'[j]? = some s' -> s'.mine = false) ∨ ρ'[j]? = some s) : ER K p H σ ρ := by
  refine ⟨h.uni, h.len.trans hl.symm, fun j s e => ?_, fun j hj => h.out j (by omega)⟩
  rcases hs j s e with ⟨rfl, n⟩ | q
  · have hj : j < ρ'.length := by rw [← hl]; exact (List.getElem?_eq_some_iff.mp e).1
    have q := h.slot j _ (List.getElem?_eq_getElem hj)
    cases z : ρ'[j] with
    | un => rw [z] at q; exact q
    | va t => rw [z] at q; exact q.1
    | ow D l => cases n (.ow D l) (by rw [List.getElem?_eq_getElem hj, z])
    | od D d => cases n (.od D d) (by rw [List.getElem?_eq_getElem hj, z])
  · exact h.slot j s q
end
end L2
set_option Elab.async false
set_option linter.all false
set_option maxRecDepth 100000
set_option maxHeartbeats 4000000
namespace L2
open PySem PySem.Spec PyProof.Rows
inductive Ans (α : Type) where
  | ok (a : α) | er (c : Addr)
abbrev Mv (α : Type) := En -> (Ans α -> En -> Prop) -> Prop
inductive Fl where
  | nx | rt (r : Sl) | bk | ct | er (c : Addr)
abbrev Sv := En -> (Fl -> En -> Prop) -> Prop
abbrev Ct := List Tv -> (Ans Sl -> Prop) -> Prop
def bindK {α β : Type} (k : α -> Mv β) (P : Ans β -> En -> Prop) : Ans α -> En -> Prop := fun a ρ1 => match a with | .ok x => k x ρ1 P | .er c => P (.er c) ρ1
def vBind {α β : Type} (m : Mv α) (k : α -> Mv β) : Mv β := fun ρ P => m ρ (bindK k P)
def vVar (i : Nat) : Mv Tv := fun ρ P => match ρ[i]? with | some (.va t) => P (.ok t) ρ | _ => False
def vC (t : Tv) : Mv Tv := fun ρ P => P (.ok t) ρ
def vOp (W : Tv -> Tv -> (Tv -> Prop) -> Prop) (a b : Mv Tv) : Mv Tv := vBind a fun x => vBind b fun y ρ P => W x y fun t => P (.ok t) ρ
def vUn (W : Tv -> (Tv -> Prop) -> Prop) (a : Mv Tv) : Mv Tv := vBind a fun x ρ P => W x fun t => P (.ok t) ρ
def vArgs : List (Mv Tv) -> Mv (List Tv)
  | [] => fun ρ P => P (.ok []) ρ
  | m :: ms => vBind m fun x => vBind (vArgs ms) fun xs ρ P => P (.ok (x :: xs)) ρ
def vTup (ms : List (Mv Tv)) : Mv Tv := vBind (vArgs ms) fun xs ρ P => P (.ok (.tup xs)) ρ
def vLst (ms : List (Mv Tv)) : Mv Tv := vBind (vArgs ms) fun xs ρ P => P (.ok (.lst xs)) ρ
def vFn (W : List Tv -> (Tv -> Prop) -> Prop) (ms : List (Mv Tv)) : Mv Tv := vBind (vArgs ms) fun xs ρ P => W xs fun t => P (.ok t) ρ
def callK (ρ : En) (P : Ans Tv -> En -> Prop) : Ans Sl -> Prop := fun a => match a with | .ok (.va t) => P (.ok t) ρ | .ok (.ow _ l) => P (.ok (.lst l)) ρ | .ok (.od _ d) => P (.ok (.dic (d.map (·.1)) (d.map (·.2)))) ρ | .ok .un => False | .er c => P (.er c) ρ
def vCall (C : Ct) (ms : List (Mv Tv)) : Mv Tv := vBind (vArgs ms) fun xs ρ P => C xs (callK ρ P)
def vIf {α : Type} (c : Mv Bool) (a b : Mv α) : Mv α := vBind c fun x => if x then a else b
def vTest (W : Tv -> (Bool -> Prop) -> Prop) (m : Mv Tv) : Mv Bool := vBind m fun x ρ P => W x fun t => P (.ok t) ρ
def vAnd (a b : Mv Bool) : Mv Bool := vBind a fun x => if x then b else fun ρ P => P (.ok false) ρ
def vOr (a b : Mv Bool) : Mv Bool := vBind a fun x => if x then fun ρ P => P (.ok true) ρ else b
def vNot (a : Mv Bool) : Mv Bool := vBind a fun x ρ P => P (.ok (!x)) ρ
def vYes : Mv Bool := fun ρ P => P (.ok true) ρ
def vAndV (a b : Mv Tv) : Mv Tv := vBind a fun x => match x with | .bl c => (if c = true then b else fun ρ P => P (.ok (.bl false)) ρ) | _ => fun _ _ => False
def vSeqI (m : Mv Tv) : Mv (List Tv) := vBind m fun x => match x with | .tup l => fun ρ P => P (.ok l) ρ | .lst l => fun ρ P => P (.ok l) ρ | .scr l => fun ρ P => P (.ok l) ρ | _ => fun _ _ => False
def rngL (lo : Int) (n : Nat) : List Tv := (List.range n).map fun (k : Nat) => Tv.int (lo + k)
def vRng (m : Mv Tv) : Mv (List Tv) := vBind (vArgs [m]) fun x => match x with | [.int j] => fun ρ P => (-(2 ^ 62) <= j /\ j < 2 ^ 62) /\ P (.ok (rngL 0 j.toNat)) ρ | _ => fun _ _ => False
def enumL (l : List Tv) : List Tv := l.mapIdx fun i t => .tup [.int i, t]
def vEnumT (m : Mv Tv) : Mv (List Tv) := vBind (vArgs [m]) fun x => match x with | [.tup l] => fun ρ P => P (.ok (enumL l)) ρ | _ => fun _ _ => False
abbrev Gv := Tv -> En -> Option En
def gV (i : Nat) : Gv := fun t ρ => some (ρ.set i (.va t))
def setAll : List Nat -> List Tv -> En -> En
  | i :: is, t :: ts, ρ => setAll is ts (ρ.set i (.va t))
  | _, _, ρ => ρ
def gT (is : List Nat) : Gv := fun t ρ => match t with | .tup l => if l.length = is.length then some (setAll is l ρ) else none | _ => none
def compW (g : Gv) (c : Mv Bool) (e : Mv Tv) (ρ0 : En) : List Tv -> List Tv -> (List Tv -> Prop) -> Prop
  | [], acc, P => P acc
  | x :: xs, acc, P => ∃ ρ, g x ρ0 = some ρ /\ c ρ fun b ρ1 => ρ1 = ρ /\ match b with
    | .ok true => e ρ fun r ρ2 => ρ2 = ρ /\ match r with | .ok y => compW g c e ρ0 xs (acc ++ [y]) P | .er _ => False
    | .ok false => compW g c e ρ0 xs acc P
    | .er _ => False
def capt (nt : Nat) (js : List Nat) (ρ : En) : En := List.replicate nt .un ++ js.map fun j => match ρ[j]? with | some (.va t) => .va t | _ => .un
def vComp (nt : Nat) (js : List Nat) (it : Mv (List Tv)) (g : Gv) (c : Mv Bool) (e : Mv Tv) : Mv Tv :=
  vBind it fun xs ρ P => xs.length < sizeLine /\ compW g c e (capt nt js ρ) xs [] fun ys => P (.ok (.lst ys)) ρ
def vNext : Sv := fun ρ P => P .nx ρ
def seqK (b : Sv) (P : Fl -> En -> Prop) : Fl -> En -> Prop := fun f ρ1 => match f with | .nx => b ρ1 P | .rt r => P (.rt r) ρ1 | .bk => P .bk ρ1 | .ct => P .ct ρ1 | .er c => P (.er c) ρ1
def vSeq (a b : Sv) : Sv := fun ρ P => a ρ (seqK b P)
def doK {α : Type} (k : α -> Sv) (P : Fl -> En -> Prop) : Ans α -> En -> Prop := fun a ρ1 => match a with | .ok x => k x ρ1 P | .er c => P (.er c) ρ1
def vDo {α : Type} (m : Mv α) (k : α -> Sv) : Sv := fun ρ P => m ρ (doK k P)
def vSet (i : Nat) (m : Mv Tv) : Sv := vDo m fun t ρ P => P .nx (ρ.set i (.va t))
def vPar (i j : Nat) (a b : Mv Tv) : Sv := vDo (vArgs [a, b]) fun ts ρ P => match ts with | [x, y] => P .nx ((ρ.set i (.va x)).set j (.va y)) | _ => False
def vRet (m : Mv Tv) : Sv := vDo m fun t ρ P => P (.rt (.va t)) ρ
def vRetO (i : Nat) : Sv := fun ρ P => match ρ[i]? with | some (.ow D l) => P (.rt (.ow D l)) ρ | _ => False
def vIfS (c : Mv Bool) (a b : Sv) : Sv := vDo c fun x => if x then a else b
def vNewL (i : Nat) (ms : List (Mv Tv)) : Sv := vDo (vArgs ms) fun xs ρ P => ∀ D, P .nx (ρ.set i (.ow D xs))
def vApp (i : Nat) (m : Mv Tv) : Sv := fun ρ P => match ρ[i]? with
  | some (.ow _ _) => vDo m (fun t ρ P => match ρ[i]? with | some (.ow D l) => l.length < sizeLine /\ P .nx (ρ.set i (.ow D (l ++ [t]))) | _ => False) ρ P
  | _ => False
def vFrz (i : Nat) (s : Sv) : Sv := fun ρ P => s (frzAt i ρ) P
def turnK (K : En -> Prop) (P : Fl -> En -> Prop) : Fl -> En -> Prop := fun f ρ2 => match f with | .nx => K ρ2 | .ct => K ρ2 | .bk => P .nx ρ2 | .rt r => P (.rt r) ρ2 | .er c => P (.er c) ρ2
def forW (g : Gv) (b : Sv) : List Tv -> Sv
  | [] => fun ρ P => P .nx ρ
  | x :: xs => fun ρ P => ∃ ρ', g x ρ = some ρ' /\ b ρ' (turnK (fun ρ2 => forW g b xs ρ2 P) P)
def vFor (it : Mv (List Tv)) (g : Gv) (b : Sv) : Sv := vDo it fun xs => forW g b xs
def vWhile (c : Mv Bool) (b : Sv) : Sv := fun ρ P => ∃ W : Nat -> En -> Prop, (∃ m, W m ρ) /\ ∀ m ρ, W m ρ -> c ρ fun a ρ1 => match a with
  | .ok x => (if x = true then fun ρ1 => b ρ1 (turnK (fun ρ2 => ∃ m', m' < m /\ W m' ρ2) P) else fun ρ1 => P .nx ρ1) ρ1
  | .er c => P (.er c) ρ1
def bodyK (P : Ans Sl -> Prop) : Fl -> En -> Prop := fun f _ => match f with | .rt r => P (.ok r) | .nx => P (.ok (.va .non)) | .er c => P (.er c) | .bk => False | .ct => False
def bodyC (n : Nat) (b : Sv) : Ct := fun ts P => b (ts.map Sl.va ++ List.replicate (n - ts.length) Sl.un) (bodyK P)
section
variable {K : PySem.W.Frag} {E : St -> XK}
def tA {α β : Type} (K : PySem.W.Frag) (E : St -> XK) (R : Hp -> α -> β -> Prop) (m : Mv α) (p : Pts) (ρ : En) (σ : St) (Q : β -> Hp -> Prop) : Prop :=
  ∃ P, m ρ P /\ (∀ a ρ', P (.ok a) ρ' -> ∀ v p' H', Grow p p' -> ER K p' H' σ ρ' -> R (p' 0) a v -> Q v H') /\ (∀ c ρ', P (.er c) ρ' -> ∀ p' H', Grow p p' -> ER K p' H' σ ρ' -> E σ (.ref c) none H')
def tG {α β : Type} (K : PySem.W.Frag) (E : St -> XK) (R : Hp -> α -> β -> Prop) (m : Mv α) (σ : St) (H : Hp) (Q : β -> Hp -> Prop) : Prop := ∃ p ρ, ER K p H σ ρ /\ tA K E R m p ρ σ Q
abbrev RB : Hp -> Bool -> Bool -> Prop := fun _ a b => b = a
def tV (K : PySem.W.Frag) (E : St -> XK) (m : Mv Tv) : TE := tG K E (Rep K) m
def tVs (K : PySem.W.Frag) (E : St -> XK) (m : Mv (List Tv)) : TA := tG K E (RepL K) m
def tVt (K : PySem.W.Frag) (E : St -> XK) (m : Mv Bool) : TT := tG K E RB m
def tVa (K : PySem.W.Frag) (E : St -> XK) (ms : List (Mv Tv)) : TA := fun σ H Q => tVs K E (vArgs ms) σ H fun vs H' => vs.length = ms.length -> Q vs H'
theorem tA.mono {α β : Type} {R : Hp -> α -> β -> Prop} {m : Mv α} {p : Pts} {ρ : En} {σ : St} {Q Q' : β -> Hp -> Prop} (h : tA K E R m p ρ σ Q) (k : ∀ v H, Q v H -> Q' v H) : tA K E R m p ρ σ Q' :=
  let ⟨P, a, b, c⟩ := h; ⟨P, a, fun x ρ' q v p' H' g e r => k _ _ (b x ρ' q v p' H' g e r), c⟩
theorem tA.bind {α β γ δ : Type} {R1 : Hp -> α -> β -> Prop} {R2 : Hp -> γ -> δ -> Prop} {m : Mv α} {k : α -> Mv γ} {p : Pts} {ρ : En} {σ : St} {Q : δ -> Hp -> Prop} (h : tA K E R2 (vBind m k) p ρ σ Q) :
    tA K E R1 m p ρ σ (fun v H1 => ∃ x p1 ρ1, Grow p p1 /\ ER K p1 H1 σ ρ1 /\ R1 (p1 0) x v /\ tA K E R2 (k x) p1 ρ1 σ Q) := by
  obtain ⟨P, a, b, c⟩ := h
  refine ⟨_, a, fun x ρ' q v p' H' g e r => ⟨x, p', ρ', g, e, r, P, q, fun y ρ2 q2 v2 p2 H2 g2 => b y ρ2 q2 v2 p2 H2 (g.trans g2), fun y ρ2 q2 p2 H2 g2 => c y ρ2 q2 p2 H2 (g.trans g2)⟩, fun x ρ' q p' H' g e => c x ρ' q p' H' g e⟩
theorem tA.pure {α β : Type} {R : Hp -> α -> β -> Prop} {x : α} {p : Pts} {ρ : En} {σ : St} {H : Hp} {v : β} {Q : β -> Hp -> Prop} (h : tA K E R (fun ρ P => P (.ok x) ρ) p ρ σ Q) (e : ER K p H σ ρ) (r : R (p 0) x v) : Q v H :=
  let ⟨_, a, b, _⟩ := h; b x ρ a v p H .refl e r
end
section
variable {X : Cx} {K : PySem.W.Frag} {E : St -> XK}
theorem PE.imp {e : Expr} {t t' : TE} (h : PE X e t) (k : ∀ σ H Q, t' σ H Q -> t σ H Q) : PE X e t' := fun pins s σ H Q I q => h pins s σ H Q I (k σ H Q q)
theorem PT.imp {e : Expr} {t t' : TT} (h : PT X e t) (k : ∀ σ H Q, t' σ H Q -> t σ H Q) : PT X e t' := fun pins s σ H Q I q => h pins s σ H Q I (k σ H Q q)
theorem PW.imp {e : Expr} {t t' : TT} (h : PW X e t) (k : ∀ σ H Q, t' σ H Q -> t σ H Q) : PW X e t' := fun w pins s σ H Q I q => h w pins s σ H Q I (k σ H Q q)
theorem PA.imp {e : List Expr} {t t' : TA} (h : PA X e t) (k : ∀ σ H Q, t' σ H Q -> t σ H Q) : PA X e t' := fun pos pins s σ H Q I q => h pos pins s σ H Q I (k σ H Q q)
theorem PS.imp {e : Stmt} {t t' : TS} (h : PS X e t) (k : ∀ D σ H, t' D σ H -> t D σ H) : PS X e t' := fun pins s σ H D I q => h pins s σ H D I (k D σ H q)
theorem PSs.imp {e : List Stmt} {t t' : TS} (h : PSs X e t) (k : ∀ D σ H, t' D σ H -> t D σ H) : PSs X e t' := fun pins s σ H D I q => h pins s σ H D I (k D σ H q)
theorem PI.imp {tg e : Expr} {t t' : TI} (h : PI X tg e t) (k : ∀ σ H R, t' σ H R -> t σ H R) : PI X tg e t' := fun pins s σ H R I q => h pins s σ H R I (k σ H R q)
theorem PIf.imp {e : List Expr} {t t' : TT} (h : PIf X e t) (k : ∀ σ H Q, t' σ H Q -> t σ H Q) : PIf X e t' := fun pins s σ H Q I q => h pins s σ H Q I (k σ H Q q)
theorem v_var {i : Nat} {x : Str} {pos : Pos} (hN : X.N[i]? = some x) (hv : Vis X.env.scope x) (hd : (x == ("__debug__" : Str)) = false := by decide) (hcd : (x == ("__classdict__" : Str)) = false := by decide) : PE X (.Name x pos) (tV K E (vVar i)) :=
  (pe_var hN hv hd hcd).imp fun σ H Q ⟨p, ρ, er, P, a, b, _⟩ => by
    unfold vVar at a
    split at a
    · rename_i t e
      obtain ⟨v, h1, h2⟩ := er.get e
      exact ⟨v, h1, b t ρ a v p H .refl er h2⟩
    · exact a.elim
theorem v_const {e : Expr} {t : Tv} {v : V} (h : PE X e (tC v)) (r : ∀ G, Rep K G t v) : PE X e (tV K E (vC t)) :=
  h.imp fun σ H Q ⟨p, ρ, er, P, a, b, _⟩ => b t ρ a v p H .refl er (r _)
theorem v_int {i : Int} {j : Nat} {pos : Pos} : PE X (.Constant (.int i) j pos) (tV K E (vC (.int i))) := v_const pe_int fun _ => rep_int.mpr rfl
theorem v_bl {b : Bool} {j : Nat} {pos : Pos} : PE X (.Constant (.bool b) j pos) (tV K E (vC (.bl b))) := v_const pe_bl fun _ => rep_bl.mpr rfl
theorem v_str {x : Str} {j : Nat} {pos : Pos} : PE X (.Constant (.str x) j pos) (tV K E (vC (.str x))) := v_const pe_str fun _ => rep_str.mpr rfl
theorem v_glob {x : Str} {v : V} {u : Value} {t : Tv} {pos : Pos} (hg : Gl X x) (hm : X.mg x = some u) (r : RelV v u) (hr : ∀ G, Rep K G t v) (hd : (x == ("__debug__" : Str)) = false := by decide) : PE X (.Name x pos) (tV K E (vC t)) := v_const (pe_glob hg hm r hd) hr
theorem v_ty {x : Str} {T : String} {pos : Pos} (hg : Gl X x) (hm : X.mg x = none) (hv : bootBuiltins x = some (.type T)) (hn : x ≠ "__name__" := by decide) (hd : (x == ("__debug__" : Str)) = false := by decide) : PE X (.Name x pos) (tV K E (vC (.ty T))) := v_const (pe_bltn (v := .ty T) hg hm hv rfl hn hd) fun _ => rep_ty.mpr rfl
def rV (K : PySem.W.Frag) (W : Tv -> Tv -> (Tv -> Prop) -> Prop) : R2 := fun x y H Q => ∃ p a b P, Uni H p /\ Rep K (p 0) a x /\ Rep K (p 0) b y /\ W a b P /\ ∀ t, P t -> ∀ v G' H', Same (p 0) G' -> Uni H' (pset p 0 G') -> Rep K G' t v -> Q v H'
def rV1 (K : PySem.W.Frag) (W : Tv -> (Tv -> Prop) -> Prop) : V -> Hp -> VK -> Prop := fun x H Q => ∃ p a P, Uni H p /\ Rep K (p 0) a x /\ W a P /\ ∀ t, P t -> ∀ v G' H', Same (p 0) G' -> Uni H' (pset p 0 G') -> Rep K G' t v -> Q v H'
def rVs (K : PySem.W.Frag) (W : List Tv -> (Tv -> Prop) -> Prop) : List V -> Hp -> VK -> Prop := fun xs H Q => ∃ p l P, Uni H p /\ RepL K (p 0) l xs /\ W l P /\ ∀ t, P t -> ∀ v G' H', Same (p 0) G' -> Uni H' (pset p 0 G') -> Rep K G' t v -> Q v H'
theorem tail_W {W : (Tv -> Prop) -> Prop} {p : Pts} {ρ : En} {σ : St} {H : Hp} {Q : VK} (er : ER K p H σ ρ) (h : tA K E (Rep K) (fun ρ P => W fun t => P (.ok t) ρ) p ρ σ Q) : ∃ P, W P /\ ∀ t, P t -> ∀ v G' H', Same (p 0) G' -> Uni H' (pset p 0 G') -> Rep K G' t v -> Q v H' := by
  obtain ⟨P, a, b, _⟩ := h
  exact ⟨_, a, fun t q v G' H' s u r => b t ρ q v _ H' (grow0 s) (er.grow s u) (by rw [pset_at]; exact r)⟩
theorem op_tail {W : Tv -> Tv -> (Tv -> Prop) -> Prop} {ma mb : Mv Tv} : ∀ σ H Q, tV K E (vOp W ma mb) σ H Q -> tOp (rV K W) (tV K E ma) (tV K E mb) σ H Q := fun σ H Q ⟨p, ρ, er, h⟩ =>
  ⟨p, ρ, er, h.bind.mono fun v H1 ⟨x, p1, ρ1, g1, er1, r1, h1⟩ => ⟨p1, ρ1, er1, h1.bind.mono fun u H2 ⟨y, p2, ρ2, g2, er2, r2, h2⟩ =>
    let ⟨P, a, b⟩ := tail_W er2 h2; ⟨p2, x, y, P, er2.uni, r1.up g2.same, r2, a, b⟩⟩⟩
theorem v_op {W : Tv -> Tv -> (Tv -> Prop) -> Prop} {op : Operator} {a b : Expr} {ma mb : Mv Tv} {pos : Pos} (ho : OpR X (binaryOp op) (rV K W)) (ha : PE X a (tV K E ma)) (hb : PE X b (tV K E mb)) : PE X (.BinOp a op b pos) (tV K E (vOp W ma mb)) := (pe_op ho ha hb).imp op_tail
theorem v_cmp {W : Tv -> Tv -> (Tv -> Prop) -> Prop} {op : CmpOp} {a b : Expr} {ma mb : Mv Tv} {pos : Pos} (ho : OpR X (compareOp op) (rV K W)) (ha : PE X a (tV K E ma)) (hb : PE X b (tV K E mb)) (hm : behindInMarks op b = false) : PE X (.Compare a [op] [b] pos) (tV K E (vOp W ma mb)) := (pe_cmpR ho ha hb hm).imp op_tail
theorem v_ix {W : Tv -> Tv -> (Tv -> Prop) -> Prop} {a b : Expr} {ma mb : Mv Tv} {pos : Pos} (ho : IxR X (rV K W)) (ha : PE X a (tV K E ma)) (hb : PE X b (tV K E mb)) (hs : PlainIx b) : PE X (.Subscript a b pos) (tV K E (vOp W ma mb)) := (pe_ix ho ha hb hs).imp op_tail
theorem v_un {W : Tv -> (Tv -> Prop) -> Prop} {op : UnaryOp} {a : Expr} {ma : Mv Tv} {pos : Pos} (ho : UnR X (unaryOp op) (rV1 K W)) (ha : PE X a (tV K E ma)) : PE X (.UnaryOp op a pos) (tV K E (vUn W ma)) :=
  (pe_un ho ha).imp fun σ H Q ⟨p, ρ, er, h⟩ => ⟨p, ρ, er, h.bind.mono fun v H1 ⟨x, p1, ρ1, g1, er1, r1, h1⟩ => let ⟨P, a, b⟩ := tail_W er1 h1; ⟨p1, x, P, er1.uni, r1, a, b⟩⟩
def wBl (W : Tv -> Tv -> (Tv -> Prop) -> Prop) : Tv -> Tv -> (Bool -> Prop) -> Prop := fun x y k => W x y fun t => match t with | .bl b => k b | _ => False
def vCmp (W : Tv -> Tv -> (Tv -> Prop) -> Prop) (a b : Mv Tv) : Mv Bool := vBind a fun x => vBind b fun y ρ P => wBl W x y fun t => P (.ok t) ρ
theorem vt_cmp {W : Tv -> Tv -> (Tv -> Prop) -> Prop} {op : CmpOp} {a b : Expr} {ma mb : Mv Tv} {pos : Pos} (ho : OpR X (compareOp op) (rV K W)) (ha : PE X a (tV K E ma)) (hb : PE X b (tV K E mb)) (hm : behindInMarks op b = false) : PT X (.Compare a [op] [b] pos) (tVt K E (vCmp W ma mb)) :=
  (pt_cmpR ho ha hb hm).imp fun σ H Q ⟨p, ρ, er, h⟩ => ⟨p, ρ, er, h.bind.mono fun v H1 ⟨x, p1, ρ1, g1, er1, r1, h1⟩ => ⟨p1, ρ1, er1, h1.bind.mono fun u H2 ⟨y, p2, ρ2, g2, er2, r2, P, a, b, _⟩ =>
    ⟨p2, x, y, _, er2.uni, r1.up g2.same, r2, a, fun t q v G' H' s u r => by
      cases t with
      | bl k => exact ⟨k, rep_bl.mp r, b k ρ2 q k _ H' (grow0 s) (er2.grow s u) rfl⟩
      | _ => exact q.elim⟩⟩⟩
def truT : Tv -> (Bool -> Prop) -> Prop
  | .non, k => k false
  | .bl b, k => k b
  | .int i, k => k (i != 0)
  | .str y, k => y.length <= sizeLine /\ k ((y.length : Int) != 0)
  | .tup l, k => k (!l.isEmpty)
  | .lst l, k => k (!l.isEmpty)
  | .scr l, k => k (!l.isEmpty)
  | _, _ => False
theorem RepL.emp {G : Hp} {l : List Tv} {xs : List V} (h : RepL K G l xs) : xs.isEmpty = l.isEmpty := by
  have := h.len
  cases l <;> cases xs <;> simp at this ⊢
theorem tru_of {x : Tv} {v : V} {p : Pts} {H : Hp} {k : Bool -> Prop} (u : Uni H p) (r : Rep K (p 0) x v) (h : truT x k) : ∃ b, TruV K v H b /\ k b := by
  cases x with
  | non => rw [rep_non.mp r]; exact ⟨_, rfl, h⟩
  | bl b => rw [rep_bl.mp r]; exact ⟨_, rfl, h⟩
  | int i => rw [rep_int.mp r]; exact ⟨_, rfl, h⟩
  | str y => rw [rep_str.mp r]; exact ⟨_, ⟨h.1, rfl⟩, h.2⟩
  | tup l =>
    obtain ⟨a, xs, rfl, s, q⟩ := rep_tupS r
    exact ⟨_, .inr (.inl ⟨xs, (u.sub 0).seqT s, rfl⟩), by rw [q.emp]; exact h⟩
  | lst l =>
    obtain ⟨a, xs, rfl, s, q⟩ := rep_lst.mp r
    exact ⟨_, .inl ⟨xs, SqL.of (u.sub 0 _ _ s), rfl⟩, by rw [q.emp]; exact h⟩
  | scr l =>
    obtain ⟨a, xs, rfl, s, q⟩ := rep_scr.mp r
    exact ⟨_, .inl ⟨xs, (u.sub 0).seq s, rfl⟩, by rw [q.emp]; exact h⟩
  | _ => exact h.elim
theorem vt_tru {a : Expr} {m : Mv Tv} (hK : X.K = K) (ha : PE X a (tV K E m)) (he : ∀ whole, isTrue a X.env whole = (do let v ← whole; standAt a.pos; holding [v] (truthy v)) := by intro _; rfl) : PT X a (tVt K E (vTest truT m)) := by
  subst hK
  exact (pt_truth ha he).imp fun σ H Q ⟨p, ρ, er, h⟩ => ⟨p, ρ, er, h.bind.mono fun v H1 ⟨x, p1, ρ1, g1, er1, r1, P, a, b, _⟩ =>
    let ⟨k, h1, h2⟩ := tru_of er1.uni r1 a; ⟨k, h1, b k ρ1 h2 k p1 H1 .refl er1 rfl⟩⟩
theorem vt_not {a : Expr} {m : Mv Bool} {pos : Pos} (ha : PT X a (tVt K E m)) : PT X (.UnaryOp .Not a pos) (tVt K E (vNot m)) :=
  (pt_not ha).imp fun σ H Q ⟨p, ρ, er, h⟩ => ⟨p, ρ, er, h.bind.mono fun v H1 ⟨x, p1, ρ1, g1, er1, r1, P, a, b, _⟩ => b _ ρ1 a _ p1 H1 .refl er1 (congrArg (!·) r1)⟩
theorem if_tail {α β : Type} {R : Hp -> α -> β -> Prop} {m : Mv Bool} {a b : Mv α} {σ : St} {H : Hp} {Q : β -> Hp -> Prop} (h : tG K E R (vIf m a b) σ H Q) : tVt K E m σ H fun c H1 => if c = true then tG K E R a σ H1 Q else tG K E R b σ H1 Q :=
  let ⟨p, ρ, er, h⟩ := h; ⟨p, ρ, er, h.bind.mono fun v H1 ⟨x, p1, ρ1, g1, er1, r1, h1⟩ => by
    have r1 : v = x := r1
    subst r1
    cases v with
    | true => exact ⟨p1, ρ1, er1, h1⟩
    | false => exact ⟨p1, ρ1, er1, h1⟩⟩
theorem yes_tail {b : Bool} {σ : St} {H : Hp} {Q : Bool -> Hp -> Prop} (h : tVt K E (fun ρ P => P (.ok b) ρ) σ H Q) : Q b H := let ⟨_, _, er, h⟩ := h; h.pure er rfl
theorem vw_and1 {a : Expr} {m : Mv Bool} {pos : Pos} (ha : PT X a (tVt K E m)) : PW X (.BoolOp .And [a] pos) (tVt K E m) := pw_and1 ha
theorem vw_or1 {a : Expr} {m : Mv Bool} {pos : Pos} (ha : PT X a (tVt K E m)) : PW X (.BoolOp .Or [a] pos) (tVt K E m) := pw_or1 ha
theorem vw_and {a b : Expr} {rest : List Expr} {m n : Mv Bool} {pos : Pos} (ha : PT X a (tVt K E m)) (hb : PW X (.BoolOp .And (b :: rest) pos) (tVt K E n)) : PW X (.BoolOp .And (a :: b :: rest) pos) (tVt K E (vAnd m n)) :=
  (pw_and ha hb).imp fun σ H Q ⟨p, ρ, er, h⟩ => ⟨p, ρ, er, h.bind.mono fun v H1 ⟨x, p1, ρ1, g1, er1, r1, h1⟩ => by
    have r1 : v = x := r1
    subst r1
    cases v with
    | true => exact ⟨p1, ρ1, er1, h1⟩
    | false => exact yes_tail ⟨p1, ρ1, er1, h1⟩⟩
theorem vw_or {a b : Expr} {rest : List Expr} {m n : Mv Bool} {pos : Pos} (ha : PT X a (tVt K E m)) (hb : PW X (.BoolOp .Or (b :: rest) pos) (tVt K E n)) : PW X (.BoolOp .Or (a :: b :: rest) pos) (tVt K E (vOr m n)) :=
  (pw_or ha hb).imp fun σ H Q ⟨p, ρ, er, h⟩ => ⟨p, ρ, er, h.bind.mono fun v H1 ⟨x, p1, ρ1, g1, er1, r1, h1⟩ => by
    have r1 : v = x := r1
    subst r1
    cases v with
    | false => exact ⟨p1, ρ1, er1, h1⟩
    | true => exact yes_tail ⟨p1, ρ1, er1, h1⟩⟩
theorem v_ifE {c a b : Expr} {m : Mv Bool} {ma mb : Mv Tv} {pos : Pos} (hc : PT X c (tVt K E m)) (ha : PE X a (tV K E ma)) (hb : PE X b (tV K E mb)) : PE X (.IfExp c a b pos) (tV K E (vIf m ma mb)) := (pe_ifExp hc ha hb).imp fun _ _ _ h => if_tail h
theorem v_and {a b : Expr} {rest : List Expr} {m n : Mv Tv} {pos : Pos} (ha : PE X a (tV K E m)) (hb : PE X (.BoolOp .And (b :: rest) pos) (tV K E n)) : PE X (.BoolOp .And (a :: b :: rest) pos) (tV K E (vAndV m n)) :=
  (pe_and ha hb).imp fun σ H Q ⟨p, ρ, er, h⟩ => ⟨p, ρ, er, h.bind.mono fun v H1 ⟨x, p1, ρ1, g1, er1, r1, h1⟩ => by
    cases x with
    | bl c =>
      refine ⟨c, rep_bl.mp r1, ?_⟩
      cases c with
      | true => exact ⟨p1, ρ1, er1, h1⟩
      | false => exact h1.pure er1 (rep_bl.mpr rfl)
    | _ => obtain ⟨_, z, _⟩ := h1; exact z.elim⟩
theorem v_one {op : BoolOp} {a : Expr} {m : Mv Tv} {pos : Pos} (ha : PE X a (tV K E m)) : PE X (.BoolOp op [a] pos) (tV K E m) := pe_one ha
theorem va_nil : PA X [] (tVa K E []) := pa_nil.imp fun σ H Q ⟨p, ρ, er, h⟩ => h.pure er RepL.nil rfl
theorem va_cons {e : Expr} {es : List Expr} {m : Mv Tv} {ms : List (Mv Tv)} (ha : PE X e (tV K E m)) (hr : PA X es (tVa K E ms)) (hs : starEach (e :: es) X.env = (false, eval e X.env) :: starEach es X.env) : PA X (e :: es) (tVa K E (m :: ms)) :=
  (pa_cons ha hr hs).imp fun σ H Q ⟨p, ρ, er, h⟩ => ⟨p, ρ, er, h.bind.mono fun v H1 ⟨x, p1, ρ1, g1, er1, r1, h1⟩ => ⟨p1, ρ1, er1, h1.bind.mono fun vs H2 ⟨xs, p2, ρ2, g2, er2, r2, h2⟩ hl => h2.pure er2 (.cons (r1.up g2.same) r2) (by rw [List.length_cons, List.length_cons, hl])⟩⟩
theorem tVs.toA {ms : List (Mv Tv)} {σ : St} {H : Hp} {Q : List V -> Hp -> Prop} (h : tVs K E (vArgs ms) σ H Q) : tVa K E ms σ H Q := let ⟨p, ρ, er, h⟩ := h; ⟨p, ρ, er, h.mono fun _ _ q _ => q⟩
theorem PA.toS {es : List Expr} {ms : List (Mv Tv)} (h : PA X es (tVa K E ms)) : PA X es (tVs K E (vArgs ms)) := h.imp fun _ _ _ q => tVs.toA q
theorem le_line {n : Nat} (h : n <= 1000) : n <= sizeLine := Nat.le_of_lt (small1000 h)
theorem v_tup {es : List Expr} {ms : List (Mv Tv)} {k : Nat} {pos : Pos} (h : PA X es (tVa K E ms)) (hz : ms.length <= 1000 := by decide) : PE X (.Tuple es k pos) (tV K E (vTup ms)) :=
  (pe_tup h).imp fun σ H Q ⟨p, ρ, er, h⟩ => ⟨p, ρ, er, h.bind.mono fun vs H1 ⟨xs, p1, ρ1, g1, er1, r1, P, a, b, _⟩ hl => by
    refine ⟨by rw [hl]; exact le_line hz, fun q hq => ?_⟩
    obtain ⟨e2, s2⟩ := er1.alloc hq (.tup vs)
    refine b _ ρ1 a _ _ _ (grow0 s2) e2 (rep_tup.mpr ⟨q, vs, rfl, SqN.of ?_, ?_⟩)
    · rw [pset_at]; exact upd_same
    · rw [pset_at]; exact r1.up s2⟩
theorem v_lst {es : List Expr} {ms : List (Mv Tv)} {pos : Pos} (h : PA X es (tVa K E ms)) (hz : ms.length <= 1000 := by decide) : PE X (.List es pos) (tV K E (vLst ms)) :=
  (pe_lst h).imp fun σ H Q ⟨p, ρ, er, h⟩ => ⟨p, ρ, er, h.bind.mono fun vs H1 ⟨xs, p1, ρ1, g1, er1, r1, P, a, b, _⟩ hl => by
    refine ⟨by rw [hl]; exact le_line hz, fun q hq => ?_⟩
    obtain ⟨e2, s2⟩ := er1.alloc hq (.lst vs)
    refine b _ ρ1 a _ _ _ (grow0 s2) e2 (rep_lst.mpr ⟨q, vs, rfl, ?_, ?_⟩)
    · rw [pset_at]; exact upd_same
    · rw [pset_at]; exact r1.up s2⟩
theorem fn_tail {W : List Tv -> (Tv -> Prop) -> Prop} {ms : List (Mv Tv)} : ∀ σ H Q, tV K E (vFn W ms) σ H Q -> tCB (rVs K W) (tVs K E (vArgs ms)) σ H Q := fun σ H Q ⟨p, ρ, er, h⟩ =>
  ⟨p, ρ, er, h.bind.mono fun vs H1 ⟨xs, p1, ρ1, g1, er1, r1, h1⟩ => let ⟨P, a, b⟩ := tail_W er1 h1; ⟨p1, xs, P, er1.uni, r1, a, b⟩⟩
theorem v_fnB {W : List Tv -> (Tv -> Prop) -> Prop} {x : Str} {id : String} {e : Expr} {es : List Expr} {ms : List (Mv Tv)} {p pos : Pos} (hc : CallR X (.builtin id) (rVs K W)) (hg : Gl X x) (hm : X.mg x = none) (hv : bootBuiltins x = some (.builtin id)) (ha : PA X (e :: es) (tVa K E ms)) (hn : x ≠ "__name__" := by decide) (hdb : (x == ("__debug__" : Str)) = false := by decide)
    (he : starEach (e :: es) X.env = (false, eval e X.env) :: starEach es X.env := by rfl) (hpl : (backTo pos (starEach es X.env)).any (·.1) = false := by rfl) : PE X (.Call (.Name x p) (e :: es) [] pos) (tV K E (vFn W ms)) := (pe_callB hc hg hm hv ha.toS hn hdb he hpl).imp fn_tail
theorem v_fnT {W : List Tv -> (Tv -> Prop) -> Prop} {x : Str} {T : String} {e : Expr} {es : List Expr} {ms : List (Mv Tv)} {p pos : Pos} (hc : CallR X (.type T) (rVs K W)) (hg : Gl X x) (hm : X.mg x = none) (hv : bootBuiltins x = some (.type T)) (ha : PA X (e :: es) (tVa K E ms)) (hn : x ≠ "__name__" := by decide) (hdb : (x == ("__debug__" : Str)) = false := by decide)
    (he : starEach (e :: es) X.env = (false, eval e X.env) :: starEach es X.env := by rfl) (hpl : (backTo pos (starEach es X.env)).any (·.1) = false := by rfl) : PE X (.Call (.Name x p) (e :: es) [] pos) (tV K E (vFn W ms)) := (pe_callTy hc hg hm hv ha.toS hn hdb he hpl).imp fn_tail
def spV (K : PySem.W.Frag) (C : Ct) : Sp := fun vs H Q E => ∃ p ts P, Uni H p /\ (∀ j, 2 <= j -> p j = noH) /\ RepL K (p 0) ts vs /\ C ts P /\
  (∀ r, P (.ok r) -> ∀ v p' H', Grow p p' -> Uni H' p' -> (∀ j, 3 <= j -> p' j = noH) -> SlotR K (p' 0) (p' 2) (some v) r -> Q v H') /\
  (∀ c, P (.er c) -> ∀ p' H', Grow p p' -> Uni H' p' -> (∀ j, 2 <= j -> p' j = noH) -> E (.ref c) none H')
theorem three_ge {A B C : Hp} : ∀ j, 3 <= j -> three A B C j = noH := fun j h => by
  match j, h with
  | _ + 3, _ => rfl
theorem three_ge2 {A B : Hp} : ∀ j, 2 <= j -> three A B noH j = noH := fun j h => by
  match j, h with
  | 2, _ => rfl
  | _ + 3, _ => rfl
theorem Uni.one {H : Hp} {p : Pts} (u : Uni H p) (h3 : ∀ j, 3 <= j -> p j = noH) : Uni H (L2.mv p 2) /\ Grow p (L2.mv p 2) /\ ∀ j, 2 <= j -> L2.mv p 2 j = noH :=
  ⟨u.mv (by decide), mv_grow 0, fun j hj => by
    by_cases e : j = 2
    · rw [e, mv_at]
    · rw [mv_ne (by omega) e]; exact h3 j (by omega)⟩
theorem SlotR.toall {p : Pts} {v : V} {r : Sl} {H : Hp} (u : Uni H p) (h : SlotR K (p 0) (p 2) (some v) r) (hr : r ≠ .un) : Rep K (mv p 2 0) r.frz v := by
  have g := (mv_grow (p := p) 0).same
  cases r with
  | un => exact absurd rfl hr
  | va t =>
    obtain ⟨_, w, e, q⟩ := h
    cases e
    exact q.up g
  | ow D l =>
    obtain ⟨xs, e, b, q⟩ := h
    cases e
    have hD : p 2 D = some (.lst xs) := by rw [b]; exact oneH_at
    refine rep_lst.mpr ⟨D, xs, rfl, ?_, q.up g⟩
    rw [mv_zero (by decide)]
    unfold uniH
    rw [u.other hD (by decide)]
    exact hD
  | od D d =>
    obtain ⟨xs, e, b, q⟩ := h
    cases e
    have hD : p 2 D = some (.dK xs) := by rw [b]; exact oneH_at
    refine (q.up g).dic ?_
    rw [mv_zero (by decide)]
    unfold uniH
    rw [u.other hD (by decide)]
    exact hD
theorem v_call {C : Ct} {CX : CXT} {k : Nat} {f : Addr} {fd : FuncData} {ps : List Str} {x : Str} {p pos : Pos} {e : Expr} {es : List Expr} {ms : List (Mv Tv)} (hK : X.K = K) (F : FnOk X.prog X.w X.K X.mg X.base CX k f fd ps (spV K C)) (hr : Room k X.A) (hg : Gl X x) (hm : X.mg x = some (.ref f)) (hk : PySem.W.keepIn X.K (.ref f) = true) (hb : Binds X.K fd ps []) (hx : PassesS CX X E)
    (ha : PA X (e :: es) (tVa K E ms)) (hdb : (x == ("__debug__" : Str)) = false := by decide) (he : starEach (e :: es) X.env = (false, eval e X.env) :: starEach es X.env := by rfl) (hpl : (backTo pos (starEach es X.env)).any (·.1) = false := by rfl) :
    PE X (.Call (.Name x p) (e :: es) [] pos) (tV K E (vCall C ms)) :=
  (pe_callS F hr hg hm hk hb .nil hx ha.toS hdb he hpl).imp fun σ H Q ⟨p, ρ, er, h⟩ => ⟨p, ρ, er, h.bind.mono fun vs H1 ⟨xs, p1, ρ1, g1, er1, r1, P, a, b, c⟩ => by
    rw [List.append_nil]
    refine ⟨three (p1 0) (restH p1 H1) noH, xs, _, er1.uni.two, three_ge2, r1, a, fun r q v p' H' g u h3 s => ?_, fun c0 q p' H' g u h2 => ?_⟩
    · have hr : r ≠ .un := fun z => by subst z; exact q
      have q : P (.ok r.frz) ρ1 := by
        cases r with
        | un => exact q.elim
        | va t => exact q
        | ow D l => exact q
        | od D d => exact q
      obtain ⟨u2, g2, h2⟩ := u.one h3
      obtain ⟨u3, s3⟩ := er1.uni.back u2 ((g2.fr.trans g.fr : mv p' 2 1 = restH p1 H1))
      have s4 : Same (p1 0) _ := g.same.trans (g2.same.trans s3)
      exact b r.frz ρ1 q v _ H' (grow0 s4) (er1.grow s4 u3) (by rw [pset_at]; exact (s.toall u hr).up s3)
    · obtain ⟨u3, s3⟩ := er1.uni.back u (g.fr : p' 1 = restH p1 H1)
      have s4 : Same (p1 0) _ := g.same.trans s3
      exact c c0 ρ1 q _ H' (grow0 s4) (er1.grow s4 u3)⟩
theorem passE0 {P : Program} {w : World} {X : Cx} : PassesS (CXF P w) X (fun _ => E0) := fun _ _ _ _ _ _ _ h => by
  obtain ⟨_, _, _, _, _, _, _, _, z⟩ := h
  exact z.elim
def JOk (K : PySem.W.Frag) (J : It) (p : Pts) (ts : List Tv) : Prop := ∀ p' H', Same (p 0) (p' 0) -> Uni H' p' ->
  (∀ (i : Nat) t, ts[i]? = some t -> J.go i H' /\ ∀ x H2, J.yld i H' x H2 -> ∃ G2, Same (p' 0) G2 /\ Uni H2 (pset p' 0 G2) /\ Rep K G2 t x) /\ J.stop ts.length H'
def iV (K : PySem.W.Frag) (E : St -> XK) (m : Mv (List Tv)) : TI := fun σ H R => ∃ p ρ, ER K p H σ ρ /\ ∃ P, m ρ P /\ (∀ ts ρ', P (.ok ts) ρ' -> ∀ J p' H', Grow p p' -> ER K p' H' σ ρ' -> JOk K J p' ts -> R J H') /\ (∀ c ρ', P (.er c) ρ' -> ∀ p' H', Grow p p' -> ER K p' H' σ ρ' -> E σ (.ref c) none H')
theorem uni0 {H : Hp} {p : Pts} (u : Uni H p) : Uni H (pset p 0 (p 0)) := by rw [pset_self]; exact u
theorem jok_list {a : Addr} {xs : List V} {p : Pts} {ts : List Tv} (s : SqL K (p 0) a xs) (r : RepL K (p 0) ts xs) : JOk K (Itl K a) p ts := fun p' H' e u => by
  have s' : SqL K H' a xs := (e.trans (u.sub 0)).seq s
  refine ⟨fun i t ht => ?_, ⟨xs, s', by rw [r.len]; exact Nat.le_refl _⟩⟩
  obtain ⟨v, hv, q⟩ := r.get ht
  refine ⟨⟨xs, v, s', hv⟩, fun x H2 ⟨y1, y2⟩ => ⟨p' 0, Same.refl _, by rw [y1]; exact uni0 u, ?_⟩⟩
  have := y2 xs s'
  rw [hv] at this
  cases this
  exact q.up e
theorem jok_tup {a : Addr} {xs : List V} {p : Pts} {ts : List Tv} (s : SqT K (p 0) a xs) (r : RepL K (p 0) ts xs) : JOk K (Itt K a) p ts := fun p' H' e u => by
  have s' : SqT K H' a xs := (e.trans (u.sub 0)).seqT s
  refine ⟨fun i t ht => ?_, ⟨xs, s', by rw [r.len]; exact Nat.le_refl _⟩⟩
  obtain ⟨v, hv, q⟩ := r.get ht
  refine ⟨⟨xs, v, s', hv⟩, fun x H2 ⟨y1, y2⟩ => ⟨p' 0, Same.refl _, by rw [y1]; exact uni0 u, ?_⟩⟩
  have := y2 xs s'
  rw [hv] at this
  cases this
  exact q.up e
def iSeq (K : PySem.W.Frag) (tl : TE) : TI := fun σ H R => tl σ H fun x H1 => ∃ a, x = .ref a /\ (((∃ xs, SqL K H1 a xs) /\ R (Itl K a) H1) ∨ ((∃ xs, SqT K H1 a xs) /\ R (Itt K a) H1))
theorem pi_seq {tg l : Expr} {tl : TE} (hl : PE X l tl) : PI X tg l (iSeq X.K tl) := by
  intro pins s σ H R I h
  refine thn (hl pins s σ H _ I h) fun v s1 ⟨x, H1, I1, r1, q1⟩ => ?_
  obtain ⟨a, e, q⟩ := q1
  subst e
  cases r1
  rcases q with ⟨⟨xs, hq⟩, q⟩ | ⟨⟨xs, hq⟩, q⟩
  · obtain ⟨its, rv, p, hz⟩ := I1.list hq
    refine wpAny_pyIter_list p.isList ?_
    refine ⟨s1.heap.objs.size, [s1.heap.objs.size], _, _, H1, rfl, I1.kept (t' := s1.toks) fun b o e => Heap.get?_push_of_some _ e, turn_list a _, ⟨_, Heap.get?_push_size _ rfl, rfl, rfl⟩, fun b hb => ?_, q⟩
    have e : b = s1.heap.objs.size := by simpa using hb
    subst e
    exact I1.fpOk (Nat.le_refl _) (I1.hok.fresh (Nat.le_refl _))
  · obtain ⟨its, rv, p, hz⟩ := I1.tuple hq
    refine wpAny_pyIter_tuple (show s1.heap.IsTuple a its.toArray from p) ?_
    refine ⟨s1.heap.objs.size, [s1.heap.objs.size], _, _, H1, rfl, I1.kept (t' := s1.toks) fun b o e => Heap.get?_push_of_some _ e, turn_tuple a _, ⟨_, Heap.get?_push_size _ rfl, rfl, rfl⟩, fun b hb => ?_, q⟩
    have e : b = s1.heap.objs.size := by simpa using hb
    subst e
    exact I1.fpOk (Nat.le_refl _) (I1.hok.fresh (Nat.le_refl _))
theorem tA.toI {α : Type} {R1 : Hp -> α -> V -> Prop} {m : Mv α} {k : α -> Mv (List Tv)} {p : Pts} {ρ : En} {σ : St} {H : Hp} {R : It -> Hp -> Prop} (h : ∃ P, vBind m k ρ P /\ (∀ ts ρ', P (.ok ts) ρ' -> ∀ J p' H', Grow p p' -> ER K p' H' σ ρ' -> JOk K J p' ts -> R J H') /\ (∀ c ρ', P (.er c) ρ' -> ∀ p' H', Grow p p' -> ER K p' H' σ ρ' -> E σ (.ref c) none H')) :
    tA K E R1 m p ρ σ (fun v H1 => ∃ x p1 ρ1, Grow p p1 /\ ER K p1 H1 σ ρ1 /\ R1 (p1 0) x v /\ ∃ P, k x ρ1 P /\ (∀ ts ρ', P (.ok ts) ρ' -> ∀ J p' H', Grow p1 p' -> ER K p' H' σ ρ' -> JOk K J p' ts -> R J H') /\ (∀ c ρ', P (.er c) ρ' -> ∀ p' H', Grow p1 p' -> ER K p' H' σ ρ' -> E σ (.ref c) none H')) := by
  obtain ⟨P, a, b, c⟩ := h
  refine ⟨_, a, fun x ρ' q v p' H' g e r => ⟨x, p', ρ', g, e, r, P, q, fun y ρ2 q2 J p2 H2 g2 => b y ρ2 q2 J p2 H2 (g.trans g2), fun y ρ2 q2 p2 H2 g2 => c y ρ2 q2 p2 H2 (g.trans g2)⟩, fun x ρ' q p' H' g e => c x ρ' q p' H' g e⟩
theorem tA.toIs {α : Type} {R1 : Hp -> α -> List V -> Prop} {m : Mv α} {k : α -> Mv (List Tv)} {p : Pts} {ρ : En} {σ : St} {H : Hp} {R : It -> Hp -> Prop} (h : ∃ P, vBind m k ρ P /\ (∀ ts ρ', P (.ok ts) ρ' -> ∀ J p' H', Grow p p' -> ER K p' H' σ ρ' -> JOk K J p' ts -> R J H') /\ (∀ c ρ', P (.er c) ρ' -> ∀ p' H', Grow p p' -> ER K p' H' σ ρ' -> E σ (.ref c) none H')) :
    tA K E R1 m p ρ σ (fun v H1 => ∃ x p1 ρ1, Grow p p1 /\ ER K p1 H1 σ ρ1 /\ R1 (p1 0) x v /\ ∃ P, k x ρ1 P /\ (∀ ts ρ', P (.ok ts) ρ' -> ∀ J p' H', Grow p1 p' -> ER K p' H' σ ρ' -> JOk K J p' ts -> R J H') /\ (∀ c ρ', P (.er c) ρ' -> ∀ p' H', Grow p1 p' -> ER K p' H' σ ρ' -> E σ (.ref c) none H')) := by
  obtain ⟨P, a, b, c⟩ := h
  refine ⟨_, a, fun x ρ' q v p' H' g e r => ⟨x, p', ρ', g, e, r, P, q, fun y ρ2 q2 J p2 H2 g2 => b y ρ2 q2 J p2 H2 (g.trans g2), fun y ρ2 q2 p2 H2 g2 => c y ρ2 q2 p2 H2 (g.trans g2)⟩, fun x ρ' q p' H' g e => c x ρ' q p' H' g e⟩
theorem vi_seq {tg l : Expr} {m : Mv Tv} (hK : X.K = K) (hl : PE X l (tV K E m)) : PI X tg l (iV K E (vSeqI m)) := by
  subst hK
  refine (pi_seq hl).imp fun σ H R ⟨p, ρ, er, h⟩ => ⟨p, ρ, er, (tA.toI (H := H) h).mono fun v H1 ⟨x, p1, ρ1, g1, er1, r1, P, a, b, _⟩ => ?_⟩
  cases x with
  | tup l =>
    obtain ⟨q, xs, rfl, s, r⟩ := rep_tupS r1
    exact ⟨q, rfl, .inr ⟨⟨xs, (er1.uni.sub 0).seqT s⟩, b l ρ1 a _ p1 H1 .refl er1 (jok_tup s r)⟩⟩
  | lst l =>
    obtain ⟨q, xs, rfl, s, r⟩ := rep_lst.mp r1
    exact ⟨q, rfl, .inl ⟨⟨xs, SqL.of (er1.uni.sub 0 _ _ s)⟩, b l ρ1 a _ p1 H1 .refl er1 (jok_list (SqL.of s) r)⟩⟩
  | scr l =>
    obtain ⟨q, xs, rfl, s, r⟩ := rep_scr.mp r1
    exact ⟨q, rfl, .inl ⟨⟨xs, (er1.uni.sub 0).seq s⟩, b l ρ1 a _ p1 H1 .refl er1 (jok_list s r)⟩⟩
  | _ => exact a.elim
theorem jok_rng {lo : Int} {n : Nat} {p : Pts} : JOk K (Itr lo n) p (rngL lo n) := fun p' H' e u => by
  refine ⟨fun i t ht => ?_, by show n <= (rngL lo n).length; unfold rngL; simp⟩
  unfold rngL at ht
  rw [List.getElem?_map] at ht
  obtain ⟨k, hk, rfl⟩ := Option.map_eq_some_iff.mp ht
  obtain ⟨hi, rfl⟩ := List.getElem?_eq_some_iff.mp hk
  rw [List.length_range] at hi
  refine ⟨hi, fun x H2 ⟨y1, y2⟩ => ⟨p' 0, Same.refl _, by rw [y1]; exact uni0 u, ?_⟩⟩
  rw [y2, List.getElem_range]
  exact rep_int.mpr rfl
theorem vi_rng {tg a : Expr} {m : Mv Tv} {p pos : Pos} (hg : Gl X "range") (hm : X.mg "range" = none) (ha : PA X [a] (tVa K E [m])) (hs : starEach [a] X.env = [(false, eval a X.env)] := by rfl) : PI X tg (.Call (.Name "range" p) [a] [] pos) (iV K E (vRng m)) := by
  refine (pi_range1 hg hm ha.toS hs).imp fun σ H R ⟨p, ρ, er, h⟩ => ⟨p, ρ, er, (tA.toIs (H := H) h).mono fun vs H1 ⟨xs, p1, ρ1, g1, er1, r1, P, a, b, _⟩ => ?_⟩
  match xs, a with
  | [.int j], a =>
    obtain ⟨⟨h1, h2⟩, q⟩ := a
    obtain ⟨v, r, rfl, a1, a2⟩ := repL_cons.mp r1
    rw [rep_int.mp a1, repL_nil.mp a2]
    exact ⟨j, rfl, h1, h2, b _ ρ1 q _ p1 H1 .refl er1 jok_rng⟩
theorem pair_laid {H : Hp} {p : Pts} {a : Addr} {x y : V} {s t : Tv} (u : Uni H p) (n : H a = none) (r1 : Rep K (p 0) s x) (r2 : Rep K (p 0) t y) : ∃ G2, Same (p 0) G2 /\ Uni (upd H a (.tup [x, y])) (pset p 0 G2) /\ Rep K G2 (.tup [s, t]) (.ref a) := by
  have s0 : Same (p 0) (upd (p 0) a (.tup [x, y])) := fun b o' e => by rw [upd_ne (ne_of_none e (u.fresh n 0))]; exact e
  exact ⟨_, s0, u.alloc n 0 _, rep_tup.mpr ⟨a, _, rfl, SqN.of upd_same, .cons (r1.up s0) (.cons (r2.up s0) .nil)⟩⟩
theorem enum_get {l : List Tv} {i : Nat} {t : Tv} (h : (enumL l)[i]? = some t) : ∃ s, l[i]? = some s /\ t = .tup [.int i, s] := by
  unfold enumL at h
  rw [List.getElem?_mapIdx] at h
  obtain ⟨s, hs, rfl⟩ := Option.map_eq_some_iff.mp h
  exact ⟨s, hs, rfl⟩
theorem enum_len {l : List Tv} : (enumL l).length = l.length := by unfold enumL; simp
end
end L2
set_option Elab.async false
set_option linter.all false
set_option maxRecDepth 100000
set_option maxHeartbeats 4000000
namespace L2
open PySem PySem.Spec PyProof.Rows
section
variable {X : Cx} {K : PySem.W.Frag} {E : St -> XK}
def TgOk (K : PySem.W.Frag) (g : TG) (f : Gv) : Prop := ∀ p H σ ρ t v ρ' Q, ER K p H σ ρ -> Rep K (p 0) t v -> f t ρ = some ρ' -> (∀ σ' p', Grow p p' -> ER K p' H σ' ρ' -> Q σ' H) -> g v σ H Q
theorem tg_name (i : Nat) : TgOk K (gName i) (gV i) := fun p H σ ρ t v ρ' Q er r e k => by
  cases e
  exact k _ _ (mv_grow i) (er.set i r)
def gNames : List Nat -> TGs
  | [] => gNil
  | i :: is => gCons (gName i) (gNames is)
theorem tg_names : ∀ (is : List Nat) {p : Pts} {H : Hp} {σ : St} {ρ : En} {ts : List Tv} {vs : List V} {Q : St -> Hp -> Prop}, ER K p H σ ρ -> RepL K (p 0) ts vs -> ts.length = is.length -> (∀ σ' p', Grow p p' -> ER K p' H σ' (setAll is ts ρ) -> Q σ' H) -> gNames is vs σ H Q
  | [], p, H, σ, ρ, ts, vs, Q, er, r, hl, k => by
    cases ts with
    | nil => exact ⟨repL_nil.mp r, k σ p .refl er⟩
    | cons _ _ => cases hl
  | i :: is, p, H, σ, ρ, ts, vs, Q, er, r, hl, k => by
    cases ts with
    | nil => cases hl
    | cons t ts =>
      obtain ⟨v, rest, rfl, a, b⟩ := repL_cons.mp r
      refine ⟨v, rest, rfl, tg_names is (er.set i a) (b.up (mv_grow i).same) (by simpa using hl) fun σ' p' g e => k σ' p' ((mv_grow i).trans g) e⟩
theorem tg_tup {is : List Nat} {n : Nat} (hn : n = is.length) : TgOk K (gTup K n (gNames is)) (gT is) := fun p H σ ρ t v ρ' Q er r e k => by
  unfold gT at e
  cases t with
  | tup l =>
    dsimp only at e
    split at e
    · rename_i hl
      cases e
      obtain ⟨a, xs, rfl, s, q⟩ := rep_tupS r
      exact ⟨a, xs, rfl, (er.uni.sub 0).seqT s, by rw [q.len, hl, hn], tg_names is er q hl k⟩
    · cases e
  | _ => cases e
theorem vgs_nil : PGs X [] (gNames []) := pgs_nil
theorem vgs_cons {i : Nat} {is : List Nat} {x : Str} {pos : Pos} {es : List Expr} (hN : X.N.Nodup) (hi : X.N[i]? = some x) (hx : Loc X.env.scope x) (hf : X.fn x = true ∨ X.env.scope.names.lookup x = some .local) (h2 : PGs X es (gNames is))
    (hs : (assignEach (.Name x pos :: es) X.env).map (·.2) = assign (.Name x pos) X.env :: (assignEach es X.env).map (·.2) := by rfl) : PGs X (.Name x pos :: es) (gNames (i :: is)) := pgs_cons (pg_name hN hi hx hf) h2 hs
theorem capt_len {nt : Nat} {js : List Nat} {ρ : En} : (capt nt js ρ).length = nt + js.length := by unfold capt; simp
theorem capt_no {nt : Nat} {js : List Nat} {ρ : En} {i : Nat} {s : Sl} (h : (capt nt js ρ)[i]? = some s) : s.mine = false := by
  unfold capt at h
  by_cases hi : i < nt
  · rw [List.getElem?_append_left (by simpa using hi), List.getElem?_replicate, if_pos hi] at h
    cases h; rfl
  · rw [List.getElem?_append_right (by simpa using hi), List.getElem?_map] at h
    obtain ⟨j, _, h⟩ := Option.map_eq_some_iff.mp h
    split at h <;> (cases h; rfl)
theorem ER.captd {p : Pts} {H : Hp} {σ : St} {ρ : En} {F : Hp} (h : ER K p H σ ρ) {q : Pts} {H' : Hp} (u : Uni H' q) (h2 : ∀ j, 2 <= j -> q j = noH) (s : Same (p 0) (q 0)) (ts : List Str) (fs : List (Str × Nat)) :
    ER K q H' (ts.map (fun _ => (none : Option V)) ++ fs.map fun f => (σ[f.2]?).join) (capt ts.length (fs.map (·.2)) ρ) := by
  refine ⟨u, by rw [capt_len]; simp, fun i s' e => ?_, fun i _ => h2 _ (by omega)⟩
  rw [h2 (i + 2) (by omega)]
  unfold capt at e
  by_cases hi : i < ts.length
  · rw [List.getElem?_append_left (by simpa using hi), List.getElem?_replicate, if_pos hi] at e
    cases e
    rfl
  · rw [List.getElem?_append_right (by simpa using hi), List.getElem?_map, List.length_replicate, List.getElem?_map, Option.map_map] at e
    obtain ⟨f, hf, e⟩ := Option.map_eq_some_iff.mp e
    rw [List.getElem?_append_right (by simpa using hi), List.getElem?_map, List.length_map, hf]
    have e : (match ρ[f.2]? with | some (.va t) => Sl.va t | _ => .un) = s' := e
    split at e
    · rename_i t q'
      subst e
      obtain ⟨v, hv, r⟩ := h.get q'
      exact ⟨rfl, v, by show (σ[f.2]?).join = some v; rw [hv]; rfl, r.up s⟩
    · subst e; rfl
def keepsV (g : Gv) (nt : Nat) : Prop := ∀ t ρ ρ', g t ρ = some ρ' -> ρ'.length = ρ.length /\ ∀ j s, nt <= j -> ρ[j]? = some s -> ρ'[j]? = some s
theorem keeps_name {i nt : Nat} (h : i < nt) : keepsV (gV i) nt := fun t ρ ρ' e => by
  cases e
  exact ⟨List.length_set .., fun j s hj q => by rw [List.getElem?_set_ne (by omega)]; exact q⟩
theorem ow_set {ρ : En} {i : Nat} {t : Tv} (h : ∀ (j : Nat) (s : Sl), ρ[j]? = some s -> s.mine = false) : ∀ (j : Nat) (s : Sl), (ρ.set i (.va t))[j]? = some s -> s.mine = false := fun j s e => by
  by_cases q : j = i
  · subst q
    by_cases hj : j < ρ.length
    · rw [List.getElem?_set_self hj] at e; cases e; rfl
    · rw [List.getElem?_eq_none (by rw [List.length_set]; omega)] at e; cases e
  · rw [List.getElem?_set_ne (Ne.symm q)] at e; exact h j s e
def noOw (g : Gv) : Prop := ∀ t ρ ρ', g t ρ = some ρ' -> (∀ (j : Nat) (s : Sl), ρ[j]? = some s -> s.mine = false) -> ∀ (j : Nat) (s : Sl), ρ'[j]? = some s -> s.mine = false
theorem noOw_name {i : Nat} : noOw (gV i) := fun t ρ ρ' e h => by cases e; exact ow_set h
theorem comp_core {ts : List Str} {fs : List (Str × Nat)} {g : TG} {f : Gv} {c : Mv Bool} {e : Mv Tv} {p1 : Pts} {H1 : Hp} {σ : St} {ρ1 : En} {J : It} {l : List Tv} {D : Addr} {Pc : List Tv -> Prop} {Fi : Hp -> Prop} (hg : TgOk K g f) (hk : keepsV f ts.length) (ho : noOw f)
    (er1 : ER K p1 H1 σ ρ1) (hj : JOk K J p1 l) (hD : H1 D = none) (hz : l.length < sizeLine) (hw : compW f c e (capt ts.length (fs.map (·.2)) ρ1) l [] Pc)
    (fin : ∀ acc ys G' H', Pc acc -> RepL K G' acc ys -> Same (p1 0) G' -> Uni (hid D H') (pset p1 0 G') -> H' = upd (hid D H') D (.lst ys) -> Fi H') :
    ∃ W : Nat -> Nat -> St -> Hp -> Prop, (∃ m, W 0 m (ts.map (fun _ => none) ++ fs.map fun p => (σ[p.2]?).join) (upd H1 D (.lst []))) /\ ∀ i m σ' H', W i m σ' H' ->
      (J.stop i H' /\ Fi H') ∨ (J.go i H' /\ ∀ x H2, J.yld i H' x H2 -> g x σ' H2 fun σ2 H3 => tVt K (fun _ => E0) c σ2 H3 fun b H4 => if b = true then tV K (fun _ => E0) e σ2 H4 fun y H5 => ∃ ys, H5 D = some (.lst ys) /\ ys.length < sizeLine /\ ∃ m', m' < m /\ W (i + 1) m' σ2 (upd H5 D (.lst (ys ++ [y])))
        else ∃ m', m' < m /\ W (i + 1) m' σ2 H4) := by
  have u1 := er1.uni
  have nR : restH p1 H1 D = none := by
    unfold restH
    cases q : p1 0 D with
    | none => exact hD
    | some _ => rfl
  have two : ∀ ys, Uni (upd H1 D (.lst ys)) (three (p1 0) (upd (restH p1 H1) D (.lst ys)) noH) := fun ys => by
    have := u1.two.put (i := 1) (a := D) (fun j _ => u1.two.fresh hD j) (.lst ys)
    have e : pset (three (p1 0) (restH p1 H1) noH) 1 (upd (three (p1 0) (restH p1 H1) noH 1) D (.lst ys)) = three (p1 0) (upd (restH p1 H1) D (.lst ys)) noH := by
      funext j
      match j with
      | 0 => rfl
      | 1 => rfl
      | 2 => rfl
      | _ + 3 => rfl
    rw [e] at this
    exact this
  refine ⟨fun i m σ' H' => m = l.length - i /\ i <= l.length /\ ∃ q ys acc, Same (p1 0) (q 0) /\ q 1 = upd (restH p1 H1) D (.lst ys) /\ ER K q H' σ' (capt ts.length (fs.map (·.2)) ρ1) /\ RepL K (q 0) acc ys /\ ys.length <= i /\ compW f c e (capt ts.length (fs.map (·.2)) ρ1) (l.drop i) acc Pc,
    ⟨l.length, by simp, Nat.zero_le _, three (p1 0) (upd (restH p1 H1) D (.lst [])) noH, [], [], Same.refl _, rfl, er1.captd (F := noH) (two []) three_ge2 (Same.refl _) ts fs, .nil, Nat.le_refl _, by simpa using hw⟩, ?_⟩
  rintro i m σ' H' ⟨rfl, hi, q, ys, acc, s0, q1, eq, ra, hl, w⟩
  obtain ⟨jg, js⟩ := hj q H' s0 eq.uni
  have hqD : q 1 D = some (.lst ys) := by rw [q1]; exact upd_same
  by_cases hlt : i < l.length
  · rw [List.drop_eq_getElem_cons hlt] at w
    obtain ⟨ρ2, eg, w⟩ := w
    obtain ⟨go, yl⟩ := jg i l[i] (List.getElem?_eq_getElem hlt)
    refine .inr ⟨go, fun x H2 y => ?_⟩
    obtain ⟨G2, s2, u2, r2⟩ := yl x H2 y
    have e2 := eq.grow s2 u2
    refine hg _ H2 σ' _ l[i] x ρ2 _ e2 (by rw [pset_at]; exact r2) eg fun σ2 q3 g3 e3 => ?_
    have g03 : Grow q q3 := (grow0 s2).trans g3
    have back : ∀ {q' : Pts} {H'' : Hp}, ER K q' H'' σ2 ρ2 -> ER K q' H'' σ2 (capt ts.length (fs.map (·.2)) ρ1) := fun {q' H''} h => by
      obtain ⟨k1, k2⟩ := hk _ _ _ eg
      refine h.less k1.symm fun j s e => ?_
      by_cases hj : j < ts.length
      · refine .inl ⟨?_, ho _ _ _ eg (fun j s => capt_no) j⟩
        unfold capt at e
        rw [List.getElem?_append_left (by simpa using hj), List.getElem?_replicate, if_pos hj] at e
        exact (Option.some.inj e).symm
      · exact .inr (k2 j s (by omega) e)
    refine ⟨q3, ρ2, e3, _, w, fun bv ρ4 qb v q4 H4 g4 e4 rv => ?_, fun _ _ qb _ _ _ _ => qb.2.elim⟩
    obtain ⟨rfl, qb⟩ := qb
    have rv : v = bv := rv
    subst rv
    have g04 := g03.trans g4
    cases v with
    | false => exact ⟨l.length - (i + 1), by omega, rfl, hlt, q4, ys, acc, s0.trans g04.same, by rw [g04.fr, q1], back e4, ra.up g04.same, by omega, qb⟩
    | true =>
      refine ⟨q4, _, e4, _, qb, fun yv ρ5 qe v q5 H5 g5 e5 r5 => ?_, fun _ _ qe _ _ _ _ => qe.2.elim⟩
      obtain ⟨rfl, qe⟩ := qe
      have g05 := g04.trans g5
      have f5 : q5 1 = upd (restH p1 H1) D (.lst ys) := by rw [g05.fr, q1]
      have h5D : q5 1 D = some (.lst ys) := by rw [f5]; exact upd_same
      have u5 := e5.uni.put (i := 1) (a := D) (fun j hj => e5.uni.other h5D hj) (.lst (ys ++ [v]))
      rw [f5, upd_upd] at u5
      refine ⟨ys, (e5.uni.mem _ _).mpr ⟨1, h5D⟩, by omega, l.length - (i + 1), by omega, rfl, hlt, pset q5 1 (upd (restH p1 H1) D (.lst (ys ++ [v]))), ys ++ [v], acc ++ [yv], by rw [pset_ne (by decide)]; exact s0.trans g05.same, pset_at, ?_, by rw [pset_ne (by decide)]; exact (ra.up g05.same).app (.cons r5 .nil), by rw [List.length_append, List.length_singleton]; omega, qe⟩
      have e6 := back e5
      exact ⟨u5, e6.len, fun j s e => by rw [pset_ne (by decide), pset_ne (by omega)]; exact e6.slot j s e, fun j hj => by rw [pset_ne (by omega)]; exact e6.out j hj⟩
  · have ei : i = l.length := by omega
    subst ei
    refine .inl ⟨js, ?_⟩
    rw [List.drop_length] at w
    have w : Pc acc := w
    have qn : ∀ j, 2 <= j -> q j = noH := fun j hj => by
      obtain ⟨k, rfl⟩ : ∃ k, j = k + 2 := ⟨j - 2, by omega⟩
      by_cases hk : k < (capt ts.length (fs.map (·.2)) ρ1).length
      · have := eq.slot k _ (List.getElem?_eq_getElem hk)
        cases z : (capt ts.length (fs.map (·.2)) ρ1)[k] with
        | un => rw [z] at this; exact this
        | va t => rw [z] at this; exact this.1
        | ow D l => cases capt_no (s := .ow D l) (by rw [← z]; exact List.getElem?_eq_getElem hk)
        | od D d => cases capt_no (s := .od D d) (by rw [← z]; exact List.getElem?_eq_getElem hk)
      · exact eq.out k (by omega)
    have n0D : q 0 D = none := eq.uni.other hqD (by decide)
    refine fin acc ys (q 0) H' w ra s0 ⟨fun b o => ?_, fun i j b n => ?_⟩ ?_
    · constructor
      · intro e
        have hb : b ≠ D := fun z => by rw [z, hid_at] at e; cases e
        rw [hid_ne hb] at e
        obtain ⟨k, e⟩ := (eq.uni.mem b o).mp e
        by_cases k0 : k = 0
        · subst k0; exact ⟨0, by rw [pset_at]; exact e⟩
        by_cases k1 : k = 1
        · subst k1
          rw [q1, upd_ne hb] at e
          obtain ⟨k, hk, e⟩ := (restH_some u1).mp e
          exact ⟨k, by rw [pset_ne hk]; exact e⟩
        · rw [qn k (by omega)] at e; cases e
      · rintro ⟨k, e⟩
        by_cases k0 : k = 0
        · subst k0
          rw [pset_at] at e
          rw [hid_ne (ne_of_none e n0D)]
          exact (eq.uni.mem b o).mpr ⟨0, e⟩
        · rw [pset_ne k0] at e
          have hb : b ≠ D := ne_of_none e (u1.fresh hD k)
          rw [hid_ne hb]
          refine (eq.uni.mem b o).mpr ⟨1, ?_⟩
          rw [q1, upd_ne hb]
          exact (restH_some u1).mpr ⟨k, k0, e⟩
    · have key : ∀ k, k ≠ 0 -> q 0 b = none ∨ p1 k b = none := fun k hk => by
        cases e : p1 k b with
        | none => exact .inr rfl
        | some o =>
          have hb : b ≠ D := ne_of_none e (u1.fresh hD k)
          have : q 1 b = some o := by rw [q1, upd_ne hb]; exact (restH_some u1).mpr ⟨k, hk, e⟩
          exact .inl (eq.uni.other this (by decide))
      by_cases hi0 : i = 0
      · subst hi0
        have hj0 : j ≠ 0 := Ne.symm n
        rw [pset_at, pset_ne hj0]; exact key j hj0
      · by_cases hj0 : j = 0
        · subst hj0
          rw [pset_at, pset_ne hi0]; exact (key i hi0).symm
        · rw [pset_ne hi0, pset_ne hj0]; exact u1.ap i j b n
    · funext b
      by_cases hb : b = D
      · rw [hb, upd_same]; exact (eq.uni.mem _ _).mpr ⟨1, hqD⟩
      · rw [upd_ne hb, hid_ne hb]
theorem comp_tail {nt : Nat} {ts : List Str} {fs : List (Str × Nat)} {it : Mv (List Tv)} {g : TG} {f : Gv} {c : Mv Bool} {e : Mv Tv} (hn : ts.length = nt) (hg : TgOk K g f) (hk : keepsV f nt) (ho : noOw f) :
    ∀ σ H Q, tV K E (vComp nt (fs.map (·.2)) it f c e) σ H Q -> tComp (iV K E it) (fun σ => ts.map (fun _ => none) ++ fs.map fun p => (σ[p.2]?).join) g (tVt K (fun _ => E0) c) (tV K (fun _ => E0) e) σ H Q := by
  subst hn
  rintro σ H Q ⟨p, ρ, er, P, a, b, cc⟩
  refine ⟨p, ρ, er, _, a, fun l ρ1 q J p1 H1 g1 er1 hj D hD => ?_, fun c0 ρ1 q p1 H1 g1 er1 => cc c0 ρ1 q p1 H1 g1 er1⟩
  refine comp_core hg hk ho er1 hj hD q.1 q.2 fun acc ys G' H' w ra s0 u eH => ?_
  have e1 := er1.grow s0 u
  obtain ⟨e2, s2⟩ := e1.alloc (a := D) hid_at (.lst ys)
  rw [← eH, pset_at, pset_pset] at e2
  rw [pset_at] at s2
  exact b _ ρ1 w _ _ H' (g1.trans (grow0 (s0.trans s2))) e2 (rep_lst.mpr ⟨D, ys, rfl, by rw [pset_at]; exact upd_same, by rw [pset_at]; exact ra.up s2⟩)
theorem v_comp {elt tg iter : Expr} {ifs : List Expr} {scope : Scope} {pos : Pos} {ts : List Str} {fs : List (Str × Nat)} {g : TG} {nt : Nat} {it : Mv (List Tv)} {f : Gv} {c : Mv Bool} {e : Mv Tv}
    (hc : X.calm = true) (hF : Frees X scope (ts ++ fs.map (·.1)) (fun σ => ts.map (fun _ => none) ++ fs.map fun p => (σ[p.2]?).join)) (hvis : ∀ y ∈ scope.names, y.2 = .free -> X.env.kindOf y.1 = some .cell ∨ X.env.kindOf y.1 = some .free)
    (hcell : ∀ y ∈ scope.names, y.2 ≠ .cell) (hkind : scope.kind = .function) (hnames : ∀ y ∈ scope.names, y.2 = .local -> scope.names.lookup y.1 = some .local) (hfl : ∀ y, scope.names.lookup y = some .free -> (y, NameKind.free) ∈ scope.names)
    (hn : ts.length = nt) (hg : TgOk K g f) (hk : keepsV f nt) (ho : noOw f)
    (hi : PI X tg iter (iV K E it)) (hpg : ∀ cl C s H fp pins, PG (cxComp X (ts ++ fs.map (·.1)) scope cl C s H fp pins) tg g) (ht : ∀ cl C s H fp pins, PIf (cxComp X (ts ++ fs.map (·.1)) scope cl C s H fp pins) ifs (tVt K (fun _ => E0) c)) (he : ∀ cl C s H fp pins, PE (cxComp X (ts ++ fs.map (·.1)) scope cl C s H fp pins) elt (tV K (fun _ => E0) e))
    (hs : ∀ x, foldedSetIterable iter X.env x = pure x := by intro _; rfl) : PE X (.ListComp elt [⟨tg, iter, ifs, 0⟩] scope pos) (tV K E (vComp nt (fs.map (·.2)) it f c e)) :=
  (pe_comp hc hF hvis hcell hkind hnames hfl hi hpg ht he hs).imp (comp_tail hn hg hk ho)
theorem vif_nil : PIf X [] (tVt K E vYes) := pif_nil.imp fun _ _ _ h => yes_tail h
theorem vif_one {c : Expr} {m : Mv Bool} (h : PT X c (tVt K E m)) : PIf X [c] (tVt K E m) := pif_one h
structure Post (K : PySem.W.Frag) (E : St -> XK) (D : Ends) (P : Fl -> En -> Prop) (p : Pts) : Prop where
  nx : ∀ ρ', P .nx ρ' -> ∀ σ' p' H', Grow p p' -> ER K p' H' σ' ρ' -> D.nx σ' H'
  rt : ∀ r ρ', P (.rt r) ρ' -> ∀ v p' H', Grow p p' -> Uni H' p' -> (∀ j, 3 <= j -> p' j = noH) -> SlotR K (p' 0) (p' 2) (some v) r -> D.rt v H'
  bk : ∀ ρ', P .bk ρ' -> ∀ σ' p' H', Grow p p' -> ER K p' H' σ' ρ' -> D.bk σ' H'
  ct : ∀ ρ', P .ct ρ' -> ∀ σ' p' H', Grow p p' -> ER K p' H' σ' ρ' -> D.ct σ' H'
  er : ∀ c ρ', P (.er c) ρ' -> ∀ σ' p' H', Grow p p' -> ER K p' H' σ' ρ' -> E σ' (.ref c) none H'
def tS (K : PySem.W.Frag) (E : St -> XK) (b : Sv) : TS := fun D σ H => ∃ p ρ P, ER K p H σ ρ /\ b ρ P /\ Post K E D P p
theorem Post.grow {D : Ends} {P : Fl -> En -> Prop} {p p1 : Pts} (h : Post K E D P p) (g : Grow p p1) : Post K E D P p1 :=
  ⟨fun ρ q σ p' H' g' => h.nx ρ q σ p' H' (g.trans g'), fun r ρ q v p' H' g' => h.rt r ρ q v p' H' (g.trans g'), fun ρ q σ p' H' g' => h.bk ρ q σ p' H' (g.trans g'), fun ρ q σ p' H' g' => h.ct ρ q σ p' H' (g.trans g'), fun c ρ q σ p' H' g' => h.er c ρ q σ p' H' (g.trans g')⟩
theorem do_tail {α β : Type} {R : Hp -> α -> β -> Prop} {m : Mv α} {k : α -> Sv} {D : Ends} {σ : St} {H : Hp} {p : Pts} {ρ : En} {P : Fl -> En -> Prop} (a : vDo m k ρ P) (h : Post K E D P p) :
    tA K E R m p ρ σ (fun v H1 => ∃ x p1 ρ1, Grow p p1 /\ ER K p1 H1 σ ρ1 /\ R (p1 0) x v /\ k x ρ1 P /\ Post K E D P p1) :=
  ⟨_, a, fun x ρ' q v p' H' g e r => ⟨x, p', ρ', g, e, r, q, h.grow g⟩, fun c ρ' q p' H' g e => h.er c ρ' q σ p' H' g e⟩
theorem vs_nil : PSs X [] (tS K E vNext) := pss_nil.imp fun D σ H ⟨p, ρ, P, er, a, h⟩ => h.nx ρ a σ p H .refl er
theorem vs_cons {st : Stmt} {rest : List Stmt} {a b : Sv} (h1 : PS X st (tS K E a)) (h2 : PSs X rest (tS K E b)) : PSs X (st :: rest) (tS K E (vSeq a b)) :=
  (pss_cons h1 h2).imp fun D σ H ⟨p, ρ, P, er, a, h⟩ => ⟨p, ρ, _, er, a, ⟨fun ρ' q σ' p' H' g e => ⟨p', ρ', P, e, q, h.grow g⟩, h.rt, h.bk, h.ct, h.er⟩⟩
theorem vs_one {st : Stmt} {a : Sv} (h1 : PS X st (tS K E a)) : PSs X [st] (tS K E a) := pss_one h1
theorem set_tail {i : Nat} {m : Mv Tv} : ∀ D σ H, tS K E (vSet i m) D σ H -> tAsg (tV K E m) (gName i) D σ H := fun D σ H ⟨p, ρ, P, er, a, h⟩ =>
  ⟨p, ρ, er, (do_tail (H := H) a h).mono fun v H1 ⟨x, p1, ρ1, g1, er1, r1, q, h1⟩ => h1.nx _ q _ _ H1 (mv_grow i) (er1.set i r1)⟩
theorem vs_set {i : Nat} {x : Str} {e : Expr} {m : Mv Tv} {pos pos' : Pos} (hN : X.N.Nodup) (hi : X.N[i]? = some x) (hx : Loc X.env.scope x) (he : PE X e (tV K E m)) (hs : swapsWith e (some (.Name x pos')) pos.line X.env = pure false := by rfl) (hf : X.fn x = true ∨ X.env.scope.names.lookup x = some .local := by first | exact .inl rfl | exact .inr rfl | assumption) :
    PS X (.Assign [.Name x pos'] e pos) (tS K E (vSet i m)) := (ps_set hN hi hx he hs hf).imp set_tail
theorem vs_setc {i0 : Nat} {xn : Str} {pos' spos : Pos} {elt tg iter : Expr} {ifs : List Expr} {scope : Scope} {pos : Pos} {ts : List Str} {fs : List (Str × Nat)} {g : TG} {nt : Nat} {it : Mv (List Tv)} {f : Gv} {c : Mv Bool} {e : Mv Tv}
    (hN0 : X.N.Nodup) (hi0 : X.N[i0]? = some xn) (hx0 : X.env.scope.names.lookup xn = some .local)
    (hc : X.calm = true) (hF : Frees X scope (ts ++ fs.map (·.1)) (fun σ => ts.map (fun _ => none) ++ fs.map fun p => (σ[p.2]?).join)) (hvis : ∀ y ∈ scope.names, y.2 = .free -> X.env.kindOf y.1 = some .cell ∨ X.env.kindOf y.1 = some .free)
    (hcell : ∀ y ∈ scope.names, y.2 ≠ .cell) (hkind : scope.kind = .function) (hnames : ∀ y ∈ scope.names, y.2 = .local -> scope.names.lookup y.1 = some .local) (hfl : ∀ y, scope.names.lookup y = some .free -> (y, NameKind.free) ∈ scope.names)
    (hn : ts.length = nt) (hg : TgOk K g f) (hk : keepsV f nt) (ho : noOw f)
    (hi : PI X tg iter (iV K E it)) (hpg : ∀ cl C s H fp pins, PG (cxComp X (ts ++ fs.map (·.1)) scope cl C s H fp pins) tg g) (ht : ∀ cl C s H fp pins, PIf (cxComp X (ts ++ fs.map (·.1)) scope cl C s H fp pins) ifs (tVt K (fun _ => E0) c)) (he : ∀ cl C s H fp pins, PE (cxComp X (ts ++ fs.map (·.1)) scope cl C s H fp pins) elt (tV K (fun _ => E0) e))
    (hs : ∀ x, foldedSetIterable iter X.env x = pure x := by intro _; rfl) (hsw : swapsWith (.ListComp elt [⟨tg, iter, ifs, 0⟩] scope pos) (some (.Name xn pos')) spos.line X.env = pure true := by rfl) :
    PS X (.Assign [.Name xn pos'] (.ListComp elt [⟨tg, iter, ifs, 0⟩] scope pos) spos) (tS K E (vSet i0 (vComp nt (fs.map (·.2)) it f c e))) :=
  (ps_setc hN0 hi0 hx0 hc hF hvis hcell hkind hnames hfl hi hpg ht he hs hsw).imp fun D σ H h => comp_tail hn hg hk ho σ H _ (set_tail D σ H h)
theorem vs_par {i j : Nat} {x y : Str} {a b : Expr} {m n : Mv Tv} {px py pt pos : Pos} {kt k2 pt2} (hc : X.calm = true) (hN : X.N.Nodup) (hi : X.N[i]? = some x) (hj : X.N[j]? = some y) (hij : i ≠ j)
    (hx : X.env.scope.names.lookup x = some .local) (hy : X.env.scope.names.lookup y = some .local) (ha : PA X [a, b] (tVa K E [m, n]))
    (hw : swappedStores [.Tuple [.Name x px, .Name y py] kt pt] (.Tuple [a, b] k2 pt2) X.env = pure (some [x, y]))
    (hs : swapsWithSole [.Tuple [.Name x px, .Name y py] kt pt] (.Tuple [a, b] k2 pt2) pos.line X.env = pure false := by rfl) :
    PS X (.Assign [.Tuple [.Name x px, .Name y py] kt pt] (.Tuple [a, b] k2 pt2) pos) (tS K E (vPar i j m n)) :=
  (ps_par hc hN hi hj hij hx hy ha.toS hw hs).imp fun D σ H ⟨p, ρ, P, er, a, h⟩ => ⟨p, ρ, er, (do_tail (H := H) a h).mono fun vs H1 ⟨xs, p1, ρ1, g1, er1, r1, q, h1⟩ => by
    match xs, q with
    | [s, t], q =>
      obtain ⟨v, r, rfl, a1, a2⟩ := repL_cons.mp r1
      obtain ⟨v', r', rfl, a3, a4⟩ := repL_cons.mp a2
      rw [repL_nil.mp a4]
      refine ⟨v, v', rfl, h1.nx _ q _ _ H1 ((mv_grow i).trans (mv_grow j)) ((er1.set i a1).set j (a3.up (mv_grow i).same))⟩⟩
theorem ret_uni {H : Hp} {p : Pts} {t : Tv} {v : V} (u : Uni H p) (r : Rep K (p 0) t v) : ∃ p', Grow p p' /\ Uni H p' /\ (∀ j, 3 <= j -> p' j = noH) /\ SlotR K (p' 0) (p' 2) (some v) (.va t) := by
  have u2 := u.mv (j := 2) (by decide)
  have hb := u2.gather 2 (by decide) (by decide)
  rw [mv_at, mv_ne (k := 1) (by decide) (by decide)] at hb
  have s2 : Same (p 0) (butH H (p 1) noH) := (mv_grow (p := p) 0).same.trans hb.2
  exact ⟨three (butH H (p 1) noH) (p 1) noH, ⟨s2, rfl⟩, hb.1, three_ge, rfl, v, rfl, r.up s2⟩
theorem vs_ret {e : Expr} {m : Mv Tv} {pos : Pos} (he : PE X e (tV K E m)) : PS X (.Return (some e) pos) (tS K E (vRet m)) :=
  (ps_ret he).imp fun D σ H ⟨p, ρ, P, er, a, h⟩ => ⟨p, ρ, er, (do_tail (H := H) a h).mono fun v H1 ⟨x, p1, ρ1, g1, er1, r1, q, h1⟩ =>
    let ⟨p', g', u', h3, s'⟩ := ret_uni er1.uni r1; h1.rt _ ρ1 q v p' H1 g' u' h3 s'⟩
theorem vs_retO {i : Nat} {x : Str} {xp pos : Pos} (hN : X.N[i]? = some x) (hv : Vis X.env.scope x) (hd : (x == ("__debug__" : Str)) = false := by decide) (hcd : (x == ("__classdict__" : Str)) = false := by decide) : PS X (.Return (some (.Name x xp)) pos) (tS K E (vRetO i)) :=
  (ps_ret (pe_var hN hv hd hcd)).imp fun D σ H ⟨p, ρ, P, er, a, h⟩ => by
    unfold vRetO at a
    split at a
    · rename_i Da l e
      obtain ⟨xs, e1, e2, e3, r⟩ := er.own e
      obtain ⟨u, s⟩ := er.uni.gather (i + 2) (by omega) (by omega)
      exact ⟨_, e1, h.rt _ ρ a _ (three (butH H (p 1) (p (i + 2))) (p 1) (p (i + 2))) H ⟨s, rfl⟩ u three_ge ⟨xs, rfl, e3, r.up s⟩⟩
    · exact a.elim
theorem vs_if {c : Expr} {a b : List Stmt} {m : Mv Bool} {sa sb : Sv} {pos : Pos} (hc : PT X c (tVt K E m)) (ha : PSs X a (tS K E sa)) (hb : PSs X b (tS K E sb)) : PS X (.If c a b pos) (tS K E (vIfS m sa sb)) :=
  (ps_if hc ha hb).imp fun D σ H ⟨p, ρ, P, er, a, h⟩ => ⟨p, ρ, er, (do_tail (H := H) a h).mono fun v H1 ⟨x, p1, ρ1, g1, er1, r1, q, h1⟩ => by
    have r1 : v = x := r1
    subst r1
    cases v with
    | true => exact ⟨p1, ρ1, P, er1, q, h1⟩
    | false => exact ⟨p1, ρ1, P, er1, q, h1⟩⟩
theorem vs_newL {i : Nat} {x : Str} {es : List Expr} {ms : List (Mv Tv)} {pos pos' lp : Pos} (hN : X.N.Nodup) (hi : X.N[i]? = some x) (hx : Loc X.env.scope x) (he : PA X es (tVa K E ms)) (hz : ms.length <= 1000 := by decide) (hs : swapsWith (.List es lp) (some (.Name x pos')) pos.line X.env = pure false := by rfl) (hf : X.fn x = true ∨ X.env.scope.names.lookup x = some .local := by first | exact .inl rfl | exact .inr rfl | assumption) :
    PS X (.Assign [.Name x pos'] (.List es lp) pos) (tS K E (vNewL i ms)) := fun pins s σ H D I ⟨p, ρ, P, er, a, h⟩ => by
  refine ps_set hN hi hx (pe_lst he) hs hf pins s σ H D I ⟨p, ρ, er, (do_tail (H := H) a h).mono fun vs H1 ⟨xs, p1, ρ1, g1, er1, r1, q, h1⟩ hlen => ?_⟩
  refine ⟨by rw [hlen]; exact le_line hz, fun Da hD => ?_⟩
  have hl : i < ρ1.length := by
    have h0 : i < X.N.length := (List.getElem?_eq_some_iff.mp hi).1
    rw [← er1.len, I.len]; exact h0
  obtain ⟨e2, g2⟩ := er1.setNew hl hD r1
  exact h1.nx _ (q Da) _ _ _ g2 e2
theorem vs_app {i : Nat} {x : Str} {e : Expr} {m : Mv Tv} {xp ap cp pos : Pos} (hK : X.K = K) (hN : X.N[i]? = some x) (hv : Vis X.env.scope x) (he : PE X e (tV K E m)) (hst : starEach [e] X.env = [(false, eval e X.env)] := by rfl)
    (hbase : attributeBase (.Name x xp) "append" X.env (eval (.Name x xp) X.env) = eval (.Name x xp) X.env := by rfl)
    (hfew : ((backTo cp (starEach [e] X.env)).all (fun x => !x.1) && (backToKw cp (keywordEach [] X.env)).all (fun x => x.1.isSome) && decide (([e] : List Expr).length + ([] : List Keyword).length + (if ([] : List Keyword).isEmpty then 0 else 1) < 30)) = true := by rfl)
    (hline : (ap.endLine == cp.line) = true := by rfl) (hsw : swapsWith (.Call (.Attribute (.Name x xp) "append" ap) [e] [] cp) none pos.line X.env = pure false := by rfl) (hd : (x == ("__debug__" : Str)) = false := by decide) (hcd : (x == ("__classdict__" : Str)) = false := by decide) :
    PS X (.Expr (.Call (.Attribute (.Name x xp) "append" ap) [e] [] cp) pos) (tS K E (vApp i m)) := by
  subst hK
  refine (ps_expr (pe_bm PySem.F.plainAttrs_list PySem.F.slot_list_append PySem.F.type_list_append mt_append (pe_var hN hv hd hcd) (pa_cons he pa_nil hst) hbase hfew hline hst rfl) hsw).imp fun D σ H ⟨p, ρ, P, er, a, h⟩ => ?_
  unfold vApp at a
  split at a
  · rename_i Da l e
    obtain ⟨xs, e1, e2, e3, r⟩ := er.own e
    refine ⟨.ref Da, e1, .inl ⟨rfl, xs, SqL.of e2⟩, p, ρ, er, (do_tail (H := H) a h).mono fun v H1 ⟨t, p1, ρ1, g1, er1, r1, q, h1⟩ => ?_⟩
    split at q
    · rename_i Db l' e'
      obtain ⟨ys, f1, f2, f3, rr⟩ := er1.own e'
      rw [e1] at f1
      cases f1
      obtain ⟨e5, g5⟩ := er1.putOwn e' (rr.app (.cons r1 .nil))
      exact ⟨Da, ys, v, rfl, rfl, f2, by rw [rr.len]; exact q.1, h1.nx _ q.2 σ _ _ g5 e5⟩
    · exact q.elim
  · exact a.elim
theorem vs_frz {st : Stmt} {b : Sv} (i : Nat) (h : PS X st (tS K E b)) : PS X st (tS K E (vFrz i b)) := h.imp fun D σ H ⟨p, ρ, P, er, a, h⟩ =>
  let ⟨p', e', g'⟩ := er.frz i; ⟨p', _, P, e', a, h.grow g'⟩
theorem vs_for {tg iter : Expr} {body : List Stmt} {pos : Pos} {it : Mv (List Tv)} {g : TG} {f : Gv} {b : Sv} (hp : PassesOwn (model X.prog X.w) X.A X.env X.xe) (hc : X.calm = true) (hi : PI X tg iter (iV K E it)) (hpg : PG X tg g) (hg : TgOk K g f) (hb : PSs X body (tS K E b))
    (hs : ∀ x, foldedSetIterable iter X.env x = pure x := by intro _; rfl) : PS X (.For tg iter body [] pos) (tS K E (vFor it f b)) :=
  (ps_for hp hc hi hpg hb hs).imp fun D σ H ⟨p, ρ, P, er, a, h⟩ => by
    refine ⟨p, ρ, er, _, a, fun l ρ1 q J p1 H1 g1 er1 hj => ?_, fun c0 ρ1 q p1 H1 g1 er1 => h.er c0 ρ1 q σ p1 H1 g1 er1⟩
    refine ⟨fun i m σ' H' => m = l.length - i /\ i <= l.length /\ ∃ p' ρ', Grow p1 p' /\ ER K p' H' σ' ρ' /\ forW f b (l.drop i) ρ' P, ⟨l.length, by simp, Nat.zero_le _, p1, ρ1, .refl, er1, by have q : forW f b l ρ1 P := q; simpa using q⟩, ?_⟩
    rintro i m σ' H' ⟨rfl, hi, p', ρ', g', e', w⟩
    obtain ⟨jg, js⟩ := hj p' H' g'.same e'.uni
    by_cases hlt : i < l.length
    · rw [List.drop_eq_getElem_cons hlt] at w
      obtain ⟨ρ2, eg, w⟩ := w
      obtain ⟨go, yl⟩ := jg i l[i] (List.getElem?_eq_getElem hlt)
      refine .inr ⟨go, fun σ'' H'' => ∃ p'' ρ'', Grow p1 p'' /\ ER K p'' H'' σ'' ρ'' /\ forW f b (l.drop (i + 1)) ρ'' P, fun σ'' H'' ⟨p'', ρ'', a, b, c⟩ => ⟨l.length - (i + 1), by omega, rfl, hlt, p'', ρ'', a, b, c⟩, fun x H2 y => ?_⟩
      obtain ⟨G2, s2, u2, r2⟩ := yl x H2 y
      have e2 := e'.grow s2 u2
      refine hg _ H2 σ' _ l[i] x ρ2 _ e2 (by rw [pset_at]; exact r2) eg fun σ2 q3 g3 e3 => ?_
      have g13 := g'.trans ((grow0 s2).trans g3)
      have h3 := h.grow (g1.trans g13)
      exact ⟨q3, ρ2, _, e3, w, ⟨fun ρ4 q4 σ4 p4 H4 g4 e4 => ⟨p4, ρ4, g13.trans g4, e4, q4⟩, h3.rt, fun ρ4 q4 σ4 p4 H4 g4 e4 => h3.nx ρ4 q4 σ4 p4 H4 g4 e4, fun ρ4 q4 σ4 p4 H4 g4 e4 => ⟨p4, ρ4, g13.trans g4, e4, q4⟩, h3.er⟩⟩
    · have ei : i = l.length := by omega
      subst ei
      rw [List.drop_length] at w
      exact .inl ⟨js, (h.grow (g1.trans g')).nx ρ' w σ' p' H' .refl e'⟩
theorem vs_while {c : Expr} {body : List Stmt} {pos : Pos} {m : Mv Bool} {b : Sv} (hp : PassesOwn (model X.prog X.w) X.A X.env X.xe) (hc : PT X c (tVt K E m)) (hb : PSs X body (tS K E b)) : PS X (.While c body [] pos) (tS K E (vWhile m b)) :=
  (ps_while hp hc hb).imp fun D σ H ⟨p, ρ, P, er, ⟨W, ⟨m0, w0⟩, turn⟩, h⟩ => by
    refine ⟨fun n σ' H' => ∃ p' ρ', Grow p p' /\ ER K p' H' σ' ρ' /\ W n ρ', ⟨m0, p, ρ, .refl, er, w0⟩, ?_⟩
    rintro n σ' H' ⟨p', ρ', g', e', w⟩
    refine ⟨p', ρ', e', _, turn n ρ' w, fun x ρ1 q v p1 H1 g1 e1 r1 => ?_, fun c0 ρ1 q p1 H1 g1 e1 => (h.grow g').er c0 ρ1 q σ' p1 H1 g1 e1⟩
    have r1 : v = x := r1
    subst r1
    have g01 := g'.trans g1
    have h1 := h.grow g01
    cases v with
    | true =>
      exact ⟨fun σ2 H2 => ∃ p2 ρ2, Grow p p2 /\ ER K p2 H2 σ2 ρ2 /\ ∃ m', m' < n /\ W m' ρ2, fun σ2 H2 ⟨p2, ρ2, a, b, m', c, d⟩ => ⟨m', c, p2, ρ2, a, b, d⟩,
        p1, ρ1, _, e1, q, ⟨fun ρ4 q4 σ4 p4 H4 g4 e4 => ⟨p4, ρ4, g01.trans g4, e4, q4⟩, h1.rt, fun ρ4 q4 σ4 p4 H4 g4 e4 => h1.nx ρ4 q4 σ4 p4 H4 g4 e4, fun ρ4 q4 σ4 p4 H4 g4 e4 => ⟨p4, ρ4, g01.trans g4, e4, q4⟩, h1.er⟩⟩
    | false => exact h1.nx ρ1 q σ' p1 H1 .refl e1
theorem er_start {p : Pts} {H : Hp} {N : List Str} {ts : List Tv} {vs : List V} (u : Uni H p) (h2 : ∀ j, 2 <= j -> p j = noH) (r : RepL K (p 0) ts vs) (hl : ts.length <= N.length) : ER K p H (start N vs) (ts.map Sl.va ++ List.replicate (N.length - ts.length) Sl.un) := by
  have hvl := r.len
  refine ⟨u, ?_, fun i s e => ?_, fun i _ => h2 _ (by omega)⟩
  · unfold start
    rw [List.length_append, List.length_map, List.length_replicate, List.length_append, List.length_map, List.length_replicate, hvl]
  · rw [h2 (i + 2) (by omega)]
    by_cases hi : i < ts.length
    · rw [List.getElem?_append_left (by simpa using hi), List.getElem?_map] at e
      obtain ⟨t, ht, rfl⟩ := Option.map_eq_some_iff.mp e
      obtain ⟨v, hv, q⟩ := r.get ht
      refine ⟨rfl, v, ?_, q⟩
      unfold start
      rw [List.getElem?_append_left (by simpa [hvl] using hi), List.getElem?_map, hv]
      rfl
    · rw [List.getElem?_append_right (by simpa using hi), List.getElem?_replicate] at e
      split at e
      · cases e; rfl
      · cases e
theorem fn_V {P : Program} {w : World} {mg : Str -> Option Value} {base : Heap} {x qual : Str} {st : Stmt} {f : Addr} {fd : FuncData} {N ps : List Str} {k : Nat} {C : Ct} (F : Fun K x qual st f fd) (S : FnScope N ps (defScope st)) (b : Sv) (hl : ∀ ts Q, C ts Q -> ts.length = ps.length) (hC : ∀ ts Q, C ts Q -> bodyC N.length b ts Q)
    (hb : ∀ (cdv : Value) (A : Around) (outer : List Env) (s : Shared) (H : Hp) (E : XK), Room k (A.deeper (envOfC qual (defScope st) s.heap.objs.size f cdv)) -> PSs (cxOf (CXF P w) P w K mg base N qual (defScope st) f cdv A outer s H E) (defBody st) (tS K (fun _ => E) b)) :
    FnOk P w K mg base (CXF P w) (k + 1) f fd ps (spV K C) := by
  have hps : ps.length <= N.length := by have := congrArg List.length S.pre; rw [List.length_take] at this; omega
  refine F.okX S (fun vs H Q E ⟨p, ts, P, u, h2, r, c, _⟩ => by rw [r.len]; exact hl ts _ c) fun cdv A outer s H vs Q E hr ⟨p, ts, P', u, h2, r, c, hok, her⟩ => ⟨_, hb cdv A outer s H E hr, ?_⟩
  have hts := hl ts _ c
  refine ⟨p, _, _, er_start u h2 r (by omega), hC ts _ c, ⟨fun ρ' q σ' p' H' g e => ?_, fun r' ρ' q v p' H' g u' h3 s' => hok r' q v p' H' g u' h3 s', fun ρ' q => q.elim, fun ρ' q => q.elim, fun c0 ρ' q σ' p' H' g e => ?_⟩⟩
  · obtain ⟨p2, g2, u2, h3, s2⟩ := ret_uni (K := K) (t := .non) (v := .non) e.uni (rep_non.mpr rfl)
    exact hok _ q _ p2 H' (g.trans g2) u2 h3 s2
  · obtain ⟨p2, g2, u2, h3, s2⟩ := ret_uni (K := K) (t := .non) (v := .non) e.uni (rep_non.mpr rfl)
    exact her c0 q p2 H' (g.trans g2) u2 fun j hj => by
      by_cases e : j = 2
      · subst e; exact s2.1
      · exact h3 j (by omega)
end
end L2
set_option Elab.async false
set_option linter.all false
set_option maxRecDepth 100000
set_option maxHeartbeats 4000000
namespace L2
open PySem PySem.Spec PyProof.Rows
theorem OpR.imp {X : Cx} {f : Value -> Value -> Sem Value} {r r' : R2} (h : OpR X f r) (k : ∀ x y H Q, r' x y H Q -> r x y H Q) : OpR X f r' := fun pins s σ H x y v u Q I rx ry q => h pins s σ H x y v u Q I rx ry (k _ _ _ _ q)
theorem IxR.imp {X : Cx} {r r' : R2} (h : IxR X r) (k : ∀ x y H Q, r' x y H Q -> r x y H Q) : IxR X r' := fun a b pins s σ H x y v u Q I rx ry q hs => h a b pins s σ H x y v u Q I rx ry (k _ _ _ _ q) hs
theorem CallR.imp {X : Cx} {f : Value} {r r' : List V -> Hp -> VK -> Prop} (h : CallR X f r) (k : ∀ x H Q, r' x H Q -> r x H Q) : CallR X f r' := fun pins s σ H xs us Q I rv q => h pins s σ H xs us Q I rv (k _ _ _ q)
theorem UnR.imp {X : Cx} {f : Value -> Sem Value} {r r' : V -> Hp -> VK -> Prop} (h : UnR X f r) (k : ∀ x H Q, r' x H Q -> r x H Q) : UnR X f r' := fun pins s σ H x v Q I rx q => h pins s σ H x v Q I rx (k _ _ _ q)
section
variable {X : Cx} {K : PySem.W.Frag}
theorem keep0 {p : Pts} {H : Hp} {Q : VK} {P : Tv -> Prop} {t : Tv} {v : V} (u : Uni H p) (q : P t) (k : ∀ t, P t -> ∀ v G' H', Same (p 0) G' -> Uni H' (pset p 0 G') -> Rep K G' t v -> Q v H') (r : Rep K (p 0) t v) : Q v H := k t q v (p 0) H (Same.refl _) (uni0 u) r
theorem laid0 {p : Pts} {H : Hp} {Q : VK} {P : Tv -> Prop} {t : Tv} {a : Addr} {o : HO} (u : Uni H p) (q : P t) (k : ∀ t, P t -> ∀ v G' H', Same (p 0) G' -> Uni H' (pset p 0 G') -> Rep K G' t v -> Q v H') (n : H a = none) (r : Same (p 0) (upd (p 0) a o) -> Rep K (upd (p 0) a o) t (.ref a)) : Q (.ref a) (upd H a o) := by
  have s0 : Same (p 0) (upd (p 0) a o) := fun b o' e => by rw [upd_ne (ne_of_none e (u.fresh n 0))]; exact e
  exact k t q _ _ _ s0 (u.alloc n 0 o) (r s0)
theorem op_cat3 (hK : X.K = K) : OpR X (binaryOp .Add) (fun x y H Q => ∃ a b xs ys, x = .ref a /\ y = .ref b /\ SqT K H a xs /\ SqT K H b ys /\ xs.length + ys.length <= sizeLine /\ (xs = [] -> Q (.ref b) H) /\ (ys = [] -> Q (.ref a) H) /\ ∀ p, H p = none -> Q (.ref p) (upd H p (.tup (xs ++ ys)))) := by
  subst hK
  intro pins s σ H x y v u Q I rx ry h
  obtain ⟨a, b, xs, ys, rfl, rfl, ha, hb, hz, q0, q1, q2⟩ := h
  by_cases hx : xs = []
  · subst hx
    cases rx
    cases ry
    obtain ⟨its, r1, p1, _⟩ := I.tuple ha
    obtain ⟨its2, r2, p2, _⟩ := I.tuple hb
    cases r1
    obtain ⟨⟨cls, dd, data, sl⟩, ho, hc, n, hd⟩ := id p1
    obtain ⟨⟨cls2, dd2, data2, sl2⟩, ho2, hc2, n2, hd2⟩ := id p2
    simp only at hc hd hc2 hd2
    subst hc hd hc2 hd2
    exact concat_meets ⟨_, ho, rfl⟩ ⟨_, ho2, rfl⟩ noFill_tuple_add seq_tuple_add PySem.F.slot_tuple_add PySem.F.entry_tuple_add (PySem.F.args_tuple_add_2 _ _)
      (tuple_addW0 a b ([] : List Value).toArray its2.toArray n n2 dd dd2 sl sl2 (by simp)) ⟨ho, ho2, ⟨.ref b, H, I, rfl, q0 rfl⟩⟩
  · exact op_catT pins s σ H _ _ _ _ Q I rx ry ⟨a, b, xs, ys, rfl, rfl, ha, hb, hx, hz, q1, fun _ p hp => q2 p hp⟩
theorem RepL.nil_of {G : Hp} {l : List Tv} (h : RepL K G l []) : l = [] := List.eq_nil_of_length_eq_zero h.len.symm
def BM : Nat := 2 ^ 1048576
theorem lt_BM {n k : Nat} (h : n < 2 ^ k) (hk : k <= 1048576) : n < BM := Nat.lt_of_lt_of_le h (Nat.pow_le_pow_right (by decide) hk)
def wAdd : Tv -> Tv -> (Tv -> Prop) -> Prop
  | .int i, .int j, k => k (.int (i + j))
  | .str i, .str j, k => i.length + j.length <= sizeLine /\ k (.str (i ++ j))
  | .tup a, .tup b, k => a.length + b.length <= sizeLine /\ k (.tup (a ++ b))
  | .lst a, .lst b, k => a.length + b.length <= sizeLine /\ k (.lst (a ++ b))
  | _, _, _ => False
theorem o_add (hK : X.K = K) : OpR X (binaryOp .Add) (rV K wAdd) := by
  refine (op_add.or (op_add_str.or ((op_cat3 hK).or op_cat))).imp fun x y H Q ⟨p, a, b, P, u, ra, rb, w, k⟩ => ?_
  match a, b, w with
  | .int i, .int j, w => exact .inl ⟨i, j, rep_int.mp ra, rep_int.mp rb, keep0 u w k (rep_int.mpr rfl)⟩
  | .str i, .str j, w => exact .inr (.inl ⟨i, j, rep_str.mp ra, rep_str.mp rb, w.1, keep0 u w.2 k (rep_str.mpr rfl)⟩)
  | .tup l, .tup m, w =>
    obtain ⟨c, xs, rfl, s1, q1⟩ := rep_tupS ra
    obtain ⟨d, ys, rfl, s2, q2⟩ := rep_tupS rb
    refine .inr (.inr (.inl ⟨c, d, xs, ys, rfl, rfl, (u.sub 0).seqT s1, (u.sub 0).seqT s2, by rw [q1.len, q2.len]; exact w.1, fun e => ?_, fun e => ?_, fun a n => laid0 u w.2 k n fun s0 => rep_tup.mpr ⟨a, _, rfl, SqN.of upd_same, (q1.app q2).up s0⟩⟩))
    · subst e
      have e := q1.nil_of
      subst e
      exact keep0 u w.2 k rb
    · subst e
      have e := q2.nil_of
      subst e
      refine keep0 u w.2 k (t := .tup (l ++ [])) ?_
      rw [List.append_nil]
      exact ra
  | .lst l, .lst m, w =>
    obtain ⟨c, xs, rfl, s1, q1⟩ := rep_lst.mp ra
    obtain ⟨d, ys, rfl, s2, q2⟩ := rep_lst.mp rb
    refine .inr (.inr (.inr ⟨c, d, xs, ys, rfl, rfl, u.sub 0 _ _ s1, u.sub 0 _ _ s2, by rw [q1.len, q2.len]; exact w.1, fun a n => laid0 u w.2 k n fun s0 => rep_lst.mpr ⟨a, _, rfl, upd_same, (q1.app q2).up s0⟩⟩))
def wSub : Tv -> Tv -> (Tv -> Prop) -> Prop
  | .int i, .int j, k => k (.int (i - j))
  | _, _, _ => False
theorem o_sub : OpR X (binaryOp .Sub) (rV K wSub) := op_sub.imp fun x y H Q ⟨p, a, b, P, u, ra, rb, w, k⟩ => by
  match a, b, w with
  | .int i, .int j, w => exact ⟨i, j, rep_int.mp ra, rep_int.mp rb, keep0 u w k (rep_int.mpr rfl)⟩
def wMul : Tv -> Tv -> (Tv -> Prop) -> Prop
  | .int i, .int j, k => (i.natAbs < BM /\ j.natAbs < BM) /\ k (.int (i * j))
  | .lst l, .int j, k => (-(2 ^ 63) <= j /\ j < 2 ^ 63 /\ l.length * j.toNat <= sizeLine) /\ k (.lst (List.replicate j.toNat l).flatten)
  | _, _, _ => False
theorem o_mul : OpR X (binaryOp .Mult) (rV K wMul) := (op_mulF.or op_rep).imp fun x y H Q ⟨p, a, b, P, u, ra, rb, w, k⟩ => by
  match a, b, w with
  | .int i, .int j, w => exact .inl ⟨i, j, rep_int.mp ra, rep_int.mp rb, ⟨1048576, by decide, w.1.1, w.1.2⟩, keep0 u w.2 k (rep_int.mpr rfl)⟩
  | .lst l, .int j, w =>
    obtain ⟨c, xs, rfl, s1, q1⟩ := rep_lst.mp ra
    exact .inr ⟨c, j, xs, rfl, rep_int.mp rb, u.sub 0 _ _ s1, w.1.1, w.1.2.1, by rw [q1.len]; exact w.1.2.2, fun a n => laid0 u w.2 k n fun s0 => rep_lst.mpr ⟨a, _, rfl, upd_same, (q1.rep _).up s0⟩⟩
def wDivC (j : Int) : Tv -> (Tv -> Prop) -> Prop
  | .int i, k => k (.int (i / j))
  | _, _ => False
def wModC (j : Int) : Tv -> (Tv -> Prop) -> Prop
  | .int i, k => k (.int (i % j))
  | _, _ => False
def wDivP : Tv -> Tv -> (Tv -> Prop) -> Prop
  | .int i, .int j, k => (0 < j /\ j < 1073741824) /\ k (.int (i / j))
  | _, _, _ => False
theorem o_divP : OpR X (binaryOp .FloorDiv) (rV K wDivP) := op_fdiv.imp fun x y H Q ⟨p, a, b, P, u, ra, rb, w, k⟩ => by
  match a, b, w with
  | .int i, .int j, w => exact ⟨i, j, rep_int.mp ra, rep_int.mp rb, w.1, keep0 u w.2 k (rep_int.mpr rfl)⟩
def wDivB : Tv -> Tv -> (Tv -> Prop) -> Prop
  | .int i, .int j, k => (j ≠ 0 /\ j.natAbs.log2 < 9000) /\ k (.int (i.fdiv j))
  | _, _, _ => False
theorem o_divB : OpR X (binaryOp .FloorDiv) (rV K wDivB) := op_fdivB.imp fun x y H Q ⟨p, a, b, P, u, ra, rb, w, k⟩ => by
  match a, b, w with
  | .int i, .int j, w => exact ⟨i, j, rep_int.mp ra, rep_int.mp rb, w.1, keep0 u w.2 k (rep_int.mpr rfl)⟩
def wModP : Tv -> Tv -> (Tv -> Prop) -> Prop
  | .int i, .int j, k => 0 < j /\ k (.int (i % j))
  | _, _, _ => False
theorem o_modP : OpR X (binaryOp .Mod) (rV K wModP) := op_mod.imp fun x y H Q ⟨p, a, b, P, u, ra, rb, w, k⟩ => by
  match a, b, w with
  | .int i, .int j, w => exact ⟨i, j, rep_int.mp ra, rep_int.mp rb, w.1, keep0 u w.2 k (rep_int.mpr rfl)⟩
def wPow : Tv -> Tv -> (Tv -> Prop) -> Prop
  | .int i, .int j, k => (0 <= j /\ j <= 1000000 /\ i.natAbs < 2 ^ 64) /\ k (.int (i ^ j.toNat))
  | _, _, _ => False
theorem o_pow : OpR X (binaryOp .Pow) (rV K wPow) := op_pow.imp fun x y H Q ⟨p, a, b, P, u, ra, rb, w, k⟩ => by
  match a, b, w with
  | .int i, .int j, w => exact ⟨i, j, rep_int.mp ra, rep_int.mp rb, w.1, keep0 u w.2 k (rep_int.mpr rfl)⟩
theorem v_divC {E : St -> XK} {a : Expr} {m : Mv Tv} {j : Int} {n : Nat} {cp pos : Pos} (ha : PE X a (tV K E m)) (hj : 0 < j /\ j < 1073741824 := by decide) : PE X (.BinOp a .FloorDiv (.Constant (.int j) n cp) pos) (tV K E (vUn (wDivC j) m)) :=
  (v_op (W := wDivP) o_divP ha v_int).imp fun σ H Q ⟨p, ρ, er, P, a, b, c⟩ => ⟨p, ρ, er, P, by
    refine cast ?_ a
    show m ρ _ = m ρ _
    congr 1
    funext r ρ1
    cases r with
    | er c => rfl
    | ok x =>
      cases x with
      | int i => exact propext ⟨fun h => ⟨hj, h⟩, fun h => h.2⟩
      | _ => rfl, b, c⟩
theorem v_modC {E : St -> XK} {a : Expr} {m : Mv Tv} {j : Int} {n : Nat} {cp pos : Pos} (ha : PE X a (tV K E m)) (hj : 0 < j := by decide) : PE X (.BinOp a .Mod (.Constant (.int j) n cp) pos) (tV K E (vUn (wModC j) m)) :=
  (v_op (W := wModP) o_modP ha v_int).imp fun σ H Q ⟨p, ρ, er, P, a, b, c⟩ => ⟨p, ρ, er, P, by
    refine cast ?_ a
    show m ρ _ = m ρ _
    congr 1
    funext r ρ1
    cases r with
    | er c => rfl
    | ok x =>
      cases x with
      | int i => exact propext ⟨fun h => ⟨hj, h⟩, fun h => h.2⟩
      | _ => rfl, b, c⟩
def wNeg : Tv -> (Tv -> Prop) -> Prop
  | .int i, k => k (.int (-i))
  | _, _ => False
theorem o_neg : UnR X (unaryOp .USub) (rV1 K wNeg) := un_neg.imp fun x H Q ⟨p, a, P, u, ra, w, k⟩ => by
  match a, w with
  | .int i, w => exact ⟨i, rep_int.mp ra, keep0 u w k (rep_int.mpr rfl)⟩
def wLt : Tv -> Tv -> (Tv -> Prop) -> Prop
  | .int i, .int j, k => k (.bl (decide (i < j)))
  | _, _, _ => False
def wGt : Tv -> Tv -> (Tv -> Prop) -> Prop
  | .int i, .int j, k => k (.bl (decide (j < i)))
  | _, _, _ => False
theorem o_lt : OpR X (compareOp .Lt) (rV K wLt) := op_lt.imp fun x y H Q ⟨p, a, b, P, u, ra, rb, w, k⟩ => by
  match a, b, w with
  | .int i, .int j, w => exact ⟨i, j, rep_int.mp ra, rep_int.mp rb, keep0 u w k (rep_bl.mpr rfl)⟩
theorem o_gt : OpR X (compareOp .Gt) (rV K wGt) := op_gt.imp fun x y H Q ⟨p, a, b, P, u, ra, rb, w, k⟩ => by
  match a, b, w with
  | .int i, .int j, w => exact ⟨i, j, rep_int.mp ra, rep_int.mp rb, keep0 u w k (rep_bl.mpr rfl)⟩
def flatT : Tv -> Bool
  | .non => true
  | .bl _ => true
  | .int _ => true
  | .str _ => true
  | _ => false
def eqF : Tv -> Tv -> Bool
  | .non, .non => true
  | .bl a, .bl b => a == b
  | .bl a, .int b => (if a then 1 else 0) == b
  | .int a, .bl b => a == (if b then 1 else 0)
  | .int a, .int b => a == b
  | .str a, .str b => a == b
  | _, _ => false
def eqFs : List Tv -> List Tv -> Bool
  | [], [] => true
  | a :: l, b :: m => eqF a b && eqFs l m
  | _, _ => false
theorem flat_of {G : Hp} {t : Tv} {v : V} (f : flatT t = true) (r : Rep K G t v) : flatV v = true := by
  cases t with
  | non => rw [rep_non.mp r]; rfl
  | bl b => rw [rep_bl.mp r]; rfl
  | int b => rw [rep_int.mp r]; rfl
  | str b => rw [rep_str.mp r]; rfl
  | _ => cases f
theorem eqF_of {G : Hp} {s t : Tv} {u v : V} (fs : flatT s = true) (ft : flatT t = true) (r : Rep K G s u) (q : Rep K G t v) : eqV u v = eqF s t := by
  cases s with
  | non =>
    rw [rep_non.mp r]
    cases t with
    | non => rw [rep_non.mp q]; rfl
    | bl b => rw [rep_bl.mp q]; rfl
    | int b => rw [rep_int.mp q]; rfl
    | str b => rw [rep_str.mp q]; rfl
    | _ => cases ft
  | bl a =>
    rw [rep_bl.mp r]
    cases t with
    | non => rw [rep_non.mp q]; rfl
    | bl b => rw [rep_bl.mp q]; rfl
    | int b => rw [rep_int.mp q]; rfl
    | str b => rw [rep_str.mp q]; rfl
    | _ => cases ft
  | int a =>
    rw [rep_int.mp r]
    cases t with
    | non => rw [rep_non.mp q]; rfl
    | bl b => rw [rep_bl.mp q]; rfl
    | int b => rw [rep_int.mp q]; rfl
    | str b => rw [rep_str.mp q]; rfl
    | _ => cases ft
  | str a =>
    rw [rep_str.mp r]
    cases t with
    | non => rw [rep_non.mp q]; rfl
    | bl b => rw [rep_bl.mp q]; rfl
    | int b => rw [rep_int.mp q]; rfl
    | str b => rw [rep_str.mp q]; rfl
    | _ => cases ft
  | _ => cases fs
theorem flats_of {G : Hp} : ∀ {l : List Tv} {xs : List V}, l.all flatT = true -> RepL K G l xs -> xs.all flatV = true
  | [], xs, _, r => by rw [repL_nil.mp r]; rfl
  | t :: l, xs, f, r => by
    obtain ⟨v, q, rfl, a, b⟩ := repL_cons.mp r
    rw [List.all_cons, Bool.and_eq_true] at f
    rw [List.all_cons, flat_of f.1 a, flats_of f.2 b]; rfl
theorem eqFs_of {G : Hp} : ∀ {l m : List Tv} {xs ys : List V}, l.all flatT = true -> m.all flatT = true -> RepL K G l xs -> RepL K G m ys -> eqVs xs ys = eqFs l m
  | [], [], xs, ys, _, _, r, q => by rw [repL_nil.mp r, repL_nil.mp q]; rfl
  | [], t :: m, xs, ys, _, _, r, q => by
    obtain ⟨v, q, rfl, a, b⟩ := repL_cons.mp q
    rw [repL_nil.mp r]; rfl
  | t :: l, [], xs, ys, _, _, r, q => by
    obtain ⟨v, r, rfl, a, b⟩ := repL_cons.mp r
    rw [repL_nil.mp q]; rfl
  | t :: l, s :: m, xs, ys, f, g, r, q => by
    obtain ⟨v, r', rfl, a, b⟩ := repL_cons.mp r
    obtain ⟨w, q', rfl, c, d⟩ := repL_cons.mp q
    rw [List.all_cons, Bool.and_eq_true] at f g
    show (eqV v w && eqVs r' q') = (eqF t s && eqFs l m)
    rw [eqF_of f.1 g.1 a c, eqFs_of f.2 g.2 b d]
mutual
def hgt : Nat -> Tv -> Bool
  | _, .non => true
  | _, .bl _ => true
  | _, .int _ => true
  | _, .str _ => true
  | n + 1, .tup l => hgtL n l
  | n + 1, .lst l => hgtL n l
  | _, _ => false
def hgtL : Nat -> List Tv -> Bool
  | _, [] => true
  | n, t :: l => hgt n t && hgtL n l
end
mutual
theorem alike_of {G : Hp} : ∀ (n : Nat) (t : Tv) (u v : V), hgt n t = true -> Rep K G t u -> Rep K G t v -> Alike K G n u v
  | n, .non, u, v, h, r, q => by rw [rep_non.mp r, rep_non.mp q]; exact Alike.flat rfl rfl rfl
  | n, .bl b, u, v, h, r, q => by rw [rep_bl.mp r, rep_bl.mp q]; exact Alike.flat rfl rfl (beq_self_eq_true b)
  | n, .int b, u, v, h, r, q => by rw [rep_int.mp r, rep_int.mp q]; exact Alike.int b
  | n, .str b, u, v, h, r, q => by rw [rep_str.mp r, rep_str.mp q]; exact Alike.str b
  | n, .ty _, u, v, h, r, q => by cases n <;> (unfold hgt at h; cases h)
  | n, .cls _, u, v, h, r, q => by cases n <;> (unfold hgt at h; cases h)
  | n, .scr _, u, v, h, r, q => by cases n <;> (unfold hgt at h; cases h)
  | n, .obj _ _ _, u, v, h, r, q => by cases n <;> (unfold hgt at h; cases h)
  | n, .dic _ _, u, v, h, r, q => by cases n <;> (unfold hgt at h; cases h)
  | 0, .tup l, u, v, h, r, q => by unfold hgt at h; cases h
  | 0, .lst l, u, v, h, r, q => by unfold hgt at h; cases h
  | n + 1, .tup l, u, v, h, r, q => by
    unfold hgt at h
    obtain ⟨a, xs, rfl, s1, q1⟩ := rep_tupS r
    obtain ⟨b, ys, rfl, s2, q2⟩ := rep_tupS q
    exact Alike.tup s1 s2 (alikes_of n l xs ys h q1 q2)
  | n + 1, .lst l, u, v, h, r, q => by
    unfold hgt at h
    obtain ⟨a, xs, rfl, s1, q1⟩ := rep_lst.mp r
    obtain ⟨b, ys, rfl, s2, q2⟩ := rep_lst.mp q
    exact Alike.lst (SqL.of s1) (SqL.of s2) (alikes_of n l xs ys h q1 q2)
theorem alikes_of {G : Hp} : ∀ (n : Nat) (l : List Tv) (xs ys : List V), hgtL n l = true -> RepL K G l xs -> RepL K G l ys -> Paired (Alike K G n) xs ys
  | n, [], xs, ys, h, r, q => by rw [repL_nil.mp r, repL_nil.mp q]; exact .nil
  | n, t :: l, xs, ys, h, r, q => by
    unfold hgtL at h
    rw [Bool.and_eq_true] at h
    obtain ⟨v, r', rfl, a, b⟩ := repL_cons.mp r
    obtain ⟨w, q', rfl, c, d⟩ := repL_cons.mp q
    exact .cons (alike_of n t v w h.1 a c) (alikes_of n l r' q' h.2 b d)
end
def wEq : Tv -> Tv -> (Tv -> Prop) -> Prop
  | .int i, .int j, k => k (.bl (decide (i = j)))
  | .str i, .str j, k => k (.bl (decide (i = j)))
  | .bl i, .bl j, k => k (.bl (decide (i = j)))
  | .tup a, .tup b, k => (a.all flatT = true /\ b.all flatT = true /\ k (.bl (eqFs a b))) ∨ (a = b /\ hgtL 40 a = true /\ k (.bl true)) ∨ (b = [] /\ k (.bl a.isEmpty))
  | .lst a, .lst b, k => (a.all flatT = true /\ b.all flatT = true /\ k (.bl (eqFs a b))) ∨ (a = b /\ hgtL 40 a = true /\ k (.bl true)) ∨ (b = [] /\ k (.bl a.isEmpty))
  | _, _, _ => False
def wNe : Tv -> Tv -> (Tv -> Prop) -> Prop
  | .int i, .int j, k => k (.bl (!decide (i = j)))
  | .str i, .str j, k => k (.bl (!decide (i = j)))
  | .bl i, .bl j, k => k (.bl (!decide (i = j)))
  | .tup a, .tup b, k => (a.all flatT = true /\ b.all flatT = true /\ k (.bl (!eqFs a b))) ∨ (a = b /\ hgtL 40 a = true /\ k (.bl false)) ∨ (b = [] /\ k (.bl (!a.isEmpty)))
  | .lst a, .lst b, k => (a.all flatT = true /\ b.all flatT = true /\ k (.bl (!eqFs a b))) ∨ (a = b /\ hgtL 40 a = true /\ k (.bl false)) ∨ (b = [] /\ k (.bl (!a.isEmpty)))
  | _, _, _ => False
theorem dec_intV {i j : Int} : decide (V.int i = V.int j) = decide (i = j) := by rw [Bool.eq_iff_iff]; simp
theorem dec_strV {i j : Str} : decide (V.str i = V.str j) = decide (i = j) := by rw [Bool.eq_iff_iff]; simp
theorem dec_blV {i j : Bool} : decide (V.bl i = V.bl j) = decide (i = j) := by rw [Bool.eq_iff_iff]; simp
theorem op_neL0 {X : Cx} {K : PySem.W.Frag} (hK : X.K = K) (hu : X.A.units < cLine) : OpR X (compareOp .NotEq) (fun x y H Q => ∃ p q xs, x = .ref p /\ y = .ref q /\ SqL K H p xs /\ SqL K H q [] /\ Q (.bl (!xs.isEmpty)) H) := by
  subst hK
  intro pins s σ H x y v u Q I rx ry h
  obtain ⟨p, q, xs, rfl, rfl, hx, hy, hq⟩ := h
  cases rx
  cases ry
  obtain ⟨its, r, pl, hz⟩ := I.list hx
  obtain ⟨its2, r2, pl2, hz2⟩ := I.list hy
  cases r2
  cases r with
  | nil =>
    refine SeqAt.RcNeAt.lists (e := fun _ => true) pl.isList pl2.isList rfl hu (fun j h1 h2 => absurd h2 (Nat.not_lt_zero j)) _ _ _ _ ?_
    exact ⟨.bl false, H, I, rfl, hq⟩
  | cons a b =>
    refine SeqAt.RcNeAt.lists_lengths pl.isList pl2.isList rfl hu _ _ _ _ ?_
    exact ⟨.bl true, H, I, rfl, hq⟩
theorem o_eq (hK : X.K = K) (hu : X.A.units + 64 < cLine) : OpR X (compareOp .Eq) (rV K wEq) := by
  have h0 : X.A.units < cLine := by omega
  have hT : OpR X (compareOp .Eq) (fun x y H Q => ∃ p q xs ys, x = .ref p /\ y = .ref q /\ SqT K H p xs /\ SqT K H q ys /\ xs.all flatV = true /\ ys.all flatV = true /\ Q (.bl (eqVs xs ys)) H) := by subst hK; exact op_eqTF h0
  refine (op_eq.or (hT.or ((op_eqLF hK h0).or ((op_eqA hK hu).or ((op_eqT0 hK h0).or (op_eqL0 hK h0)))))).imp fun x y H Q ⟨p, a, b, P, u, ra, rb, w, k⟩ => ?_
  have up := fun {t : Tv} {v : V} (r : Rep K (p 0) t v) => r
  match a, b, w with
  | .int i, .int j, w => rw [rep_int.mp ra, rep_int.mp rb]; exact .inl ⟨rfl, keep0 u w k (rep_bl.mpr (by rw [dec_intV]))⟩
  | .str i, .str j, w => rw [rep_str.mp ra, rep_str.mp rb]; exact .inl ⟨rfl, keep0 u w k (rep_bl.mpr (by rw [dec_strV]))⟩
  | .bl i, .bl j, w => rw [rep_bl.mp ra, rep_bl.mp rb]; exact .inl ⟨rfl, keep0 u w k (rep_bl.mpr (by rw [dec_blV]))⟩
  | .tup l, .tup m, w =>
    obtain ⟨c, xs, rfl, s1, q1⟩ := rep_tupS ra
    obtain ⟨d, ys, rfl, s2, q2⟩ := rep_tupS rb
    rcases w with ⟨f, g, w⟩ | ⟨rfl, hh, w⟩ | ⟨rfl, w⟩
    · exact .inr (.inl ⟨c, d, xs, ys, rfl, rfl, (u.sub 0).seqT s1, (u.sub 0).seqT s2, flats_of f q1, flats_of g q2, keep0 u w k (rep_bl.mpr (by rw [eqFs_of f g q1 q2]))⟩)
    · exact .inr (.inr (.inr (.inl ⟨c, d, xs, ys, rfl, rfl, .inl ⟨(u.sub 0).seqT s1, (u.sub 0).seqT s2⟩, alikes_of 40 l xs ys hh (q1.up (u.sub 0)) (q2.up (u.sub 0)), keep0 u w k (rep_bl.mpr rfl)⟩)))
    · rw [repL_nil.mp q2] at s2
      exact .inr (.inr (.inr (.inr (.inl ⟨c, d, xs, rfl, rfl, (u.sub 0).seqT s1, (u.sub 0).seqT s2, keep0 u w k (rep_bl.mpr (by rw [q1.emp]))⟩))))
  | .lst l, .lst m, w =>
    obtain ⟨c, xs, rfl, s1, q1⟩ := rep_lst.mp ra
    obtain ⟨d, ys, rfl, s2, q2⟩ := rep_lst.mp rb
    have t1 : SqL K H c xs := SqL.of (u.sub 0 _ _ s1)
    have t2 : SqL K H d ys := SqL.of (u.sub 0 _ _ s2)
    rcases w with ⟨f, g, w⟩ | ⟨rfl, hh, w⟩ | ⟨rfl, w⟩
    · exact .inr (.inr (.inl ⟨c, d, xs, ys, rfl, rfl, t1, t2, flats_of f q1, flats_of g q2, keep0 u w k (rep_bl.mpr (by rw [eqFs_of f g q1 q2]; rfl))⟩))
    · exact .inr (.inr (.inr (.inl ⟨c, d, xs, ys, rfl, rfl, .inr ⟨t1, t2⟩, alikes_of 40 l xs ys hh (q1.up (u.sub 0)) (q2.up (u.sub 0)), keep0 u w k (rep_bl.mpr rfl)⟩)))
    · rw [repL_nil.mp q2] at t2
      exact .inr (.inr (.inr (.inr (.inr ⟨c, d, xs, rfl, rfl, t1, t2, keep0 u w k (rep_bl.mpr (by rw [q1.emp]))⟩))))
theorem o_ne (hK : X.K = K) (hu : X.A.units + 64 < cLine) : OpR X (compareOp .NotEq) (rV K wNe) := by
  have h0 : X.A.units < cLine := by omega
  refine (op_ne.or ((op_neTF hK h0).or ((op_neLF hK h0).or ((op_neA hK hu).or ((op_neT0 hK h0).or (op_neL0 hK h0)))))).imp fun x y H Q ⟨p, a, b, P, u, ra, rb, w, k⟩ => ?_
  match a, b, w with
  | .int i, .int j, w => rw [rep_int.mp ra, rep_int.mp rb]; exact .inl ⟨rfl, keep0 u w k (rep_bl.mpr (by rw [dec_intV]))⟩
  | .str i, .str j, w => rw [rep_str.mp ra, rep_str.mp rb]; exact .inl ⟨rfl, keep0 u w k (rep_bl.mpr (by rw [dec_strV]))⟩
  | .bl i, .bl j, w => rw [rep_bl.mp ra, rep_bl.mp rb]; exact .inl ⟨rfl, keep0 u w k (rep_bl.mpr (by rw [dec_blV]))⟩
  | .tup l, .tup m, w =>
    obtain ⟨c, xs, rfl, s1, q1⟩ := rep_tupS ra
    obtain ⟨d, ys, rfl, s2, q2⟩ := rep_tupS rb
    rcases w with ⟨f, g, w⟩ | ⟨rfl, hh, w⟩ | ⟨rfl, w⟩
    · exact .inr (.inl ⟨c, d, xs, ys, rfl, rfl, (u.sub 0).seqT s1, (u.sub 0).seqT s2, flats_of f q1, flats_of g q2, keep0 u w k (rep_bl.mpr (by rw [eqFs_of f g q1 q2]))⟩)
    · exact .inr (.inr (.inr (.inl ⟨c, d, xs, ys, rfl, rfl, .inl ⟨(u.sub 0).seqT s1, (u.sub 0).seqT s2⟩, alikes_of 40 l xs ys hh (q1.up (u.sub 0)) (q2.up (u.sub 0)), keep0 u w k (rep_bl.mpr rfl)⟩)))
    · rw [repL_nil.mp q2] at s2
      exact .inr (.inr (.inr (.inr (.inl ⟨c, d, xs, rfl, rfl, (u.sub 0).seqT s1, (u.sub 0).seqT s2, keep0 u w k (rep_bl.mpr (by rw [q1.emp]))⟩))))
  | .lst l, .lst m, w =>
    obtain ⟨c, xs, rfl, s1, q1⟩ := rep_lst.mp ra
    obtain ⟨d, ys, rfl, s2, q2⟩ := rep_lst.mp rb
    have t1 : SqL K H c xs := SqL.of (u.sub 0 _ _ s1)
    have t2 : SqL K H d ys := SqL.of (u.sub 0 _ _ s2)
    rcases w with ⟨f, g, w⟩ | ⟨rfl, hh, w⟩ | ⟨rfl, w⟩
    · exact .inr (.inr (.inl ⟨c, d, xs, ys, rfl, rfl, t1, t2, flats_of f q1, flats_of g q2, keep0 u w k (rep_bl.mpr (by rw [eqFs_of f g q1 q2]; rfl))⟩))
    · exact .inr (.inr (.inr (.inl ⟨c, d, xs, ys, rfl, rfl, .inr ⟨t1, t2⟩, alikes_of 40 l xs ys hh (q1.up (u.sub 0)) (q2.up (u.sub 0)), keep0 u w k (rep_bl.mpr rfl)⟩)))
    · rw [repL_nil.mp q2] at t2
      exact .inr (.inr (.inr (.inr (.inr ⟨c, d, xs, rfl, rfl, t1, t2, keep0 u w k (rep_bl.mpr (by rw [q1.emp]))⟩))))
def optK {α : Type} (o : Option α) (k : α -> Prop) : Prop := match o with | some t => k t | none => False
theorem optK_of {α : Type} {o : Option α} {k : α -> Prop} (h : optK o k) : ∃ t, o = some t /\ k t := by
  cases o with
  | none => exact h.elim
  | some t => exact ⟨t, rfl, h⟩
theorem optK_mk {α : Type} {o : Option α} {k : α -> Prop} {t : α} (e : o = some t) (h : k t) : optK o k := by subst e; exact h
def wIx : Tv -> Tv -> (Tv -> Prop) -> Prop
  | .tup l, .int i, k => optK (atI l i) k
  | .lst l, .int i, k => optK (atI l i) k
  | .scr l, .int i, k => optK (atI l i) k
  | .str z, .int i, k => z.length <= sizeLine /\ optK (atI z.cps.toList i) fun c => k (.str ⟨#[c]⟩)
  | _, _, _ => False
theorem o_ix (hK : X.K = K) : IxR X (rV K wIx) := by
  subst hK
  refine ix_seq.imp fun x y H Q ⟨p, a, b, P, u, ra, rb, w, k⟩ => ?_
  match a, b, w with
  | .tup l, .int i, w =>
    obtain ⟨c, xs, rfl, s1, q1⟩ := rep_tupS ra
    obtain ⟨t, e, w⟩ := optK_of w
    obtain ⟨v, hv, r⟩ := q1.at e
    exact .inr (.inl ⟨c, xs, i, v, rfl, rep_int.mp rb, (u.sub 0).seqT s1, hv, keep0 u w k r⟩)
  | .lst l, .int i, w =>
    obtain ⟨c, xs, rfl, s1, q1⟩ := rep_lst.mp ra
    obtain ⟨t, e, w⟩ := optK_of w
    obtain ⟨v, hv, r⟩ := q1.at e
    exact .inl ⟨c, xs, i, v, rfl, rep_int.mp rb, SqL.of (u.sub 0 _ _ s1), hv, keep0 u w k r⟩
  | .scr l, .int i, w =>
    obtain ⟨c, xs, rfl, s1, q1⟩ := rep_scr.mp ra
    obtain ⟨t, e, w⟩ := optK_of w
    obtain ⟨v, hv, r⟩ := q1.at e
    exact .inl ⟨c, xs, i, v, rfl, rep_int.mp rb, (u.sub 0).seq s1, hv, keep0 u w k r⟩
  | .str z, .int i, w =>
    obtain ⟨hz, w⟩ := w
    obtain ⟨c, e, w⟩ := optK_of w
    exact .inr (.inr ⟨z, i, c, rep_str.mp ra, rep_int.mp rb, hz, e, keep0 u w k (rep_str.mpr rfl)⟩)
end
end L2
set_option Elab.async false
set_option linter.all false
set_option maxRecDepth 100000
set_option maxHeartbeats 4000000
namespace L2
open PySem PySem.Spec PyProof.Rows
section
variable {X : Cx} {K : PySem.W.Frag}
theorem one_of {G : Hp} {t : Tv} {xs : List V} (r : RepL K G [t] xs) : ∃ v, xs = [v] /\ Rep K G t v := by
  obtain ⟨v, q, rfl, a, b⟩ := repL_cons.mp r
  rw [repL_nil.mp b]
  exact ⟨v, rfl, a⟩
theorem two_of {G : Hp} {s t : Tv} {xs : List V} (r : RepL K G [s, t] xs) : ∃ u v, xs = [u, v] /\ Rep K G s u /\ Rep K G t v := by
  obtain ⟨v, q, rfl, a, b⟩ := repL_cons.mp r
  obtain ⟨w, rfl, c⟩ := one_of b
  exact ⟨v, w, rfl, a, c⟩
def wLen : List Tv -> (Tv -> Prop) -> Prop
  | [.tup l], k => k (.int l.length)
  | [.lst l], k => k (.int l.length)
  | [.scr l], k => k (.int l.length)
  | [.str z], k => z.length <= sizeLine /\ k (.int z.length)
  | _, _ => False
theorem f_len (hK : X.K = K) : CallR X (.builtin "len") (rVs K wLen) := by
  refine ((call_lenK hK).or call_len_str).imp fun xs H Q ⟨p, l, P, u, r, w, k⟩ => ?_
  match l, w with
  | [.tup l], w =>
    obtain ⟨v, rfl, rr⟩ := one_of r
    obtain ⟨c, ys, rfl, s1, q1⟩ := rep_tupS rr
    exact .inl ⟨c, ys, rfl, .inr ((u.sub 0).seqT s1), keep0 u w k (rep_int.mpr (by rw [q1.len]))⟩
  | [.lst l], w =>
    obtain ⟨v, rfl, rr⟩ := one_of r
    obtain ⟨c, ys, rfl, s1, q1⟩ := rep_lst.mp rr
    exact .inl ⟨c, ys, rfl, .inl (SqL.of (u.sub 0 _ _ s1)), keep0 u w k (rep_int.mpr (by rw [q1.len]))⟩
  | [.scr l], w =>
    obtain ⟨v, rfl, rr⟩ := one_of r
    obtain ⟨c, ys, rfl, s1, q1⟩ := rep_scr.mp rr
    exact .inl ⟨c, ys, rfl, .inl ((u.sub 0).seq s1), keep0 u w k (rep_int.mpr (by rw [q1.len]))⟩
  | [.str z], w =>
    obtain ⟨v, rfl, rr⟩ := one_of r
    rw [rep_str.mp rr]
    exact .inr ⟨z, rfl, w.1, keep0 u w.2 k (rep_int.mpr rfl)⟩
def absI (i : Int) : Int := if i < 0 then -i else i
def wAbs : List Tv -> (Tv -> Prop) -> Prop
  | [.int i], k => k (.int (absI i))
  | _, _ => False
theorem f_abs : CallR X (.builtin "abs") (rVs K wAbs) := call_abs.imp fun xs H Q ⟨p, l, P, u, r, w, k⟩ => by
  match l, w with
  | [.int i], w =>
    obtain ⟨v, rfl, rr⟩ := one_of r
    rw [rep_int.mp rr]
    exact ⟨i, rfl, keep0 u w k (rep_int.mpr rfl)⟩
def b2I (b : Bool) : Int := if b then 1 else 0
def wInt : List Tv -> (Tv -> Prop) -> Prop
  | [.int i], k => k (.int i)
  | [.bl b], k => k (.int (b2I b))
  | _, _ => False
theorem f_int : CallR X (.type "int") (rVs K wInt) := call_int1.imp fun xs H Q ⟨p, l, P, u, r, w, k⟩ => by
  match l, w with
  | [.int i], w =>
    obtain ⟨v, rfl, rr⟩ := one_of r
    rw [rep_int.mp rr]
    exact .inl ⟨i, rfl, keep0 u w k (rep_int.mpr rfl)⟩
  | [.bl b], w =>
    obtain ⟨v, rfl, rr⟩ := one_of r
    rw [rep_bl.mp rr]
    exact .inr ⟨b, rfl, keep0 u w k (rep_int.mpr rfl)⟩
def wStr : List Tv -> (Tv -> Prop) -> Prop
  | [.int i], k => i.natAbs.log2 < 1920 /\ k (.str (toString i))
  | _, _ => False
theorem f_str : CallR X (.type "str") (rVs K wStr) := call_str_int.imp fun xs H Q ⟨p, l, P, u, r, w, k⟩ => by
  match l, w with
  | [.int i], w =>
    obtain ⟨v, rfl, rr⟩ := one_of r
    rw [rep_int.mp rr]
    exact ⟨i, rfl, w.1, keep0 u w.2 k (rep_str.mpr rfl)⟩
def wTuple : List Tv -> (Tv -> Prop) -> Prop
  | [.tup l], k => k (.tup l)
  | [.lst l], k => k (.tup l)
  | _, _ => False
theorem f_tuple (hK : X.K = K) : CallR X (.type "tuple") (rVs K wTuple) := by
  subst hK
  refine call_tuple_of.imp fun xs H Q ⟨p, l, P, u, r, w, k⟩ => ?_
  match l, w with
  | [.tup l], w =>
    obtain ⟨v, rfl, rr⟩ := one_of r
    obtain ⟨c, ys, rfl, s1, q1⟩ := rep_tupS rr
    exact ⟨c, ys, rfl, .inr ⟨(u.sub 0).seqT s1, keep0 u w k rr⟩⟩
  | [.lst l], w =>
    obtain ⟨v, rfl, rr⟩ := one_of r
    obtain ⟨c, ys, rfl, s1, q1⟩ := rep_lst.mp rr
    exact ⟨c, ys, rfl, .inl ⟨SqL.of (u.sub 0 _ _ s1), fun a n => laid0 u w k n fun s0 => rep_tup.mpr ⟨a, _, rfl, SqN.of upd_same, q1.up s0⟩⟩⟩
def wList : List Tv -> (Tv -> Prop) -> Prop
  | [.tup l], k => k (.lst l)
  | [.lst l], k => k (.lst l)
  | _, _ => False
theorem f_list (hK : X.K = K) : CallR X (.type "list") (rVs K wList) := by
  refine (call_listK hK).imp fun xs H Q ⟨p, l, P, u, r, w, k⟩ => ?_
  match l, w with
  | [.tup l], w =>
    obtain ⟨v, rfl, rr⟩ := one_of r
    obtain ⟨c, ys, rfl, s1, q1⟩ := rep_tupS rr
    exact ⟨c, ys, rfl, .inr ((u.sub 0).seqT s1), fun a n => laid0 u w k n fun s0 => rep_lst.mpr ⟨a, _, rfl, upd_same, q1.up s0⟩⟩
  | [.lst l], w =>
    obtain ⟨v, rfl, rr⟩ := one_of r
    obtain ⟨c, ys, rfl, s1, q1⟩ := rep_lst.mp rr
    exact ⟨c, ys, rfl, .inl (SqL.of (u.sub 0 _ _ s1)), fun a n => laid0 u w k n fun s0 => rep_lst.mpr ⟨a, _, rfl, upd_same, q1.up s0⟩⟩
def kindT : Tv -> Option String
  | .non => some "NoneType"
  | .bl _ => some "bool"
  | .int _ => some "int"
  | .str _ => some "str"
  | .tup _ => some "tuple"
  | .lst _ => some "list"
  | _ => none
def isT (k T : String) : Bool := k == T || (k == "bool" && T == "int") || T == "object"
def wIsi : List Tv -> (Tv -> Prop) -> Prop
  | [x, .ty T], k => optK (kindT x) fun n => bif ["int", "bool", "str", "tuple", "list"].contains T then k (.bl (isT n T)) else False
  | _, _ => False
end
end L2
set_option Elab.async false
set_option linter.all false
set_option maxRecDepth 100000
set_option maxHeartbeats 4000000
namespace L2
open PySem PySem.Spec PyProof.Rows
section
variable {X : Cx} {K : PySem.W.Frag} {E : St -> XK}
theorem pg_tupK {es : List Expr} {k n : Nat} {t : TGs} {pos : Pos} (hK : X.K = K) (hc : X.calm = true) (h : PGs X es t) (hn : (assignEach es X.env).length = n := by rfl) (hst : (assignEach es X.env).findIdx? (·.1) = none := by rfl) : PG X (.Tuple es k pos) (gTup K n t) := hK ▸ pg_tup hc h hn hst
def cutT (l : List Tv) (lo hi : Option Int) : List Tv := (l.drop (HT.sIx l.length 0 lo)).take (HT.sIx l.length l.length hi - HT.sIx l.length 0 lo)
theorem RepL.cut {G : Hp} {l : List Tv} {xs : List V} (h : RepL K G l xs) (lo hi : Option Int) : RepL K G (cutT l lo hi) (cutV xs lo hi) := by
  unfold cutT cutV
  rw [h.len]
  exact (h.drop _).take _
def wSl (t : Tv) (lo hi : Option Int) (k : Tv -> Prop) : Prop := match t with
  | .tup l => ¬ (HT.sIx l.length 0 lo = 0 /\ HT.sIx l.length l.length hi = l.length) /\ k (.tup (cutT l lo hi))
  | .lst l => k (.lst (cutT l lo hi))
  | .str z => z.length <= sizeLine /\ k (.str (Txt.slice z lo hi))
  | _ => False
def rVl (K : PySem.W.Frag) : V -> Option Int -> Option Int -> Hp -> VK -> Prop := fun x lo hi H Q => ∃ p a P, Uni H p /\ Rep K (p 0) a x /\ wSl a lo hi P /\ ∀ t, P t -> ∀ v G' H', Same (p 0) G' -> Uni H' (pset p 0 G') -> Rep K G' t v -> Q v H'
theorem SlR.imp {r r' : V -> Option Int -> Option Int -> Hp -> VK -> Prop} (h : SlR X r) (k : ∀ x lo hi H Q, r' x lo hi H Q -> r x lo hi H Q) : SlR X r' := fun pins s σ H x v vl vu lo hi sl Q I rx hs pl pu q => h pins s σ H x v vl vu lo hi sl Q I rx hs pl pu (k _ _ _ _ _ q)
theorem o_sl (hK : X.K = K) : SlR X (rVl K) := by
  subst hK
  refine (sl_tup.or (sl_list.or sl_str)).imp fun x lo hi H Q ⟨p, a, P, u, r, w, k⟩ => ?_
  cases a with
  | tup l =>
    obtain ⟨c, ys, rfl, s1, q1⟩ := rep_tupS r
    exact .inl ⟨c, ys, rfl, (u.sub 0).seqT s1, by rw [q1.len]; exact w.1, fun a n => laid0 u w.2 k n fun s0 => rep_tup.mpr ⟨a, _, rfl, SqN.of upd_same, (q1.cut lo hi).up s0⟩⟩
  | lst l =>
    obtain ⟨c, ys, rfl, s1, q1⟩ := rep_lst.mp r
    exact .inr (.inl ⟨c, ys, rfl, SqL.of (u.sub 0 _ _ s1), fun a n => laid0 u w k n fun s0 => rep_lst.mpr ⟨a, _, rfl, upd_same, (q1.cut lo hi).up s0⟩⟩)
  | str z => rw [rep_str.mp r]; exact .inr (.inr ⟨z, rfl, w.1, keep0 u w.2 k (rep_str.mpr rfl)⟩)
  | _ => exact w.elim
def vInt {α : Type} (x : Tv) (k : Int -> Mv α) : Mv α := match x with | .int i => k i | _ => fun _ _ => False
def vSlSN (a lo : Mv Tv) : Mv Tv := vBind a fun x => vBind lo fun l => vInt l fun i ρ P => wSl x (some i) none fun t => P (.ok t) ρ
def vSlNS (a hi : Mv Tv) : Mv Tv := vBind a fun x => vBind hi fun h => vInt h fun j ρ P => wSl x none (some j) fun t => P (.ok t) ρ
theorem v_slSN {e lo : Expr} {m n : Mv Tv} {p2 pos : Pos} (hK : X.K = K) (he : PE X e (tV K E m)) (hl : PE X lo (tV K E n)) : PE X (.Subscript e (.Slice (some lo) none none p2) pos) (tV K E (vSlSN m n)) :=
  (pe_slice (o_sl hK) he (po_some hl) po_none).imp fun σ H Q ⟨p, ρ, er, h⟩ => ⟨p, ρ, er, h.bind.mono fun v H1 ⟨x, p1, ρ1, g1, er1, r1, h1⟩ => ⟨p1, ρ1, er1, h1.bind.mono fun u H2 ⟨y, p2, ρ2, g2, er2, r2, h2⟩ => by
    cases y with
    | int i =>
      obtain ⟨P, a, b⟩ := tail_W (W := wSl x (some i) none) er2 h2
      exact ⟨i, rep_int.mp r2, p2, x, P, er2.uni, r1.up g2.same, a, b⟩
    | _ => obtain ⟨_, z, _⟩ := h2; exact z.elim⟩⟩
theorem v_slNS {e hi : Expr} {m n : Mv Tv} {p2 pos : Pos} (hK : X.K = K) (he : PE X e (tV K E m)) (hl : PE X hi (tV K E n)) : PE X (.Subscript e (.Slice none (some hi) none p2) pos) (tV K E (vSlNS m n)) :=
  (pe_slice (o_sl hK) he po_none (po_some hl)).imp fun σ H Q ⟨p, ρ, er, h⟩ => ⟨p, ρ, er, h.bind.mono fun v H1 ⟨x, p1, ρ1, g1, er1, r1, h1⟩ => ⟨p1, ρ1, er1, h1.bind.mono fun u H2 ⟨y, p2, ρ2, g2, er2, r2, h2⟩ => by
    cases y with
    | int i =>
      obtain ⟨P, a, b⟩ := tail_W (W := wSl x none (some i)) er2 h2
      exact ⟨i, rep_int.mp r2, p2, x, P, er2.uni, r1.up g2.same, a, b⟩
    | _ => obtain ⟨_, z, _⟩ := h2; exact z.elim⟩⟩
end
section
variable {X : Cx} {K : PySem.W.Frag}
theorem kit_tab : ∀ k ∈ ["NoneType", "bool", "int", "str", "tuple", "list"], ∀ T ∈ ["int", "bool", "str", "tuple", "list"], PySem.W.kitOne K (.type k) (.type T) = some (isT k T) := by
  intro k hk T hT
  simp only [List.mem_cons, List.not_mem_nil, or_false] at hk hT
  rcases hk with rfl | rfl | rfl | rfl | rfl | rfl <;> rcases hT with rfl | rfl | rfl | rfl | rfl <;> rfl
theorem kind_mem {x : Tv} {n : String} (h : kindT x = some n) : n ∈ ["NoneType", "bool", "int", "str", "tuple", "list"] := by
  cases x <;> first | (cases h; decide) | cases h
theorem isi_ok {pins : List (Addr × Obj)} {σ : St} {H : Hp} {s : Shared} {p : Pts} {x : Tv} {n : String} {v : V} {u : Value} {c : Value} {b : Bool} {A : Around} {Q : Value -> Shared -> Prop} {E : Value -> Shared -> Prop} (I : Inv X pins σ H s) (un : Uni H p) (r : Rep X.K (p 0) x v) (rx : RelV v u) (hn : kindT x = some n) (e : PySem.W.kitOne X.K (.type n) c = some b) (h : ∀ tk, Q (.bool b) { s with toks := tk }) :
    wpAny (model X.prog X.w) A (call (.builtin "isinstance") [u, c]) Q E s := by
  cases x with
  | non => cases hn; rw [rep_non.mp r] at rx; exact isinst_ok I rx .non e h
  | bl b => cases hn; rw [rep_bl.mp r] at rx; exact isinst_ok I rx (.bl b) e h
  | int b => cases hn; rw [rep_int.mp r] at rx; exact isinst_ok I rx (.int b) e h
  | str b => cases hn; rw [rep_str.mp r] at rx; exact isinst_ok I rx (.str b) e h
  | tup l =>
    cases hn
    obtain ⟨a, xs, rfl, s1, q1⟩ := rep_tupS r
    cases (show u = Value.ref a from rx)
    obtain ⟨its, rv, ⟨o, h1, h2, _⟩, hz⟩ := I.tuple ((un.sub 0).seqT s1)
    exact PySem.W.kia_one PySem.W.kitx_tuple I.kIn ⟨o, h1, h2⟩ e (fun z => nomatch z) h
  | lst l =>
    cases hn
    obtain ⟨a, xs, rfl, s1, q1⟩ := rep_lst.mp r
    exact isinst_ok I rx (.lst (un.sub 0 _ _ s1)) e h
  | _ => cases hn
theorem f_isi (hK : X.K = K) : CallR X (.builtin "isinstance") (rVs K wIsi) := by
  subst hK
  intro pins s σ H xs us Q I rv ⟨p, l, P, u, r, w, k⟩
  match l, w with
  | [x, .ty T], w =>
    obtain ⟨n, hn, w⟩ := optK_of w
    obtain ⟨a, b, rfl, r1, r2⟩ := two_of r
    obtain ⟨ua, ub, rfl, q1, q2⟩ := Vals.two rv
    rw [rep_ty.mp r2] at q2
    cases (show ub = Value.type T from q2)
    cases hT : (["int", "bool", "str", "tuple", "list"].contains T) with
    | false => rw [hT] at w; exact w.elim
    | true =>
      rw [hT] at w
      exact isi_ok I u r1 q1 hn (kit_tab n (kind_mem hn) T (List.contains_iff_mem.mp hT)) fun tk => ⟨.bl _, H, I.tok tk, rfl, keep0 u (show P (.bl (isT n T)) from w) k (rep_bl.mpr rfl)⟩
end
section
variable {X : Cx} {K : PySem.W.Frag} {E : St -> XK} {es : List Expr} {m : Mv Tv} {ms : List (Mv Tv)}
theorem va_BoolOp {a : BoolOp} {b : List Expr} {c : Pos} (ha : PE X (.BoolOp a b c) (tV K E m)) (hr : PA X es (tVa K E ms)) : PA X ((.BoolOp a b c) :: es) (tVa K E (m :: ms)) := va_cons ha hr rfl
theorem va_BinOp {a b : Expr} {o : Operator} {c : Pos} (ha : PE X (.BinOp a o b c) (tV K E m)) (hr : PA X es (tVa K E ms)) : PA X ((.BinOp a o b c) :: es) (tVa K E (m :: ms)) := va_cons ha hr rfl
theorem va_UnaryOp {o : UnaryOp} {a : Expr} {c : Pos} (ha : PE X (.UnaryOp o a c) (tV K E m)) (hr : PA X es (tVa K E ms)) : PA X ((.UnaryOp o a c) :: es) (tVa K E (m :: ms)) := va_cons ha hr rfl
theorem va_ListComp {a : Expr} {b : List Comprehension} {d : Scope} {c : Pos} (ha : PE X (.ListComp a b d c) (tV K E m)) (hr : PA X es (tVa K E ms)) : PA X ((.ListComp a b d c) :: es) (tVa K E (m :: ms)) := va_cons ha hr rfl
theorem va_Compare {a : Expr} {o : List CmpOp} {b : List Expr} {c : Pos} (ha : PE X (.Compare a o b c) (tV K E m)) (hr : PA X es (tVa K E ms)) : PA X ((.Compare a o b c) :: es) (tVa K E (m :: ms)) := va_cons ha hr rfl
theorem va_Call {a : Expr} {b : List Expr} {d : List Keyword} {c : Pos} (ha : PE X (.Call a b d c) (tV K E m)) (hr : PA X es (tVa K E ms)) : PA X ((.Call a b d c) :: es) (tVa K E (m :: ms)) := va_cons ha hr rfl
theorem va_Constant {a : Const} {b : Nat} {c : Pos} (ha : PE X (.Constant a b c) (tV K E m)) (hr : PA X es (tVa K E ms)) : PA X ((.Constant a b c) :: es) (tVa K E (m :: ms)) := va_cons ha hr rfl
theorem va_Attribute {a : Expr} {b : Str} {c : Pos} (ha : PE X (.Attribute a b c) (tV K E m)) (hr : PA X es (tVa K E ms)) : PA X ((.Attribute a b c) :: es) (tVa K E (m :: ms)) := va_cons ha hr rfl
theorem va_Subscript {a b : Expr} {c : Pos} (ha : PE X (.Subscript a b c) (tV K E m)) (hr : PA X es (tVa K E ms)) : PA X ((.Subscript a b c) :: es) (tVa K E (m :: ms)) := va_cons ha hr rfl
theorem va_Name {a : Str} {c : Pos} (ha : PE X (.Name a c) (tV K E m)) (hr : PA X es (tVa K E ms)) : PA X ((.Name a c) :: es) (tVa K E (m :: ms)) := va_cons ha hr rfl
theorem va_Tuple {b : List Expr} {a : Nat} {c : Pos} (ha : PE X (.Tuple b a c) (tV K E m)) (hr : PA X es (tVa K E ms)) : PA X ((.Tuple b a c) :: es) (tVa K E (m :: ms)) := va_cons ha hr rfl
end
end L2
set_option Elab.async false
set_option linter.all false
set_option maxRecDepth 100000
set_option maxHeartbeats 4000000
namespace L2
open PySem PySem.Spec PyProof.Rows
inductive Comp (Ry : Tv -> Tv -> Prop) (Rn : Tv -> Prop) : List Tv -> List Tv -> Prop where
  | nil : Comp Ry Rn [] []
  | yes {x y : Tv} {xs ys : List Tv} : Ry x y -> Comp Ry Rn xs ys -> Comp Ry Rn (x :: xs) (y :: ys)
  | no {x : Tv} {xs ys : List Tv} : Rn x -> Comp Ry Rn xs ys -> Comp Ry Rn (x :: xs) ys
def CStep (g : Gv) (c : Mv Bool) (e : Mv Tv) (ρ0 : En) (x : Tv) (Ky : Tv -> Prop) (Kn : Prop) : Prop := ∃ ρ, g x ρ0 = some ρ /\ c ρ fun b ρ1 => ρ1 = ρ /\ match b with
    | .ok true => e ρ fun r ρ2 => ρ2 = ρ /\ match r with | .ok y => Ky y | .er _ => False
    | .ok false => Kn
    | .er _ => False
theorem compW_by {g : Gv} {c : Mv Bool} {e : Mv Tv} {ρ0 : En} (Ry : Tv -> Tv -> Prop) (Rn : Tv -> Prop) : ∀ {xs acc : List Tv} {P : List Tv -> Prop},
    (∀ x ∈ xs, ∀ (Ky : Tv -> Prop) (Kn : Prop), (∀ y, Ry x y -> Ky y) -> (Rn x -> Kn) -> CStep g c e ρ0 x Ky Kn) -> (∀ ys, Comp Ry Rn xs ys -> P (acc ++ ys)) -> compW g c e ρ0 xs acc P
  | [], acc, P, _, h => by have := h [] .nil; rw [List.append_nil] at this; exact this
  | x :: xs, acc, P, hs, h => by
    refine hs x List.mem_cons_self (fun y => compW g c e ρ0 xs (acc ++ [y]) P) (compW g c e ρ0 xs acc P) (fun y r => ?_) (fun r => ?_)
    · refine compW_by Ry Rn (fun z hz => hs z (List.mem_cons_of_mem _ hz)) fun ys q => ?_
      rw [List.append_assoc]
      exact h (y :: ys) (.yes r q)
    · exact compW_by Ry Rn (fun z hz => hs z (List.mem_cons_of_mem _ hz)) fun ys q => h ys (.no r q)
theorem compW_any {g : Gv} {c : Mv Bool} {e : Mv Tv} {ρ0 : En} {α : Type} (en : α -> Tv) (G : Tv -> α -> Prop) {xs : List Tv} {P : List Tv -> Prop}
    (hs : ∀ x ∈ xs, ∀ (Ky : Tv -> Prop) (Kn : Prop), (∀ a, G x a -> Ky (en a)) -> CStep g c e ρ0 x Ky Kn) (h : ∀ as : List α, Paired G xs as -> P (as.map en)) : compW g c e ρ0 xs [] P :=
  compW_by (fun x y => ∃ a, G x a /\ y = en a) (fun _ => False) (fun x hx Ky Kn k _ => hs x hx Ky Kn fun a q => k _ ⟨a, q, rfl⟩) fun ys q => by
    have e : ∃ as : List α, Paired G xs as /\ ys = as.map en := by
      clear h hs
      induction q with
      | nil => exact ⟨[], .nil, rfl⟩
      | yes r _ ih =>
        obtain ⟨a, ga, rfl⟩ := r
        obtain ⟨as, p, rfl⟩ := ih
        exact ⟨a :: as, .cons ga p, rfl⟩
      | no r _ _ => exact r.elim
    obtain ⟨as, p, rfl⟩ := e
    exact h as p
def FStep (g : Gv) (b : Sv) (x : Tv) (ρ : En) (K : En -> Prop) (P : Fl -> En -> Prop) : Prop := ∃ ρ', g x ρ = some ρ' /\ b ρ' (turnK K P)
theorem forW_go {g : Gv} {b : Sv} {P : Fl -> En -> Prop} (I : Nat -> En -> Prop) : ∀ {xs : List Tv} {ρ : En} (n : Nat), I n ρ ->
    (∀ i x ρ, xs[i]? = some x -> I (n + i) ρ -> ∀ K : En -> Prop, (∀ ρ', I (n + i + 1) ρ' -> K ρ') -> FStep g b x ρ K P) -> (∀ ρ, I (n + xs.length) ρ -> P .nx ρ) -> forW g b xs ρ P
  | [], ρ, n, h, _, fin => fin ρ h
  | x :: xs, ρ, n, h, hs, fin => by
    refine hs 0 x ρ rfl h (fun ρ' => forW g b xs ρ' P) fun ρ' h' => ?_
    refine forW_go I (n + 1) h' (fun i y ρ e hi K k => ?_) fun ρ hf => fin ρ ?_
    · have q := hs (i + 1) y ρ (by simpa using e) (by rw [show n + (i + 1) = n + 1 + i by omega]; exact hi) K (by rw [show n + (i + 1) + 1 = n + 1 + i + 1 by omega]; exact k)
      exact q
    · rw [List.length_cons, show n + (xs.length + 1) = n + 1 + xs.length by omega]; exact hf
theorem forW_by {g : Gv} {b : Sv} {P : Fl -> En -> Prop} (I : Nat -> En -> Prop) {xs : List Tv} {ρ : En} (h : I 0 ρ)
    (hs : ∀ i x ρ, xs[i]? = some x -> I i ρ -> ∀ K : En -> Prop, (∀ ρ', I (i + 1) ρ' -> K ρ') -> FStep g b x ρ K P) (fin : ∀ ρ, I xs.length ρ -> P .nx ρ) : forW g b xs ρ P :=
  forW_go I 0 h (fun i x ρ e hi K k => hs i x ρ e (by rw [Nat.zero_add] at hi; exact hi) K (by rw [Nat.zero_add] at k; exact k)) fun ρ hf => fin ρ (by rw [Nat.zero_add] at hf; exact hf)
theorem compW_enc0 {α : Type} {g : Gv} {c : Mv Bool} {e : Mv Tv} {ρ0 : En} (p : α -> Bool) (en f : α -> Tv) : ∀ {as : List α} {acc : List Tv} {P : List Tv -> Prop},
    (∀ a ∈ as, ∀ (Ky : Tv -> Prop) (Kn : Prop), (p a = true -> Ky (f a)) -> (p a = false -> Kn) -> CStep g c e ρ0 (en a) Ky Kn) -> P (acc ++ (as.filter p).map f) -> compW g c e ρ0 (as.map en) acc P
  | [], acc, P, _, h => by rw [List.filter_nil, List.map_nil, List.append_nil] at h; exact h
  | a :: as, acc, P, hs, h => by
    refine hs a List.mem_cons_self (fun y => compW g c e ρ0 (as.map en) (acc ++ [y]) P) (compW g c e ρ0 (as.map en) acc P) (fun q => ?_) (fun q => ?_)
    · refine compW_enc0 p en f (fun z hz => hs z (List.mem_cons_of_mem _ hz)) ?_
      rw [List.filter_cons, if_pos q] at h
      rw [List.append_assoc]; exact h
    · refine compW_enc0 p en f (fun z hz => hs z (List.mem_cons_of_mem _ hz)) ?_
      rw [List.filter_cons, if_neg (by rw [q]; decide)] at h
      exact h
theorem compW_enc {α : Type} {g : Gv} {c : Mv Bool} {e : Mv Tv} {ρ0 : En} {as : List α} {P : List Tv -> Prop} (en f : α -> Tv) (hs : ∀ a ∈ as, ∀ (Ky : Tv -> Prop) (Kn : Prop), Ky (f a) -> CStep g c e ρ0 (en a) Ky Kn) (h : P (as.map f)) : compW g c e ρ0 (as.map en) [] P :=
  compW_enc0 (fun _ => true) en f (fun a ha Ky Kn k _ => hs a ha Ky Kn (k rfl)) (by rw [List.filter_eq_self.mpr (fun _ _ => rfl)]; exact h)
theorem ite_go {x : Bool} {α β : Type} {a b : α -> β -> Prop} {ρ : α} {P : β} (h1 : x = true -> a ρ P) (h0 : x = false -> b ρ P) : (if x = true then a else b) ρ P := by
  cases x with
  | true => exact h1 rfl
  | false => exact h0 rfl
theorem ite_go1 {x : Bool} {α : Type} {a b : α -> Prop} {ρ : α} (h1 : x = true -> a ρ) (h0 : x = false -> b ρ) : (if x = true then a else b) ρ := by
  cases x with
  | true => exact h1 rfl
  | false => exact h0 rfl
theorem atI_in {α : Type} {l : List α} {i : Int} (h0 : 0 <= i) (h1 : i < l.length) : ∃ t, atI l i = some t /\ l[i.toNat]? = some t := by
  obtain ⟨n, rfl⟩ := Int.eq_ofNat_of_zero_le h0
  have hn : n < l.length := by omega
  exact ⟨l[n], atI_nat (List.getElem?_eq_getElem hn), by simpa using List.getElem?_eq_getElem hn⟩
theorem ix_mem {l : List Tv} {i : Int} {k : Tv -> Prop} (h0 : 0 <= i) (h1 : i < l.length) (h : ∀ t ∈ l, k t) : optK (atI l i) k := by
  obtain ⟨t, e, m⟩ := atI_in h0 h1
  exact optK_mk e (h t (List.mem_of_getElem? m))
theorem rng_mem {n : Nat} {t : Tv} (h : t ∈ rngL 0 n) : ∃ k : Nat, k < n /\ t = .int k := by
  unfold rngL at h
  obtain ⟨k, hk, rfl⟩ := List.mem_map.mp h
  exact ⟨k, by simpa using hk, by simp⟩
theorem rng_get {n i : Nat} {t : Tv} (h : (rngL 0 n)[i]? = some t) : i < n /\ t = .int i := by
  unfold rngL at h
  rw [List.getElem?_map] at h
  obtain ⟨k, hk, rfl⟩ := Option.map_eq_some_iff.mp h
  obtain ⟨hi, rfl⟩ := List.getElem?_eq_some_iff.mp hk
  rw [List.length_range] at hi
  exact ⟨hi, by simp⟩
theorem rng_len {lo : Int} {n : Nat} : (rngL lo n).length = n := by unfold rngL; simp
theorem few_line {n : Nat} (h : n <= 100000) : n < sizeLine := Nat.lt_of_le_of_lt h (by decide)
end L2
set_option Elab.async false
set_option linter.all false
set_option maxRecDepth 100000
set_option maxHeartbeats 4000000
namespace L2
open PySem PySem.Spec PyProof.Rows
abbrev Dt := List (Key × Tv)
def valT (d : Dt) (k : Key) : Option Tv := (d.find? fun kv => decide (kv.1 = k)).map (·.2)
def keyT : Tv -> Option Key
  | .int i => some (.inl i)
  | .str x => some (.inr x)
  | _ => none
section
variable {X : Cx} {K : PySem.W.Frag} {E : St -> XK} {G : Hp} {d : Dt} {ds : List (Key × V)} {k : Key} {t : Tv} {v : V}
theorem keyT_of (h : keyT t = some k) (r : Rep K G t v) : v = kV k := by
  cases t with
  | int i => cases h; exact rep_int.mp r
  | str i => cases h; exact rep_str.mp r
  | _ => cases h
theorem RepD.val (h : RepD K G d ds) (k : Key) : (∃ t v, valT d k = some t /\ valV ds k = some v /\ Rep K G t v) ∨ (valT d k = none /\ valV ds k = none) := by
  unfold RepD at h
  unfold valT valV
  induction h with
  | nil => exact .inr ⟨rfl, rfl⟩
  | @cons a b l1 l2 f _ ih =>
    rw [List.find?_cons, List.find?_cons, ← f.1]
    cases e : decide (a.1 = k) with
    | true => exact .inl ⟨_, _, rfl, rfl, f.2⟩
    | false => exact ih
def wDIx : Tv -> Tv -> (Tv -> Prop) -> Prop
  | .dic ks l, x, k => match keyT x with | some c => optK (valT (ks.zip l) c) k | none => False
  | _, _, _ => False
theorem v_dix {a b : Expr} {ma mb : Mv Tv} {pos : Pos} (hu : X.A.units + 1 < cLine) (ha : PE X a (tV K E ma)) (hb : PE X b (tV K E mb)) (hs : NoSl b) : PE X (.Subscript a b pos) (tV K E (vOp wDIx ma mb)) :=
  (pe_dget hu ha hb hs).imp fun σ H Q ⟨p, ρ, er, h⟩ => ⟨p, ρ, er, h.bind.mono fun v H1 ⟨x, p1, ρ1, g1, er1, r1, h1⟩ => ⟨p1, ρ1, er1, h1.bind.mono fun u H2 ⟨y, p2, ρ2, g2, er2, r2, P, a, b, _⟩ => by
    cases x with
    | dic ks l =>
      obtain ⟨Da, xs, rfl, e, n, r⟩ := rep_dic.mp (r1.up g2.same)
      have a : match keyT y with | some c => optK (valT (ks.zip l) c) fun t => P (.ok t) ρ2 | none => False := a
      cases hk : keyT y with
      | none => rw [hk] at a; exact a.elim
      | some c =>
        rw [hk] at a
        have kv := keyT_of hk r2
        subst kv
        rcases (RepD.of n r).val c with ⟨t, w, q1, q2, q3⟩ | ⟨q1, q2⟩
        · dsimp only at a
          rw [q1] at a
          exact ⟨Da, w, rfl, q2 ▸ DGet.k (er2.uni.sub 0 _ _ e), b t ρ2 a w p2 H2 .refl er2 q3⟩
        · dsimp only at a
          rw [q1] at a
          exact a.elim
    | _ => exact a.elim⟩⟩
theorem hu1 {n : Nat} (h : n + 64 < cLine) : n + 1 < cLine := by omega
end
end L2
set_option Elab.async false
set_option linter.all false
set_option maxRecDepth 100000
set_option maxHeartbeats 4000000
namespace L2
open PySem PySem.Spec PyProof.Rows
def IteTK (K : PySem.W.Frag) (a : Addr) : It :=
  ⟨fun i H => ∃ xs x, SqT K H a xs /\ xs[i]? = some x, fun i H v H' => ∃ p x, H p = none /\ v = .ref p /\ H' = upd H p (.tup [.int i, x]) /\ ∀ xs, SqT K H a xs -> xs[i]? = some x, fun i H => ∃ xs, SqT K H a xs /\ xs.length <= i⟩
def iEnumN (K : PySem.W.Frag) (ta : TA) : TI := fun σ H R => ta σ H fun vs H1 => ∃ a, vs = [.ref a] /\ (∃ xs, SqT K H1 a xs) /\ R (IteTK K a) H1
theorem turn_enumTK {P : Program} {w : World} {K : PySem.W.Frag} {elts : List Expr} {x1 : Nat} {pos : Pos} (a it e : Addr) (hne : e ≠ it) : Turn P w K (.Tuple elts x1 pos) (IteTK K a) [e, it] e (fun i h => (∃ old, IsEnum h e it i old) /\ h.IsTupleIter it a i) where
  mem := by simp
  obj := fun i h st b hb => by
    obtain ⟨⟨old, he⟩, hit⟩ := st
    have hb' : b = e ∨ b = it := by simpa using hb
    rcases hb' with rfl | rfl
    · exact ⟨_, he, fun v z => nomatch z⟩
    · obtain ⟨o, e, c, d⟩ := hit
      exact ⟨o, e, fun v z => by rw [d] at z; cases z⟩
  keep := fun i h h' st k => by
    obtain ⟨⟨old, he⟩, o, ho, r⟩ := st
    exact ⟨⟨old, k e (by simp) _ he⟩, o, k it (by simp) o ho, r⟩
  item := by
    intro X hP hw hK hc i pins s σ H E I hf st hg
    subst hP hw hK
    obtain ⟨⟨old, he⟩, hit⟩ := st
    obtain ⟨xs, x, hq, hx⟩ := hg
    obtain ⟨its, rv, p, hz⟩ := I.tuple hq
    obtain ⟨u, hu, ru⟩ := rv.get hx
    have fe := hf e (by simp)
    have fi := hf it (by simp)
    have nt : ∀ b u, H b = some u -> b ≠ e /\ b ≠ it := fun b u q => ⟨(fun z => by rw [z, fe.1] at q; cases q), (fun z => by rw [z, fi.1] at q; cases q)⟩
    have na : a ≠ e /\ a ≠ it := by
      obtain ⟨o, ho, hcl, _⟩ := p
      refine ⟨fun z => ?_, fun z => ?_⟩
      · rw [z] at ho
        have he' : s.heap.get? e = some _ := he
        rw [he'] at ho
        cases ho
        simp at hcl
      · obtain ⟨o2, ho2, hc2, _⟩ := hit
        rw [z, ho2] at ho
        cases ho
        rw [hc2] at hcl
        simp at hcl
    have hui : its.toArray[i]? = some u := by simpa using hu
    have hlt : i < its.toArray.size := (Array.getElem?_eq_some_iff.mp hui).1
    refine wpAny_pyNext_enum_itemD (Dt.draws (A := X.A.in1) (I.ok.hd hc) it a na.2 its.toArray) he ⟨hit, show s.heap.IsTuple a its.toArray from p⟩ hlt hne (by simp [hne, Ne.symm na.1]) fun u' h' tk hu' ho' hst' ht' hsz' hk' => ?_
    have hit' := hst'.1
    have eu : u' = u := by rw [hui] at hu'; exact (Option.some.inj hu').symm
    subst eu
    refine ⟨_, rfl, wpAny_letOwnedTupleGo_enum (s := { s with heap := h', toks := tk + 1 }) ho' fun h2 he2 sb2 => ?_⟩
    have hel : e < s.heap.objs.size := Heap.lt_size he
    have nn : H s.heap.objs.size = none := I.hok.fresh (Nat.le_refl _)
    have keep : ∀ b o, b ≠ e -> b ≠ it -> s.heap.get? b = some o -> h2.get? b = some o := fun b o n1 n2 q => (sb2.2 b n1).trans (hk' b o n1 n2 q)
    have mem2 : ∀ b, b ∉ [e, it] -> b ≠ e /\ b ≠ it := fun b hb => by simpa using hb
    have I1 : Inv X pins σ H { s with heap := h2, toks := tk + 1 } := by
      refine I.step (g' := s.gens) (d' := s.drawn) (ch := [e, it]) (fun b hb => ?_) (fun b o _ _ hc q _ => keep b o (mem2 b hc).1 (mem2 b hc).2 q) (fun b o _ _ hc q _ => ⟨o.slots, keep b o (mem2 b hc).1 (mem2 b hc).2 q⟩) (fun _ _ _ _ n => n)
        (fun b o hc q => ⟨o, keep b o (mem2 b hc).1 (mem2 b hc).2 q⟩) (fun _ _ q => q) (fun _ _ _ q => q) (fun b ps q => ⟨#[], by rw [q]; simp⟩) (fun m hm => ?_) (fun b u q => ?_) I.bare
      · have hb' : b = e ∨ b = it := by simpa using hb
        rcases hb' with rfl | rfl
        · exact ⟨fe.2.2.2.1, fe.2.1, fe.2.2.2.2.1, fe.2.2.2.2.2⟩
        · exact ⟨fi.2.2.2.1, fi.2.1, fi.2.2.2.2.1, fi.2.2.2.2.2⟩
      · obtain ⟨o, es, ep, ho, r⟩ := hm
        exact ⟨o, es, ep, keep _ o (Ne.symm fe.2.1) (Ne.symm fi.2.1) ho, r⟩
      · refine (I.hok b u q).stay (fun c v hc q' => keep c v ?_ ?_ q') (fun _ q' => q') fun _ _ q' => q'
        · rcases hc with z | z
          · rw [z]; exact (nt b u q).1
          · exact (nt c _ z).1
        · rcases hc with z | z
          · rw [z]; exact (nt b u q).2
          · exact (nt c _ z).2
    have ht2 : h2.get? s.heap.objs.size = some { cls := .type "tuple", data := .seq #[.int i tk, u'] } := (sb2.2 _ (Nat.ne_of_gt hel)).trans ht'
    have I2 : Inv X pins σ (upd H s.heap.objs.size (.tup [.int i, x])) { s with heap := h2, toks := tk + 1 } :=
      I.later (Heap.get?_none_of_le (Nat.le_refl _)) I1 nn ⟨(by show 2 <= sizeLine; decide), [.int i tk, u'], .cons ⟨_, rfl⟩ (.cons ru .nil), _, ht2, ⟨rfl, rfl⟩, 0, rfl⟩
    refine ⟨.ref s.heap.objs.size, _, I2, rfl, ⟨s.heap.objs.size, x, nn, rfl, rfl, fun ys hy => by rw [I.sqK_inj (k := true) hy hq]; exact hx⟩, ⟨⟨_, he2⟩, hit'.extBut sb2.extBut (Ne.symm hne)⟩, fun b hb => ?_⟩
    have hlt : b < s.heap.objs.size := by
      have hb' : b = e ∨ b = it := by simpa using hb
      rcases hb' with rfl | rfl
      · exact hel
      · obtain ⟨o, e, _⟩ := hit; exact Heap.lt_size e
    rw [upd_ne (Nat.ne_of_lt hlt)]
    exact (hf b hb).1
  done := by
    intro X hP hw hK hc i pins s σ H E I hf st hg
    subst hP hw hK
    obtain ⟨⟨old, he⟩, hit⟩ := st
    obtain ⟨xs, hq, hx⟩ := hg
    obtain ⟨its, rv, p, hz⟩ := I.tuple hq
    obtain ⟨f0, f1, f2, f3, f4, f5⟩ := hf it (by simp)
    have fe := hf e (by simp)
    have hl := rv.length
    have hi2 : i = its.toArray.size ∨ its.toArray.size < i := by
      rw [List.size_toArray]; omega
    refine Dt.enum_end (I.ok.hd hc) he hit (show s.heap.IsTuple a its.toArray from p) (by rw [Array.getElem?_eq_none_iff, List.size_toArray]; omega) fun h' eb => ⟨rfl, I.turned (t' := s.toks) (fun b o hb e => eb b o hb e) f0 f1 f3 f4 f5⟩
  self := fun _ _ _ _ _ st h => let ⟨⟨_, he⟩, _⟩ := st; wpAny_pyIter_enum he h
theorem pi_enumTK {X : Cx} {K : PySem.W.Frag} (hK : X.K = K) {elts : List Expr} {x1 : Nat} {tpos : Pos} {a : Expr} {ta : TA} {p pos : Pos} (hg : Gl X "enumerate") (hm : X.mg "enumerate" = none) (ha : PA X [a] ta) (hs : starEach [a] X.env = [(false, eval a X.env)] := by rfl) :
    PI X (.Tuple elts x1 tpos) (.Call (.Name "enumerate" p) [a] [] pos) (iEnumN K ta) := by
  subst hK
  intro pins s σ H R I h
  refine Call_ (ld_blt I hg hm bt_enumerate (PyProof.Rows.callWith_type1 (thn (ha pos pins s σ H _ I h) fun us s1 ⟨vs, H1, I1, r1, q1⟩ => ?_) hs rfl))
  obtain ⟨l, e, ⟨xs, hq⟩, q⟩ := q1
  subst e
  obtain ⟨u, rfl, rx⟩ := r1.one
  cases (show u = Value.ref l from rx)
  obtain ⟨its, rv, pl, hz⟩ := I1.tuple hq
  refine Dt.call_enum (show s1.heap.IsTuple l its.toArray from pl) fun h' he hit hsz hk => ?_
  refine wpAny_pyIter_enum he ?_
  have I2 : Inv X pins σ H1 { s1 with heap := h' } := I1.kept (t' := s1.toks) hk
  refine ⟨s1.heap.objs.size + 1, [s1.heap.objs.size + 1, s1.heap.objs.size], _, _, H1, rfl, I2, turn_enumTK l _ _ (Nat.succ_ne_self _), ⟨⟨_, he⟩, hit⟩, fun b hb => ?_, q⟩
  have hb' : b = s1.heap.objs.size + 1 ∨ b = s1.heap.objs.size := by simpa using hb
  have ge : s1.heap.objs.size <= b := by
    rcases hb' with rfl | rfl
    · exact Nat.le_succ _
    · exact Nat.le_refl _
  have F := I1.fpOk ge (I1.hok.fresh ge)
  exact F
variable {X : Cx} {K : PySem.W.Frag} {E : St -> XK}
theorem jok_enumTK {a : Addr} {xs : List V} {p : Pts} {l : List Tv} (s : SqN K (p 0) a xs) (r : RepL K (p 0) l xs) : JOk K (IteTK K a) p (enumL l) := fun p' H' e u => by
  have s' : SqT K H' a xs := ((e.trans (u.sub 0)).seqN s).t
  refine ⟨fun i t ht => ?_, ⟨xs, s', by rw [r.len, enum_len]; exact Nat.le_refl _⟩⟩
  obtain ⟨t', ht', rfl⟩ := enum_get ht
  obtain ⟨v, hv, q⟩ := r.get ht'
  refine ⟨⟨xs, v, s', hv⟩, fun x H2 ⟨b, y, n, y1, y2, y3⟩ => ?_⟩
  have := y3 xs s'
  rw [hv] at this
  cases this
  rw [y1, y2]
  exact pair_laid u n (rep_int.mpr rfl) (q.up e)
theorem vi_enumT {elts : List Expr} {x1 : Nat} {tpos : Pos} {a : Expr} {m : Mv Tv} {p pos : Pos} (hK : X.K = K) (hg : Gl X "enumerate") (hm : X.mg "enumerate" = none) (ha : PA X [a] (tVa K E [m])) (hs : starEach [a] X.env = [(false, eval a X.env)] := by rfl) :
    PI X (.Tuple elts x1 tpos) (.Call (.Name "enumerate" p) [a] [] pos) (iV K E (vEnumT m)) := by
  refine (pi_enumTK hK hg hm ha.toS hs).imp fun σ H R ⟨p, ρ, er, h⟩ => ⟨p, ρ, er, (tA.toIs (H := H) h).mono fun vs H1 ⟨xs, p1, ρ1, g1, er1, r1, P, a, b, _⟩ => ?_⟩
  match xs, a with
  | [.tup l], a =>
    obtain ⟨v, r, rfl, a1, a2⟩ := repL_cons.mp r1
    obtain ⟨q, ys, rfl, s, r⟩ := rep_tup.mp a1
    rw [repL_nil.mp a2]
    exact ⟨q, rfl, ⟨ys, ((er1.uni.sub 0).seqN s).t⟩, b _ ρ1 a _ p1 H1 .refl er1 (jok_enumTK s r)⟩
end L2
set_option Elab.async false
set_option linter.all false
set_option maxRecDepth 100000
set_option maxHeartbeats 4000000
namespace L2
open PySem PySem.Spec PyProof.Rows
variable {X : Cx} {K : PySem.W.Frag} {E : St -> XK}
theorem tA.no {α β : Type} {R : Hp -> α -> β -> Prop} {p : Pts} {ρ : En} {σ : St} {Q : β -> Hp -> Prop} (h : tA K E R (fun _ _ => False) p ρ σ Q) : False := let ⟨_, a, _⟩ := h; a
def vFm (m : Mv Tv) : Mv Tv := vBind m fun x => match x with
  | .str z => fun ρ P => z.length <= sizeLine /\ P (.ok (.str z)) ρ
  | .int i => fun ρ P => i.natAbs.log2 < 1920 /\ P (.ok (.str (toString i))) ρ
  | _ => fun _ _ => False
def tFm (te : TE) : TE := fun σ H Q => te σ H fun x H1 => (∃ i : Int, x = .int i /\ i.natAbs.log2 < 1920 /\ Q (.str (toString i)) H1) ∨ ∃ z : Str, x = .str z /\ z.length <= sizeLine /\ Q (.str z) H1
theorem pe_fm {e : Expr} {te : TE} {pos : Pos} (he : PE X e te) : PE X (.FormattedValue e (-1) none pos) (tFm te) := by
  intro pins s σ H Q I h
  refine FormattedValue_plain (thn (he pins s σ H _ I h) fun u s1 ⟨x, H1, I1, r1, q⟩ => ?_)
  rcases q with ⟨i, rfl, hl, q⟩ | ⟨z, rfl, hl, q⟩
  · obtain ⟨t, rfl⟩ := r1
    exact formatField_int_small hl ⟨.str (toString i), H1, I1.tok _, ⟨_, rfl⟩, q⟩
  · obtain ⟨t, rfl⟩ := r1
    exact formatField_str (fun t' tk => ⟨.str z, H1, I1.tok _, ⟨_, rfl⟩, q⟩) hl
theorem v_fm {e : Expr} {m : Mv Tv} {pos : Pos} (he : PE X e (tV K E m)) : PE X (.FormattedValue e (-1) none pos) (tV K E (vFm m)) :=
  (pe_fm he).imp fun σ H Q ⟨p, ρ, er, h⟩ => ⟨p, ρ, er, h.bind.mono fun v H1 ⟨x, p1, ρ1, g1, er1, r1, h1⟩ => by
    cases x with
    | str z =>
      obtain ⟨P, a, b, _⟩ := h1
      exact .inr ⟨z, rep_str.mp r1, a.1, b _ ρ1 a.2 _ p1 H1 .refl er1 (rep_str.mpr rfl)⟩
    | int i =>
      obtain ⟨P, a, b, _⟩ := h1
      exact .inl ⟨i, rep_int.mp r1, a.1, b _ ρ1 a.2 _ p1 H1 .refl er1 (rep_str.mpr rfl)⟩
    | _ => exact h1.no.elim⟩
def vJ1 (m : Mv Tv) : Mv Tv := m
theorem v_join1 {v : Expr} {m : Mv Tv} {pos : Pos} (h : PE X v (tV K E m)) : PE X (.JoinedStr [v] pos) (tV K E (vJ1 m)) := pe_join1 h
def vJGo : List (Mv Tv) -> Str -> Mv Tv
  | [], out => fun ρ P => P (.ok (.str out)) ρ
  | m :: ms, out => vBind m fun x => match x with
    | .str y => fun ρ P => (out ++ y).length <= sizeLine /\ vJGo ms (out ++ y) ρ P
    | _ => fun _ _ => False
def vJoin (ms : List (Mv Tv)) : Mv Tv := vJGo ms Str.empty
def tJ (K : PySem.W.Frag) (E : St -> XK) (ms : List (Mv Tv)) : TJ := fun σ H out Q => tG K E (Rep K) (vJGo ms out) σ H Q
theorem vj_nil : PJ X [] (tJ K E []) := fun pins s σ H out Q I hz ⟨p, ρ, er, P, a, b, _⟩ => pj_nil pins s σ H out Q I hz (b _ ρ a _ p H .refl er (rep_str.mpr rfl))
theorem vj_cons {e : Expr} {es : List Expr} {m : Mv Tv} {ms : List (Mv Tv)} (he : PE X e (tV K E m)) (ht : PJ X es (tJ K E ms)) : PJ X (e :: es) (tJ K E (m :: ms)) := fun pins s σ H out Q I hz ⟨p, ρ, er, h⟩ =>
  pj_cons he ht pins s σ H out Q I hz ⟨p, ρ, er, (tA.bind (show tA K E (Rep K) (vBind m fun x => match x with
    | .str y => fun ρ P => (out ++ y).length <= sizeLine /\ vJGo ms (out ++ y) ρ P
    | _ => fun _ _ => False) p ρ σ Q from h)).mono fun v H1 ⟨x, p1, ρ1, g1, er1, r1, h1⟩ => by
    cases x with
    | str y =>
      obtain ⟨P, a, b, c⟩ := h1
      exact ⟨y, rep_str.mp r1, a.1, p1, ρ1, er1, P, a.2, b, c⟩
    | _ => exact h1.no.elim⟩
theorem v_join {v₁ v₂ : Expr} {es : List Expr} {ms : List (Mv Tv)} {pos : Pos} (h : PJ X (v₁ :: v₂ :: es) (tJ K E ms)) : PE X (.JoinedStr (v₁ :: v₂ :: es) pos) (tV K E (vJoin ms)) := pe_join h
def vMtS (W : Str -> List Tv -> (Tv -> Prop) -> Prop) (o : Mv Tv) (ms : List (Mv Tv)) : Mv Tv := vBind o fun x => match x with
  | .str z => vBind (vArgs ms) fun xs ρ P => W z xs fun t => P (.ok t) ρ
  | _ => fun _ _ => False
def rVm (K : PySem.W.Frag) (W : Str -> List Tv -> (Tv -> Prop) -> Prop) : V -> List V -> Hp -> VK -> Prop := fun x xs H Q => ∃ z p l P, x = .str z /\ Uni H p /\ RepL K (p 0) l xs /\ W z l P /\ ∀ t, P t -> ∀ v G' H', Same (p 0) G' -> Uni H' (pset p 0 G') -> Rep K G' t v -> Q v H'
theorem v_mtS {W : Str -> List Tv -> (Tv -> Prop) -> Prop} {o e : Expr} {es : List Expr} {mo : Mv Tv} {ms : List (Mv Tv)} {name : Str} {apos cpos : Pos} {id : String} (hK : X.K = K) (slot : Slot "str" name id) (hty : typeOf (.builtin id) = pure (.type "method_descriptor")) (hm : MtR X id (rVm K W)) (ho : PE X o (tV K E mo)) (ha : PA X (e :: es) (tVa K E ms))
    (hbase : attributeBase o name X.env (eval o X.env) = eval o X.env := by rfl)
    (hfew : ((backTo cpos (starEach (e :: es) X.env)).all (fun x => !x.1) && (backToKw cpos (keywordEach [] X.env)).all (fun x => x.1.isSome) && decide ((e :: es).length + ([] : List Keyword).length + (if ([] : List Keyword).isEmpty then 0 else 1) < 30)) = true := by rfl)
    (hline : (apos.endLine == cpos.line) = true := by rfl) (hs : starEach (e :: es) X.env = (false, eval e X.env) :: starEach es X.env := by rfl) (hplain : (backTo cpos (starEach es X.env)).any (·.1) = false := by rfl) :
    PE X (.Call (.Attribute o name apos) (e :: es) [] cpos) (tV K E (vMtS W mo ms)) := by
  subst hK
  refine (pe_bm PySem.F.plainAttrs_str slot hty hm ho ha.toS hbase hfew hline hs hplain).imp fun σ H Q ⟨p, ρ, er, h⟩ => ⟨p, ρ, er, h.bind.mono fun v H1 ⟨x, p1, ρ1, g1, er1, r1, h1⟩ => ?_⟩
  cases x with
  | str z =>
    cases rep_str.mp r1
    exact ⟨rfl, p1, ρ1, er1, h1.bind.mono fun vs H2 ⟨xs, p2, ρ2, g2, er2, r2, h2⟩ => let ⟨P, a, b⟩ := tail_W er2 h2; ⟨z, p2, xs, P, rfl, er2.uni, r2, a, b⟩⟩
  | _ => exact h1.no.elim
end L2
set_option Elab.async false
set_option linter.all false
set_option maxRecDepth 100000
set_option maxHeartbeats 4000000
namespace L2
open PySem PySem.Spec PyProof.Rows
variable {X : Cx} {K : PySem.W.Frag} {E : St -> XK}
def cutH (D : Addr) (H : Hp) : Hp := fun a => if a = D then none else H a
theorem cutH_at {D : Addr} {H : Hp} : cutH D H D = none := if_pos rfl
theorem cutH_ne {D a : Addr} {H : Hp} (h : a ≠ D) : cutH D H a = H a := if_neg h
theorem Uni.cut {H : Hp} {p : Pts} (u : Uni H p) {D : Addr} {o : HO} (h2 : p 2 = oneH D o) : Uni (cutH D H) (pset p 2 noH) /\ upd (cutH D H) D o = H := by
  have hD : p 2 D = some o := by rw [h2]; exact oneH_at
  refine ⟨⟨fun b x => ?_, fun i j b n => ?_⟩, ?_⟩
  · by_cases e : b = D
    · subst e
      rw [cutH_at]
      refine ⟨fun z => (nomatch z), fun ⟨i, hi⟩ => ?_⟩
      by_cases e2 : i = 2
      · subst e2; rw [pset_at] at hi; cases hi
      · rw [pset_ne e2] at hi
        rcases u.ap i 2 b e2 with q | q
        · rw [q] at hi; cases hi
        · rw [q] at hD; cases hD
    · rw [cutH_ne e, u.mem b x]
      refine ⟨fun ⟨i, hi⟩ => ⟨i, ?_⟩, fun ⟨i, hi⟩ => ⟨i, ?_⟩⟩
      · by_cases e2 : i = 2
        · subst e2; rw [h2, oneH_ne e] at hi; cases hi
        · rw [pset_ne e2]; exact hi
      · by_cases e2 : i = 2
        · subst e2; rw [pset_at] at hi; cases hi
        · rw [pset_ne e2] at hi; exact hi
  · by_cases e1 : i = 2
    · subst e1; left; rw [pset_at]; rfl
    · by_cases e2 : j = 2
      · subst e2; right; rw [pset_at]; rfl
      · rw [pset_ne e1, pset_ne e2]; exact u.ap i j b n
  · funext a
    by_cases e : a = D
    · subst e; rw [upd_same]; exact ((u.mem a o).mpr ⟨2, hD⟩).symm
    · rw [upd_ne e, cutH_ne e]
theorem got {σ : St} {H1 H' : Hp} {p1 p' : Pts} {ρ1 : En} {D : Addr} {o : HO} (er1 : ER K p1 H1 σ ρ1) (u : Uni H' p') (g : Grow (three (p1 0) (restH p1 H1) noH) p') (e2 : p' 2 = oneH D o) :
    ∃ B, ER K (pset p1 0 B) (cutH D H') σ ρ1 /\ Same (p1 0) B /\ Same (p' 0) B /\ upd (cutH D H') D o = H' := by
  obtain ⟨u0, eH⟩ := u.cut e2
  obtain ⟨u3, s3⟩ := er1.uni.back u0 (by rw [pset_ne (by decide)]; exact g.fr)
  rw [pset_ne (by decide)] at s3
  exact ⟨_, er1.grow (g.same.trans s3) u3, g.same.trans s3, s3, eH⟩
theorem ret_own {H : Hp} {p : Pts} {D : Addr} {zs : List V} {l : List Tv} (u : Uni H p) (n : H D = none) (r : RepL K (p 0) l zs) : ∃ p', Grow p p' /\ Uni (upd H D (.lst zs)) p' /\ (∀ j, 3 <= j -> p' j = noH) /\ SlotR K (p' 0) (p' 2) (some (.ref D)) (.ow D l) := by
  have u2 := (u.mv (j := 2) (by decide)).alloc n 2 (.lst zs)
  rw [mv_at] at u2
  obtain ⟨u3, s3⟩ := u2.gather 2 (by decide) (by decide)
  rw [pset_at, pset_ne (i := 2) (j := 1) (by decide), mv_ne (k := 1) (by decide) (by decide)] at u3
  rw [pset_at, pset_ne (i := 2) (j := 1) (by decide), mv_ne (k := 1) (by decide) (by decide), pset_ne (i := 2) (j := 0) (by decide)] at s3
  have s4 : Same (p 0) _ := (mv_grow (p := p) 0).same.trans s3
  exact ⟨three (butH (upd H D (.lst zs)) (p 1) (upd noH D (.lst zs))) (p 1) (upd noH D (.lst zs)), ⟨s4, rfl⟩, u3, three_ge, zs, rfl, rfl, r.up s4⟩
def vRetL (ms : List (Mv Tv)) : Sv := vDo (vArgs ms) fun xs ρ P => ∀ D, P (.rt (.ow D xs)) ρ
theorem vs_retL {es : List Expr} {ms : List (Mv Tv)} {lp pos : Pos} (he : PA X es (tVa K E ms)) (hz : ms.length <= 1000 := by decide) : PS X (.Return (some (.List es lp)) pos) (tS K E (vRetL ms)) :=
  (ps_ret (pe_lst he)).imp fun D σ H ⟨p, ρ, P, er, a, h⟩ => ⟨p, ρ, er, (do_tail (H := H) a h).mono fun vs H1 ⟨xs, p1, ρ1, g1, er1, r1, q, h1⟩ hlen => by
    refine ⟨by rw [hlen]; exact le_line hz, fun Da hD => ?_⟩
    obtain ⟨p2, g2, u2, h2, sl⟩ := ret_own (K := K) (D := Da) er1.uni hD r1
    exact h1.rt _ ρ1 (q Da) _ p2 _ g2 u2 h2 sl⟩
theorem repL_strs {G : Hp} : ∀ ys : List Str, RepL K G (ys.map Tv.str) (ys.map V.str)
  | [] => .nil
  | y :: ys => .cons (rep_str.mpr rfl) (repL_strs ys)
def wJn : Str -> List Tv -> (Tv -> Prop) -> Prop
  | z, [.lst l], k => ∃ ys : List Str, l = ys.map Tv.str /\ (ys.map (·.length)).sum + ys.length * z.length <= 16777216 /\ k (.str (Txt.join z ys))
  | _, _, _ => False
theorem repL_strs_eq {G : Hp} : ∀ {ys : List Str} {xs : List V}, RepL K G (ys.map Tv.str) xs -> xs = ys.map V.str
  | [], xs, h => by rw [repL_nil.mp h]; rfl
  | y :: ys, xs, h => by
    obtain ⟨v, r, rfl, a, b⟩ := repL_cons.mp h
    rw [rep_str.mp a, repL_strs_eq b]
    rfl
theorem mt_joinV : MtR X "str.join" (rVm X.K wJn) := by
  intro pins s σ H x xs v us Q I rx rs ⟨z, p, l, P, e, u, r, w, k⟩
  match l, w with
  | [.lst l], ⟨ys, el, hz, w⟩ =>
    subst el
    obtain ⟨v', rfl, rr⟩ := one_of r
    obtain ⟨c, zs, rfl, s1, q1⟩ := rep_lst.mp rr
    rw [repL_strs_eq q1] at s1
    exact mt_join pins s σ H x _ v us Q I rx rs ⟨z, c, ys, e, rfl, SqL.of (u.sub 0 _ _ s1), hz, keep0 u w k (rep_str.mpr rfl)⟩
end L2
set_option Elab.async false
set_option linter.all false
set_option maxRecDepth 100000
set_option maxHeartbeats 4000000
namespace Dt
open PySem PySem.Spec PyProof.Rows
section
variable {prog : Program} {w : World} {A : Around} {E : Value -> Shared -> Prop} {s : Shared}
end
section
variable {prog : Program} {w : World} {K : Type} [DecidableEq K] {knd : KeyKind prog w K} {A : Around} {E : Value -> Shared -> Prop} {s : Shared}
end
end Dt
namespace L2
open PySem PySem.Spec PyProof.Rows
variable {X : Cx} {K : PySem.W.Frag} {E : St -> XK}
end L2
set_option Elab.async false
set_option linter.all false
namespace L2
open PySem PySem.Spec PyProof.Rows
theorem FnOk.none {P : Program} {w : World} {K : PySem.W.Frag} {mg : Str -> Option Value} {base : Heap} {CX : CXT} {k : Nat} {f : Addr} {fd : FuncData} {ps : List Str} {C : Ct} (h : ∀ ts P, C ts P -> False) : FnOk P w K mg base CX k f fd ps (spV K C) :=
  ⟨fun vs H Q E ⟨p, ts, P, _, _, _, c, _⟩ => (h _ _ c).elim, fun A outer s H args us vs Q E _ _ _ _ ⟨p, ts, P, _, _, _, c, _⟩ => (h _ _ c).elim⟩
def T (l : List Nat) : Str := ⟨l.toArray⟩
theorem T_app (a b : List Nat) : T a ++ T b = T (a ++ b) := by
  show Str.mk (a.toArray ++ b.toArray) = Str.mk (a ++ b).toArray
  simp
theorem T_of (z : Str) : z = T z.cps.toList := by
  obtain ⟨l⟩ := z
  show Str.mk l = Str.mk l.toList.toArray
  simp
theorem str_app_assoc (a b c : Str) : a ++ b ++ c = a ++ (b ++ c) := by rw [T_of a, T_of b, T_of c, T_app, T_app, T_app, T_app, List.append_assoc]
theorem str_empty_app (a : Str) : Str.empty ++ a = a := by
  rw [T_of a]
  exact T_app [] a.cps.toList
end L2
set_option Elab.async false
set_option linter.all false
set_option maxRecDepth 100000
set_option maxHeartbeats 4000000
namespace L2
open PySem PySem.Spec PyProof.Rows
section
variable {X : Cx} {K : PySem.W.Frag} {E : St -> XK}
theorem Uni.out {H : Hp} {r : Pts} (u : Uni H r) {D : Addr} {o : HO} {k : Nat} (hk : k ≠ 0) (h0 : r 0 D = some o) (hn : r k = noH) : Uni H (pset (pset r 0 (cutH D (r 0))) k (oneH D o)) := by
  have oth : ∀ j, j ≠ 0 -> r j D = none := fun j hj => u.other h0 hj
  refine ⟨fun b o' => ⟨fun e => ?_, fun ⟨i, e⟩ => ?_⟩, fun i j b n => ?_⟩
  · obtain ⟨i, e1⟩ := (u.mem b o').mp e
    by_cases hb : b = D
    · subst hb
      have := (u.mem b o).mpr ⟨0, h0⟩
      rw [e] at this; cases this
      exact ⟨k, by rw [pset_at]; exact oneH_at⟩
    · have hi : i ≠ k := by rintro rfl; rw [hn] at e1; cases e1
      by_cases h : i = 0
      · subst h; exact ⟨0, by rw [pset_ne (Ne.symm hk), pset_at, cutH_ne hb]; exact e1⟩
      · exact ⟨i, by rw [pset_ne hi, pset_ne h]; exact e1⟩
  · by_cases hi : i = k
    · subst hi
      rw [pset_at] at e
      by_cases hb : b = D
      · subst hb; rw [oneH_at] at e; cases e; exact (u.mem _ _).mpr ⟨0, h0⟩
      · rw [oneH_ne hb] at e; cases e
    · rw [pset_ne hi] at e
      by_cases h : i = 0
      · subst h
        rw [pset_at] at e
        by_cases hb : b = D
        · subst hb; rw [cutH_at] at e; cases e
        · rw [cutH_ne hb] at e; exact (u.mem _ _).mpr ⟨0, e⟩
      · rw [pset_ne h] at e; exact (u.mem _ _).mpr ⟨i, e⟩
  · have at' : ∀ i, (pset (pset r 0 (cutH D (r 0))) k (oneH D o)) i b = if i = k then (if b = D then some o else none) else if b = D then none else r i b := fun i => by
      by_cases hi : i = k
      · subst hi
        rw [pset_at, if_pos rfl]
        by_cases hb : b = D
        · rw [hb, oneH_at, if_pos rfl]
        · rw [oneH_ne hb, if_neg hb]
      · rw [pset_ne hi, if_neg hi]
        by_cases h : i = 0
        · subst h
          rw [pset_at]
          by_cases hb : b = D
          · rw [hb, cutH_at, if_pos rfl]
          · rw [cutH_ne hb, if_neg hb]
        · rw [pset_ne h]
          by_cases hb : b = D
          · rw [if_pos hb, hb]; exact oth i h
          · rw [if_neg hb]
    rw [at', at']
    by_cases hb : b = D
    · rw [if_pos hb, if_pos hb, if_pos hb]
      by_cases hi : i = k
      · right; rw [if_neg (fun e => n (hi.trans e.symm))]
      · left; rw [if_neg hi]
    · rw [if_neg hb, if_neg hb, if_neg hb]
      by_cases hi : i = k
      · left; rw [if_pos hi]
      · by_cases hj : j = k
        · right; rw [if_pos hj]
        · rw [if_neg hi, if_neg hj]; exact u.ap i j b n
def seen (s : Sl) : Sl := match s with | .va t => .va t | _ => .un
def pkE (i : Nat) (ρ : En) : En := (frzAt i ρ).map seen
def vPk (i : Nat) (m : Mv Bool) : Mv Bool := fun ρ P => match ρ[i]? with
  | some (.ow _ _) => m (pkE i ρ) fun a ρ1 => ρ1 = pkE i ρ /\ (match a with | .ok b => P (.ok b) ρ | .er _ => False)
  | _ => False
theorem vt_pk (i : Nat) {e : Expr} {m : Mv Bool} (h : PT X e (tVt K E m)) : PT X e (tVt K E (vPk i m)) := h.imp fun σ H Q ⟨p, ρ, er, P, a, b, c⟩ => by
  unfold vPk at a
  split at a
  · rename_i D l e
    obtain ⟨xs, e1, e2, e3, r⟩ := er.own e
    have d0 : p 0 D = none := er.uni.other (i := i + 2) (by rw [e3]; exact oneH_at) (by omega)
    have z0 : mv p (i + 2) 0 D = some (.lst xs) := by
      rw [mv_zero (by omega)]
      show (match p 0 D with | some o => some o | none => p (i + 2) D) = _
      rw [d0, e3]; exact oneH_at
    obtain ⟨u1, sl⟩ := er.mvd i
    have s1 : Same (p 0) (mv p (i + 2) 0) := (mv_grow i).same
    have hfz : frzAt i ρ = ρ.set i (.va (.lst l)) := by unfold frzAt; rw [e]
    have hi : i < ρ.length := (List.getElem?_eq_some_iff.mp e).1
    have t2 : ∀ j, three (mv p (i + 2) 0) (restH (mv p (i + 2)) H) noH (j + 2) = noH := fun j => by cases j <;> rfl
    have er1 : ER K (three (mv p (i + 2) 0) (restH (mv p (i + 2)) H) noH) H σ (pkE i ρ) := by
      refine ⟨u1.two, ?_, fun j s q => ?_, fun j _ => t2 j⟩
      · unfold pkE; rw [List.length_map, hfz, List.length_set]; exact er.len
      · unfold pkE at q
        rw [List.getElem?_map, hfz] at q
        rw [t2]
        show SlotR K (mv p (i + 2) 0) noH _ _
        by_cases hj : j = i
        · subst hj
          rw [List.getElem?_set_self hi] at q
          cases q
          refine ⟨rfl, .ref D, by rw [e1]; rfl, rep_lst.mpr ⟨D, xs, rfl, z0, r.up s1⟩⟩
        · rw [List.getElem?_set_ne (Ne.symm hj)] at q
          cases hs : ρ[j]? with
          | none => rw [hs] at q; cases q
          | some s0 =>
            rw [hs] at q; cases q
            have := sl j s0 hj hs
            cases s0 with
            | un => rfl
            | va t => exact ⟨rfl, this.2⟩
            | ow _ _ => rfl
            | od _ _ => rfl
    refine ⟨_, _, er1, _, a, fun x ρ' ⟨hρ, w⟩ v p' H' g er' rv => ?_, fun c ρ' ⟨_, w⟩ => w.elim⟩
    obtain ⟨u2, s2⟩ := u1.back er'.uni g.fr
    have s3 : Same (mv p (i + 2) 0) (butH H' (p' 1) noH) := Same.trans g.same s2
    have u3 := u2.out (D := D) (o := .lst xs) (k := i + 2) (by omega) (by rw [pset_at]; exact s3 _ _ z0) (by rw [pset_ne (by omega)]; exact mv_at)
    have s4 : Same (p 0) (cutH D (butH H' (p' 1) noH)) := fun b' o' e' => by
      have hb : b' ≠ D := fun hb => by rw [hb, d0] at e'; cases e'
      rw [cutH_ne hb]; exact s3 _ _ (s1 _ _ e')
    rw [pset_at] at u3
    refine b x ρ w v _ H' ?_ ⟨u3, er.len, fun j s q => ?_, fun j hj => ?_⟩ rv
    · refine ⟨?_, ?_⟩
      · rw [pset_ne (by omega), pset_at]; exact s4
      · rw [pset_ne (by omega), pset_ne (by omega), pset_ne (by omega)]; exact (mv_grow i).fr
    · rw [pset_ne (i := i + 2) (j := 0) (by omega), pset_at]
      by_cases hj : j = i
      · subst hj
        rw [e] at q; cases q
        rw [pset_at]
        exact ⟨xs, by rw [e1]; rfl, rfl, r.up s4⟩
      · rw [pset_ne (by omega), pset_ne (by omega), pset_ne (by omega), mv_ne (by omega) (by omega)]
        exact (er.slot j s q).up s4
    · have hji : j ≠ i := by omega
      rw [pset_ne (by omega), pset_ne (by omega), pset_ne (by omega), mv_ne (by omega) (by omega)]
      exact er.out j hj
  · exact a.elim
def wMulG : Tv -> Tv -> (Tv -> Prop) -> Prop
  | .int i, .int j, k => (∃ z : Nat, z <= 1048580 /\ i.natAbs < 2 ^ z /\ j.natAbs < 2 ^ z) /\ k (.int (i * j))
  | _, _, _ => False
theorem o_mulG : OpR X (binaryOp .Mult) (rV K wMulG) := op_mulF.imp fun x y H Q ⟨p, a, b, P, u, ra, rb, w, k⟩ => by
  match a, b, w with
  | .int i, .int j, w => exact ⟨i, j, rep_int.mp ra, rep_int.mp rb, w.1, keep0 u w.2 k (rep_int.mpr rfl)⟩
end
end L2
set_option Elab.async false
set_option linter.all false
set_option maxRecDepth 100000
set_option maxHeartbeats 4000000
namespace L2
open PySem PySem.Spec PyProof.Rows
section
variable {X : Cx} {K : PySem.W.Frag} {E : St -> XK}
def MethIn (X : Cx) (E : St -> XK) (m : Str) (C : Addr) (sp : Sp) : Prop := Cls X.K C /\ ∃ (CX : CXT) (f : Addr) (fd : FuncData) (ps : List Str) (k : Nat), Meth X.K C m f /\ FnOk X.prog X.w X.K X.mg X.base CX k f fd ps sp /\ Room k X.A /\ Binds X.K fd ps [] /\ PassesS CX X E
def tMethD (S : Addr -> Sp -> Prop) (m : Str) (E : St -> XK) (ta : TE) (t : TA) : TE := fun σ H Q => ta σ H fun x H1 => ∃ a C dx fs sp, x = .ref a /\ H1 a = some (.ins C dx fs) /\ S C sp /\ fs.lookup m = none /\
  t σ H1 fun vs H2 => sp (x :: vs) H2 Q (E σ)
theorem pe_methD {S : Addr -> Sp -> Prop} {m : Str} {o e : Expr} {es : List Expr} {ta : TE} {t : TA} {apos pos : Pos} {pl : Sem Bool} (hS : ∀ C sp, S C sp -> MethIn X E m C sp) (he : PE X o ta) (ha : PA X (e :: es) t)
    (hst : starEach (e :: es) X.env = (false, eval e X.env) :: starEach es X.env := by rfl) (hpl : (backTo pos (starEach es X.env)).any (·.1) = false := by rfl)
    (ht : eval (.Call (.Attribute o m apos) (e :: es) [] pos) X.env = (do
      let ov ← eval o X.env
      standAt apos.atName
      let r ← holding [ov] (getMethod ov m pl)
      callWith pos r.1 r.2 (backTo pos (starEach (e :: es) X.env)) (backToKw pos (keywordEach [] X.env))) := by rfl) :
    PE X (.Call (.Attribute o m apos) (e :: es) [] pos) (tMethD S m E ta t) := by
  intro pins s σ H Q I h
  refine PySem.W.methodCall_KW (pl := pl) (thn (he pins s σ H _ I h) fun u s1 ⟨x, H1, I1, rx, a, C, dx, fs, sp, ex, ea, hs, l, q⟩ => ?_) ht
  obtain ⟨c, CX, f, fd, ps, k, hm, F, hr, hb, hx⟩ := hS C sp hs
  subst ex
  obtain rfl : u = Value.ref a := rx
  refine getmeth_ok I1 ea c hm l ?_
  refine PySem.W.callWith_K (first := [.ref a]) (h₀ := X.base) I.ok.mod.kin hm.kp (thn (ha pos pins s1 σ H1 _ I1 q) fun us s2 ⟨vs, H2, I2, r, q2⟩ => ⟨I2.kIn, ?_⟩) hst hpl
  exact run_fnS (us := .ref a :: us) (vs := .ref a :: vs) (dvs := []) F hr hb .nil hx I2 (.cons rfl r) (by rw [List.append_nil]; exact q2)
theorem pe_methD0 {S : Addr -> Sp -> Prop} {m : Str} {o : Expr} {ta : TE} {apos pos : Pos} {pl : Sem Bool} (hS : ∀ C sp, S C sp -> MethIn X E m C sp) (he : PE X o ta)
    (ht : eval (.Call (.Attribute o m apos) [] [] pos) X.env = (do
      let ov ← eval o X.env
      standAt apos.atName
      let r ← holding [ov] (getMethod ov m pl)
      callWith pos r.1 r.2 (backTo pos (starEach [] X.env)) (backToKw pos (keywordEach [] X.env))) := by rfl) :
    PE X (.Call (.Attribute o m apos) [] [] pos) (tMethD S m E ta tNil) := by
  intro pins s σ H Q I h
  refine PySem.W.methodCall_KW (pl := pl) (thn (he pins s σ H _ I h) fun u s1 ⟨x, H1, I1, rx, a, C, dx, fs, sp, ex, ea, hs, l, q⟩ => ?_) ht
  obtain ⟨c, CX, f, fd, ps, k, hm, F, hr, hb, hx⟩ := hS C sp hs
  subst ex
  obtain rfl : u = Value.ref a := rx
  refine getmeth_ok I1 ea c hm l ?_
  exact PySem.W.callWith_K0 (first := [.ref a]) I1.kIn hm.kp (run_fnS (us := [.ref a]) (vs := [.ref a]) (dvs := []) F hr hb .nil hx I1 (.cons rfl .nil) q)
end
seal PE PT PW PA PS PSs PG PGs PI PIf PO PJ
section
variable {K : PySem.W.Frag} {G : Hp}
theorem rep_obj {C : Addr} {fs : List Str} {l : List Tv} {v : V} : Rep K G (.obj C fs l) v ↔ ∃ a dx xs, v = .ref a /\ G a = some (.ins C dx (fs.zip xs)) /\ G dx = some (.own a) /\ fs.length = l.length /\ RepL K G l xs := by
  conv => lhs; unfold Rep
theorem RepL.look {f : Str} {t : Tv} : ∀ {fs : List Str} {l : List Tv} {xs : List V}, RepL K G l xs -> (fs.zip l).lookup f = some t -> ∃ v, (fs.zip xs).lookup f = some v /\ Rep K G t v
  | [], _, _, _, e => by cases e
  | _ :: _, [], _, _, e => by cases e
  | g :: fs, t' :: l, xs, r, e => by
    obtain ⟨v, r', rfl, a, b⟩ := repL_cons.mp r
    rw [List.zip_cons_cons, List.lookup_cons] at e
    rw [List.zip_cons_cons]
    cases q : f == g with
    | true =>
      rw [q] at e
      cases e
      exact ⟨v, by rw [List.lookup_cons, q], a⟩
    | false =>
      rw [q] at e
      obtain ⟨w, x, y⟩ := RepL.look b e
      exact ⟨w, by rw [List.lookup_cons, q]; exact x, y⟩
theorem zip_none {f : Str} : ∀ {fs : List Str} {xs : List V}, fs.contains f = false -> (fs.zip xs).lookup f = none
  | [], _, _ => rfl
  | _ :: _, [], _ => rfl
  | g :: fs, x :: xs, e => by
    rw [List.contains_cons] at e
    obtain ⟨a, b⟩ := Bool.or_eq_false_iff.mp e
    rw [List.zip_cons_cons, List.lookup_cons, a]
    exact zip_none b
end
def vFld (D : Addr -> Prop) (f : Str) (m : Mv Tv) : Mv Tv := vBind m fun x => match x with
  | .obj C fs l => fun ρ P => D C /\ ∃ t, (fs.zip l).lookup f = some t /\ P (.ok t) ρ
  | _ => fun _ _ => False
section
variable {X : Cx} {K : PySem.W.Frag} {E : St -> XK}
theorem v_fld {D : Addr -> Prop} {e : Expr} {f : Str} {m : Mv Tv} {pos : Pos} (hK : X.K = K) (hD : ∀ C, D C -> Cls K C /\ NoAttr K C f) (he : PE X e (tV K E m)) (hb : attributeBase e f X.env (eval e X.env) = eval e X.env := by rfl) :
    PE X (.Attribute e f pos) (tV K E (vFld D f m)) := by
  subst hK
  refine (pe_fld he hb).imp fun σ H Q ⟨p, ρ, er, h⟩ => ⟨p, ρ, er, h.bind.mono fun v H1 ⟨x, p1, ρ1, g1, er1, r1, h2⟩ => ?_⟩
  cases x with
  | obj C fs l =>
    obtain ⟨P, ⟨hd, t, hl, hp⟩, b, _⟩ := h2
    obtain ⟨a, dx, xs, rfl, ga, _, _, rl⟩ := rep_obj.mp r1
    obtain ⟨w, hw, rw'⟩ := rl.look hl
    obtain ⟨c, n⟩ := hD C hd
    exact ⟨a, C, dx, _, w, rfl, er1.uni.sub 0 _ _ ga, c, n, hw, b t ρ1 hp w p1 H1 .refl er1 rw'⟩
  | _ => obtain ⟨_, z, _⟩ := h2; exact z.elim
theorem call_tail {C : Ct} {ts : List Tv} {vs : List V} {p1 : Pts} {ρ1 : En} {H1 : Hp} {σ : St} {Q : VK} (er1 : ER K p1 H1 σ ρ1) (r1 : RepL K (p1 0) ts vs) (h : tA K E (Rep K) (fun ρ P => C ts (callK ρ P)) p1 ρ1 σ Q) : spV K C vs H1 Q (E σ) := by
  obtain ⟨P, a, b, c⟩ := h
  refine ⟨three (p1 0) (restH p1 H1) noH, ts, _, er1.uni.two, three_ge2, r1, a, fun r q v p' H' g u h3 s => ?_, fun c0 q p' H' g u h2 => ?_⟩
  · have hr : r ≠ .un := fun z => by subst z; exact q
    have q : P (.ok r.frz) ρ1 := by
      cases r with
      | un => exact q.elim
      | va t => exact q
      | ow D l => exact q
      | od D d => exact q
    obtain ⟨u2, g2, h2⟩ := u.one h3
    obtain ⟨u3, s3⟩ := er1.uni.back u2 ((g2.fr.trans g.fr : mv p' 2 1 = restH p1 H1))
    have s4 : Same (p1 0) _ := g.same.trans (g2.same.trans s3)
    exact b r.frz ρ1 q v _ H' (grow0 s4) (er1.grow s4 u3) (by rw [pset_at]; exact (s.toall u hr).up s3)
  · obtain ⟨u3, s3⟩ := er1.uni.back u (g.fr : p' 1 = restH p1 H1)
    have s4 : Same (p1 0) _ := g.same.trans s3
    exact c c0 ρ1 q _ H' (grow0 s4) (er1.grow s4 u3)
def vMeth (D : Addr -> Ct -> Prop) (m : Str) (o : Mv Tv) (ms : List (Mv Tv)) : Mv Tv := vBind o fun x => match x with
  | .obj C fs l => fun ρ P => fs.contains m = false /\ ∃ c, D C c /\ vBind (vArgs ms) (fun xs ρ P => c (.obj C fs l :: xs) (callK ρ P)) ρ P
  | _ => fun _ _ => False
def MethV (X : Cx) (K : PySem.W.Frag) (E : St -> XK) (m : Str) (D : Addr -> Ct -> Prop) : Prop := ∀ C c, D C c -> MethIn X E m C (spV K c)
theorem meth_tail {D : Addr -> Ct -> Prop} {m : Str} {mo : Mv Tv} {ms : List (Mv Tv)} : ∀ σ H Q, tV K E (vMeth D m mo ms) σ H Q -> tMethD (fun C sp => ∃ c, D C c /\ sp = spV K c) m E (tV K E mo) (tVs K E (vArgs ms)) σ H Q := fun σ H Q ⟨p, ρ, er, h⟩ => by
  refine ⟨p, ρ, er, h.bind.mono fun v H1 ⟨x, p1, ρ1, g1, er1, r1, h2⟩ => ?_⟩
  cases x with
  | obj C fs l =>
    obtain ⟨P, ⟨hn, c, hc, hp⟩, b, z⟩ := h2
    obtain ⟨a, dx, xs, rfl, ga, gd, hl, rl⟩ := rep_obj.mp r1
    refine ⟨a, C, dx, _, _, rfl, er1.uni.sub 0 _ _ ga, ⟨c, hc, rfl⟩, zip_none hn, p1, ρ1, er1, ?_⟩
    have h3 : tA K E (Rep K) (vBind (vArgs ms) fun xs ρ P => c (.obj C fs l :: xs) (callK ρ P)) p1 ρ1 σ Q := ⟨P, hp, b, z⟩
    exact h3.bind.mono fun vs H2 ⟨ys, p2, ρ2, g2, er2, r2, h4⟩ => call_tail er2 (RepL.cons (r1.up g2.same) r2) h4
  | _ => obtain ⟨_, z, _⟩ := h2; exact z.elim
theorem v_meth {D : Addr -> Ct -> Prop} {m : Str} {o e : Expr} {es : List Expr} {mo : Mv Tv} {ms : List (Mv Tv)} {apos pos : Pos} {pl : Sem Bool} (hM : MethV X K E m D) (he : PE X o (tV K E mo)) (ha : PA X (e :: es) (tVa K E ms))
    (hst : starEach (e :: es) X.env = (false, eval e X.env) :: starEach es X.env := by rfl) (hpl : (backTo pos (starEach es X.env)).any (·.1) = false := by rfl)
    (ht : eval (.Call (.Attribute o m apos) (e :: es) [] pos) X.env = (do
      let ov ← eval o X.env
      standAt apos.atName
      let r ← holding [ov] (getMethod ov m pl)
      callWith pos r.1 r.2 (backTo pos (starEach (e :: es) X.env)) (backToKw pos (keywordEach [] X.env))) := by rfl) :
    PE X (.Call (.Attribute o m apos) (e :: es) [] pos) (tV K E (vMeth D m mo ms)) :=
  (pe_methD (S := fun C sp => ∃ c, D C c /\ sp = spV K c) (fun C sp ⟨c, hc, e⟩ => e ▸ hM C c hc) he ha.toS hst hpl ht).imp meth_tail
theorem v_meth0 {D : Addr -> Ct -> Prop} {m : Str} {o : Expr} {mo : Mv Tv} {apos pos : Pos} {pl : Sem Bool} (hM : MethV X K E m D) (he : PE X o (tV K E mo))
    (ht : eval (.Call (.Attribute o m apos) [] [] pos) X.env = (do
      let ov ← eval o X.env
      standAt apos.atName
      let r ← holding [ov] (getMethod ov m pl)
      callWith pos r.1 r.2 (backTo pos (starEach [] X.env)) (backToKw pos (keywordEach [] X.env))) := by rfl) :
    PE X (.Call (.Attribute o m apos) [] [] pos) (tV K E (vMeth D m mo [])) :=
  (pe_methD0 (S := fun C sp => ∃ c, D C c /\ sp = spV K c) (fun C sp ⟨c, hc, e⟩ => e ▸ hM C c hc) he ht).imp fun σ H Q h => by
    obtain ⟨p, ρ, er, h1⟩ := meth_tail σ H Q h
    refine ⟨p, ρ, er, h1.mono fun x H1 ⟨a, C, dx, fs, sp, e1, e2, e3, e4, p1, ρ1, er1, h2⟩ => ⟨a, C, dx, fs, sp, e1, e2, e3, e4, ?_⟩⟩
    exact h2.pure er1 RepL.nil
def insH (x dx C : Addr) (g : List (Str × V)) : Hp := upd (upd noH dx (.own x)) x (.ins C dx g)
theorem insH_at {x dx C : Addr} {g : List (Str × V)} : insH x dx C g x = some (.ins C dx g) := upd_same
theorem insH_own {x dx C : Addr} {g : List (Str × V)} (n : dx ≠ x) : insH x dx C g dx = some (.own x) := by unfold insH; rw [upd_ne n]; exact upd_same
def spI (K : PySem.W.Frag) (C : Addr) (fs : List Str) (W : List Tv -> (List Tv -> Prop) -> Prop) : Sp := fun vs H Q _ => ∃ x dx us p ts P, vs = .ref x :: us /\ dx ≠ x /\ Uni H p /\ p 2 = insH x dx C [] /\ (∀ j, 3 <= j -> p j = noH) /\ RepL K (p 0) ts us /\ W ts P /\
  ∀ l, P l -> ∀ zs p' H', Grow p p' -> Uni H' p' -> p' 2 = insH x dx C (fs.zip zs) -> (∀ j, 3 <= j -> p' j = noH) -> fs.length = l.length -> RepL K (p' 0) l zs -> Q .non H'
def vNew (C : Addr) (fs : List Str) (W : List Tv -> (List Tv -> Prop) -> Prop) (ms : List (Mv Tv)) : Mv Tv := vBind (vArgs ms) fun xs ρ P => W xs fun l => P (.ok (.obj C fs l)) ρ
theorem v_new {C fi : Addr} {fd : FuncData} {ps : List Str} {k : Nat} {fs : List Str} {W : List Tv -> (List Tv -> Prop) -> Prop} {x : Str} {p pos : Pos} {e : Expr} {es : List Expr} {ms : List (Mv Tv)} (hK : X.K = K) (M : Mk K C fi)
    (F : FnOk X.prog X.w X.K X.mg X.base CX0 k fi fd ps (spI K C fs W)) (hr : Room (k + 1) X.A) (hg : Gl X x) (hm : X.mg x = some (.ref C)) (hb : Binds X.K fd ps []) (ha : PA X (e :: es) (tVa K E ms))
    (hdb : (x == ("__debug__" : Str)) = false := by decide) (he : starEach (e :: es) X.env = (false, eval e X.env) :: starEach es X.env := by rfl) (hpl : (backTo pos (starEach es X.env)).any (·.1) = false := by rfl) :
    PE X (.Call (.Name x p) (e :: es) [] pos) (tV K E (vNew C fs W ms)) := by
  subst hK
  refine (pe_make M F hr hg hm hb .nil pass0 ha.toS hdb he hpl).imp fun σ H Q ⟨p, ρ, er, h⟩ => ⟨p, ρ, er, h.bind.mono fun vs H1 ⟨xs, p1, ρ1, g1, er1, r1, P, a, b, c⟩ => fun x dx hx hdx ne => ?_⟩
  rw [List.append_nil]
  have u1 := (er1.uni.two).alloc hdx 2 (.own x)
  have u2 := u1.alloc (a := x) (by rw [upd_ne (Ne.symm ne)]; exact hx) 2 (.ins C dx [])
  refine ⟨x, dx, vs, _, xs, fun l => P (.ok (.obj C fs l)) ρ1, rfl, ne, u2, ?_, fun j hj => ?_, ?_, a, fun l q zs p' H' g u e2 h3 hl rz => ⟨rfl, ?_⟩⟩
  · rw [pset_at, pset_at]; rfl
  · rw [pset_ne (by omega), pset_ne (by omega)]; exact three_ge2 j (by omega)
  · rw [pset_ne (by decide), pset_ne (by decide)]; exact r1
  · have g0 : Same (p1 0) (p' 0) := by
      have := g.same
      rw [pset_ne (by decide), pset_ne (by decide)] at this
      exact this
    have f1 : p' 1 = restH p1 H1 := by
      have := g.fr
      rw [pset_ne (by decide), pset_ne (by decide)] at this
      exact this
    obtain ⟨v2, g2, h2⟩ := u.one h3
    obtain ⟨u3, s3⟩ := er1.uni.back v2 ((g2.fr.trans f1 : mv p' 2 1 = restH p1 H1))
    have s4 : Same (p1 0) _ := g0.trans (g2.same.trans s3)
    refine b _ ρ1 q (.ref x) _ H' (grow0 s4) (er1.grow s4 u3) ?_
    rw [pset_at]
    have hx2 : p' 2 x = some (.ins C dx (fs.zip zs)) := by rw [e2]; exact insH_at
    have hd2 : p' 2 dx = some (.own x) := by rw [e2]; exact insH_own ne
    refine Rep.up (rep_obj.mpr ⟨x, dx, zs, rfl, ?_, ?_, hl, rz.up g2.same⟩) s3
    · rw [mv_zero (by decide)]; unfold uniH; rw [u.other hx2 (by decide)]; exact hx2
    · rw [mv_zero (by decide)]; unfold uniH; rw [u.other hd2 (by decide)]; exact hd2
theorem ini_put {H : Hp} {p : Pts} {x dx C : Addr} {g g' : List (Str × V)} (u : Uni H p) (e : p 2 = insH x dx C g) : Uni (upd H x (.ins C dx g')) (pset p 2 (insH x dx C g')) := by
  have hx : p 2 x = some (.ins C dx g) := by rw [e]; exact insH_at
  have := u.put (i := 2) (a := x) (fun j hj => u.other hx hj) (.ins C dx g')
  rw [e] at this
  unfold insH at this ⊢
  rw [upd_upd] at this
  exact this
end
end L2
set_option Elab.async false
set_option linter.all false
set_option maxRecDepth 100000
set_option maxHeartbeats 4000000
namespace L2
open PySem PySem.Spec PyProof.Rows
section
variable {X : Cx} {K : PySem.W.Frag}
def TxIn (K : PySem.W.Frag) (f : Bool -> Bool) : R2 := fun x y H Q => ∃ (z : Str) (l : Addr) (ys : List Str), x = .str z /\ y = .ref l /\ (SqL K H l (ys.map V.str) ∨ SqT K H l (ys.map V.str)) /\ Q (.bl (f (ys.any (· == z)))) H
theorem op_in : OpR X (compareOp .In) (TxIn X.K id) := by
  intro pins s σ H x y v u Q I rx ry ⟨z, l, ys, e1, e2, hq, q⟩
  subst e1 e2
  obtain ⟨t, rfl⟩ := rx
  cases (show u = Value.ref l from ry)
  rcases hq with hq | hq
  · obtain ⟨its, rv, pl, _⟩ := I.list hq
    exact in_list_strs pl.isList (strsAre_of rv) ⟨.bl _, H, I, rfl, q⟩
  · obtain ⟨its, rv, pl, _⟩ := I.tuple hq
    exact in_tuple_strs pl (strsAre_of rv) ⟨.bl _, H, I, rfl, q⟩
theorem op_notin : OpR X (compareOp .NotIn) (TxIn X.K not) := by
  intro pins s σ H x y v u Q I rx ry ⟨z, l, ys, e1, e2, hq, q⟩
  subst e1 e2
  obtain ⟨t, rfl⟩ := rx
  cases (show u = Value.ref l from ry)
  rcases hq with hq | hq
  · obtain ⟨its, rv, pl, _⟩ := I.list hq
    exact notin_list_strs pl.isList (strsAre_of rv) ⟨.bl _, H, I, rfl, q⟩
  · obtain ⟨its, rv, pl, _⟩ := I.tuple hq
    exact notin_tuple_strs pl (strsAre_of rv) ⟨.bl _, H, I, rfl, q⟩
theorem mt_joinTup : MtR X "str.join" (fun x xs H Q => ∃ (z : Str) (l : Addr) (ys : List Str), x = .str z /\ xs = [.ref l] /\ SqT X.K H l (ys.map V.str) /\ (ys.map (·.length)).sum + ys.length * z.length <= 16777216 /\ Q (.str (Txt.join z ys)) H) := by
  intro pins s σ H x xs v us Q I rx rs h
  obtain ⟨z, l, ys, rfl, rfl, hq, hz, q⟩ := h
  obtain ⟨t, rfl⟩ := rx
  obtain ⟨u, rfl, ru⟩ := rs.one
  cases (show u = Value.ref l from ru)
  obtain ⟨its, rv, pl, _⟩ := I.tuple hq
  exact join_tuple pl (strsAre_of rv) hz fun t' k => ⟨.str _, H, I.tok _, ⟨_, rfl⟩, q⟩
structure IsiC (K : PySem.W.Frag) (C : Addr) : Prop where
  cl : Cls K C
  a : PySem.W.findIn K (.ref C) "__class__" = some (some (.builtin "object.__class__"))
  n : PySem.W.specialIn K (.builtin "object.__class__") "__get__" = some (some (.builtin "getset_descriptor.__get__"))
  t : PySem.W.takesIn K (.builtin "object.__class__") = some true
  m : PySem.W.mroIn K C (.type "object") = some true
theorem call_isiO : CallR X (.builtin "isinstance") (fun xs H Q => ∃ p C dx fs B b, xs = [.ref p, .ref B] /\ H p = some (.ins C dx fs) /\ IsiC X.K C /\ PySem.W.kitOne X.K (.ref C) (.ref B) = some b /\ Q (.bl b) H) := by
  intro pins s σ H xs us Q I r ⟨p, C, dx, fs, B, b, e, h, c, k, q⟩
  subst e
  obtain ⟨u, v, rfl, r1, r2⟩ := r.two
  cases (show v = Value.ref B from r2)
  exact isinst_ok I r1 (.ins h c.cl c.a c.n c.t c.m) k fun tk => ⟨.bl b, H, I.tok _, rfl, q⟩
end
seal PE PT PW PA PS PSs PG PGs PI PIf PO PJ
section
variable {X : Cx} {K : PySem.W.Frag} {E : St -> XK}
def wInF (f : Bool -> Bool) : Tv -> Tv -> (Tv -> Prop) -> Prop
  | .str z, .tup l, k => ∃ ys : List Str, l = ys.map Tv.str /\ k (.bl (f (ys.any (· == z))))
  | .str z, .lst l, k => ∃ ys : List Str, l = ys.map Tv.str /\ k (.bl (f (ys.any (· == z))))
  | _, _, _ => False
abbrev wIn := wInF id
abbrev wNotIn := wInF not
theorem in_tail {f : Bool -> Bool} : ∀ x y H Q, rV K (wInF f) x y H Q -> TxIn K f x y H Q := fun x y H Q ⟨p, a, b, P, u, ra, rb, w, k⟩ => by
  match a, b, w with
  | .str z, .tup l, ⟨ys, e, w⟩ =>
    subst e
    obtain ⟨c, xs, rfl, s1, q1⟩ := rep_tupS rb
    rw [repL_strs_eq q1] at s1
    exact ⟨z, c, ys, rep_str.mp ra, rfl, .inr ((u.sub 0).seqT s1), keep0 u w k (rep_bl.mpr rfl)⟩
  | .str z, .lst l, ⟨ys, e, w⟩ =>
    subst e
    obtain ⟨c, xs, rfl, s1, q1⟩ := rep_lst.mp rb
    rw [repL_strs_eq q1] at s1
    exact ⟨z, c, ys, rep_str.mp ra, rfl, .inl (SqL.of (u.sub 0 _ _ s1)), keep0 u w k (rep_bl.mpr rfl)⟩
theorem o_in (hK : X.K = K) : OpR X (compareOp .In) (rV K wIn) := by subst hK; exact op_in.imp in_tail
theorem o_notin (hK : X.K = K) : OpR X (compareOp .NotIn) (rV K wNotIn) := by subst hK; exact op_notin.imp in_tail
def wJnT : Str -> List Tv -> (Tv -> Prop) -> Prop
  | z, [.tup l], k => ∃ ys : List Str, l = ys.map Tv.str /\ (ys.map (·.length)).sum + ys.length * z.length <= 16777216 /\ k (.str (Txt.join z ys))
  | _, _, _ => False
theorem mt_joinT : MtR X "str.join" (rVm X.K wJnT) := by
  intro pins s σ H x xs v us Q I rx rs ⟨z, p, l, P, e, u, r, w, k⟩
  match l, w with
  | [.tup l], ⟨ys, el, hz, w⟩ =>
    subst el
    obtain ⟨v', rfl, rr⟩ := one_of r
    obtain ⟨c, zs, rfl, s1, q1⟩ := rep_tupS rr
    rw [repL_strs_eq q1] at s1
    exact mt_joinTup pins s σ H x _ v us Q I rx rs ⟨z, c, ys, e, rfl, (u.sub 0).seqT s1, hz, keep0 u w k (rep_str.mpr rfl)⟩
def wIsiO (D : Addr -> Addr -> Bool -> Prop) : List Tv -> (Tv -> Prop) -> Prop
  | [.obj C _ _, .cls B], k => ∃ b, D C B b /\ k (.bl b)
  | _, _ => False
theorem f_isiO {D : Addr -> Addr -> Bool -> Prop} (hK : X.K = K) (hD : ∀ C B b, D C B b -> IsiC K C /\ PySem.W.kitOne K (.ref C) (.ref B) = some b) : CallR X (.builtin "isinstance") (rVs K (wIsiO D)) := by
  subst hK
  refine call_isiO.imp fun xs H Q ⟨p, l, P, u, r, w, k⟩ => ?_
  match l, w with
  | [.obj C fs z, .cls B], ⟨b, hd, w⟩ =>
    obtain ⟨a, c, rfl, r1, r2⟩ := two_of r
    obtain ⟨q, dx, ys, rfl, ga, _, _, _⟩ := rep_obj.mp r1
    obtain ⟨i, o⟩ := hD C B b hd
    rw [rep_cls.mp r2]
    exact ⟨q, C, dx, _, B, b, rfl, u.sub 0 _ _ ga, i, o, keep0 u w k (rep_bl.mpr rfl)⟩
def vExt (i : Nat) (m : Mv Tv) : Sv := fun ρ P => match ρ[i]? with
  | some (.ow _ _) => vDo m (fun t ρ P => match t, ρ[i]? with | .lst z, some (.ow D l) => l.length + z.length <= sizeLine /\ P .nx (ρ.set i (.ow D (l ++ z))) | _, _ => False) ρ P
  | _ => False
theorem vs_ext {i : Nat} {x : Str} {e : Expr} {m : Mv Tv} {xp ap cp pos : Pos} (hK : X.K = K) (hN : X.N[i]? = some x) (hv : Vis X.env.scope x) (he : PE X e (tV K E m)) (hst : starEach [e] X.env = [(false, eval e X.env)] := by rfl)
    (hbase : attributeBase (.Name x xp) "extend" X.env (eval (.Name x xp) X.env) = eval (.Name x xp) X.env := by rfl)
    (hfew : ((backTo cp (starEach [e] X.env)).all (fun x => !x.1) && (backToKw cp (keywordEach [] X.env)).all (fun x => x.1.isSome) && decide (([e] : List Expr).length + ([] : List Keyword).length + (if ([] : List Keyword).isEmpty then 0 else 1) < 30)) = true := by rfl)
    (hline : (ap.endLine == cp.line) = true := by rfl) (hsw : swapsWith (.Call (.Attribute (.Name x xp) "extend" ap) [e] [] cp) none pos.line X.env = pure false := by rfl) (hd : (x == ("__debug__" : Str)) = false := by decide) (hcd : (x == ("__classdict__" : Str)) = false := by decide) :
    PS X (.Expr (.Call (.Attribute (.Name x xp) "extend" ap) [e] [] cp) pos) (tS K E (vExt i m)) := by
  subst hK
  refine (ps_expr (pe_bm PySem.F.plainAttrs_list PySem.F.slot_list_extend PySem.F.type_list_extend mt_extend (pe_var hN hv hd hcd) (pa_cons he pa_nil hst) hbase hfew hline hst rfl) hsw).imp fun D σ H ⟨p, ρ, P, er, a, h⟩ => ?_
  unfold vExt at a
  split at a
  · rename_i Da l e
    obtain ⟨xs, e1, e2, e3, r⟩ := er.own e
    refine ⟨.ref Da, e1, .inl ⟨rfl, xs, SqL.of e2⟩, p, ρ, er, (do_tail (H := H) a h).mono fun v H1 ⟨t, p1, ρ1, g1, er1, r1, q, h1⟩ => ?_⟩
    split at q
    · rename_i z Db l' e'
      obtain ⟨ys, f1, f2, f3, rr⟩ := er1.own e'
      rw [e1] at f1
      cases f1
      obtain ⟨c, zs, rfl, s1, q1⟩ := rep_lst.mp r1
      obtain ⟨e5, g5⟩ := er1.putOwn e' (rr.app q1)
      exact ⟨Da, c, ys, zs, rfl, rfl, f2, er1.uni.sub 0 _ _ s1, by rw [rr.len, q1.len]; exact q.1, h1.nx _ q.2 σ _ _ g5 e5⟩
    · exact q.elim
  · exact a.elim
end
end L2
set_option Elab.async false
set_option linter.all false
set_option maxRecDepth 100000
set_option maxHeartbeats 4000000
namespace L2
open PySem PySem.Spec PyProof.Rows
section
variable {X : Cx} {K : PySem.W.Frag}
structure ClsM (K : PySem.W.Frag) (C : Addr) (m : Str) (f : Addr) : Prop where
  g : PySem.W.specialIn K (.ref C) "__getattribute__" = some (some (.builtin "type.__getattribute__"))
  r : PySem.W.readsIn K C (.type "type") = true
  e : PySem.W.findCls K (.ref C) (.type "type") m = some (.val (.ref f))
  kp : PySem.W.keepIn K (.ref f) = true
theorem pe_clsm {C f : Addr} {CX : CXT} {k : Nat} {fd : FuncData} {ps : List Str} {sp : Sp} {E : XK} {x m : Str} {np apos pos : Pos} {e : Expr} {es : List Expr} {t : TA} {pl : Sem Bool} (hg : Gl X x) (hm : X.mg x = some (.ref C)) (c : ClsM X.K C m f)
    (F : FnOk X.prog X.w X.K X.mg X.base CX k f fd ps sp) (hr : Room k X.A) (hb : Binds X.K fd ps []) (hx : Passes CX X E) (ha : PA X (e :: es) t)
    (hdb : (x == ("__debug__" : Str)) = false := by decide) (hst : starEach (e :: es) X.env = (false, eval e X.env) :: starEach es X.env := by rfl) (hpl : (backTo pos (starEach es X.env)).any (·.1) = false := by rfl)
    (ht : eval (.Call (.Attribute (.Name x np) m apos) (e :: es) [] pos) X.env = (do
      let ov ← eval (.Name x np) X.env
      standAt apos.atName
      let r ← holding [ov] (getMethod ov m pl)
      callWith pos r.1 r.2 (backTo pos (starEach (e :: es) X.env)) (backToKw pos (keywordEach [] X.env))) := by rfl) :
    PE X (.Call (.Attribute (.Name x np) m apos) (e :: es) [] pos) (tCall sp [] E t) := by
  intro pins s σ H Q I h
  refine PySem.W.methodCall_KW (pl := pl) (thn (pe_glob (v := .ref C) hg hm rfl hdb pins s σ H (fun v H1 => v = .ref C /\ H1 = H) I ⟨rfl, rfl⟩) fun u s1 ⟨x, H1, I1, rx, ex, eH⟩ => ?_) ht
  subst ex eH
  obtain rfl : u = Value.ref C := rx
  refine PySem.W.method_cls I1.kIn c.g (PySem.W.cls_value I1.kIn c.r c.e rfl ?_)
  have I2 := I1.tok (s1.toks + 1)
  refine PySem.W.callWith_K (first := []) (h₀ := X.base) I.ok.mod.kin c.kp (thn (ha pos pins _ σ H1 _ I2 h) fun us s2 ⟨vs, H2, I3, r, q2⟩ => ⟨I3.kIn, ?_⟩) hst hpl
  exact run_fn (us := us) (vs := vs) F hr hb .nil hx I3 r q2
end
section
variable {X : Cx} {K : PySem.W.Frag} {E : St -> XK}
def vNewM (i : Nat) (D : Addr -> Ct -> Prop) (m : Str) (o : Mv Tv) : Sv := vDo o fun x => match x with
  | .obj C fs l => fun ρ P => fs.contains m = false /\ ∃ c, D C c /\ c [.obj C fs l] fun a => match a with
    | .ok (.ow D l) => P .nx (ρ.set i (.ow D l))
    | _ => False
  | _ => fun _ _ => False
theorem vs_newM {i : Nat} {y : Str} {D : Addr -> Ct -> Prop} {m : Str} {o : Expr} {mo : Mv Tv} {apos pos pos' spos : Pos} {pl : Sem Bool} (hN : X.N.Nodup) (hi : X.N[i]? = some y) (hl : Loc X.env.scope y) (hM : MethV X K E m D) (he : PE X o (tV K E mo))
    (ht : eval (.Call (.Attribute o m apos) [] [] pos) X.env = (do
      let ov ← eval o X.env
      standAt apos.atName
      let r ← holding [ov] (getMethod ov m pl)
      callWith pos r.1 r.2 (backTo pos (starEach [] X.env)) (backToKw pos (keywordEach [] X.env))) := by rfl)
    (hs : swapsWith (.Call (.Attribute o m apos) [] [] pos) (some (.Name y pos')) spos.line X.env = pure false := by rfl) (hf : X.fn y = true ∨ X.env.scope.names.lookup y = some .local := by first | exact .inl rfl | exact .inr rfl | assumption) :
    PS X (.Assign [.Name y pos'] (.Call (.Attribute o m apos) [] [] pos) spos) (tS K E (vNewM i D m mo)) := fun pins s σ H D' I ⟨q0, ρ, P, er, a, h⟩ => by
  refine ps_set hN hi hl (pe_methD0 (S := fun C sp => ∃ c, D C c /\ sp = spV K c) (fun C sp ⟨c, hc, e⟩ => e ▸ hM C c hc) he ht) hs hf pins s σ H D' I ⟨q0, ρ, er, (do_tail (H := H) a h).mono fun v H1 ⟨x, p1, ρ1, g1, er1, r1, q, h1⟩ => ?_⟩
  have hlen : i < ρ1.length := by
    have h0 : i < X.N.length := (List.getElem?_eq_some_iff.mp hi).1
    rw [← er1.len, I.len]; exact h0
  cases x with
  | obj C fs l =>
    obtain ⟨hn, c, hc, q⟩ := q
    obtain ⟨a, dx, xs, rfl, ga, gd, hfl, rl⟩ := rep_obj.mp r1
    refine ⟨a, C, dx, _, _, rfl, er1.uni.sub 0 _ _ ga, ⟨c, hc, rfl⟩, zip_none hn, ?_⟩
    refine ⟨three (p1 0) (restH p1 H1) noH, [.obj C fs l], _, er1.uni.two, three_ge2, RepL.cons r1 RepL.nil, q, fun r q v p' H' g u h3 s => ?_, fun c0 q => q.elim⟩
    cases r with
    | ow Da l =>
      obtain ⟨zs, ev, e2, rl⟩ := s
      cases ev
      obtain ⟨B, er3, s4, s5, eH⟩ := got er1 u g e2
      obtain ⟨e5, g5⟩ := er3.setNew (D := Da) hlen cutH_at (show RepL K (pset p1 0 B 0) l zs by rw [pset_at]; exact rl.up s5)
      rw [eH] at e5
      exact h1.nx _ q _ _ _ ((grow0 s4).trans g5) e5
    | _ => exact q.elim
  | _ => exact q.elim
end
seal PE PT PW PA PS PSs PG PGs PI PIf PO PJ
section
variable {X : Cx} {K : PySem.W.Frag} {E : St -> XK}
theorem pairs_const : ∀ (kvs : List (Str × Str)) (σ : St) (H : Hp) (R : List (V × V) -> Hp -> Prop), R (kvs.map fun e => (V.str e.1, V.str e.2)) H -> tPairs (kvs.map fun e => (tC (.str e.1), tC (.str e.2))) σ H R
  | [], _, _, _, h => h
  | e :: r, σ, H, R, h => pairs_const r σ H _ h
theorem mk_tx : ∀ (kvs : List (Str × Str)), kvs.map (fun e => (V.str e.1, V.str e.2)) = (kvs.map fun e => (Sum.inr e.1, V.str e.2)).map fun kv : Key × V => (kV kv.1, kv.2)
  | [] => rfl
  | e :: r => by rw [List.map_cons, List.map_cons, List.map_cons, mk_tx r]; rfl
theorem zip_tx : ∀ (kvs : List (Str × Str)), (kvs.map fun e => (Sum.inr e.1, V.str e.2) : List (Key × V)) = (kvs.map fun e => (Sum.inr e.1 : Key)).zip (kvs.map fun e => V.str e.2)
  | [] => rfl
  | e :: r => by rw [List.map_cons, List.map_cons, List.map_cons, List.zip_cons_cons, zip_tx r]
theorem v_disp {kvs : List (Str × Str)} {keys : List (Option Expr)} {values : List Expr} {pos : Pos} (h : PPs X pos keys values (kvs.map fun e => (tC (.str e.1), tC (.str e.2)))) (hm : mergeK [] (kvs.map fun e => (Sum.inr e.1, V.str e.2)) = kvs.map fun e => (Sum.inr e.1, V.str e.2))
    (hz : kvs.length <= 15) (hall : keys.all (·.isSome) = true := by rfl) (hl : keys.length = values.length := by rfl) (h0 : keys ≠ [] := by intro z; cases z) (h15 : keys.length <= 15 := by decide) :
    PE X (.Dict keys values pos) (tV K E (vC (.dic (kvs.map fun e => Sum.inr e.1) (kvs.map fun e => .str e.2)))) :=
  (pe_disp h hall hl h0 h15).imp fun σ H Q ⟨p, ρ, er, P, a, b, _⟩ q hq => pairs_const _ _ _ _ (by
    refine ⟨upd_same, _, mk_tx kvs, by rw [List.length_map]; exact hz, ?_⟩
    rw [hm, upd_upd]
    obtain ⟨er2, s2⟩ := er.alloc hq (.dK (kvs.map fun e => (Sum.inr e.1, V.str e.2)))
    refine b _ ρ a _ _ _ (grow0 s2) er2 ?_
    rw [pset_at]
    refine rep_dic.mpr ⟨q, kvs.map fun e => V.str e.2, rfl, ?_, by rw [List.length_map, List.length_map], ?_⟩
    · rw [upd_same, zip_tx]
    · have := repL_strs (K := K) (G := upd (p 0) q (.dK (kvs.map fun e => (Sum.inr e.1, V.str e.2)))) (kvs.map (·.2))
      rw [List.map_map, List.map_map] at this
      exact this)
end
end L2
set_option Elab.async false
set_option linter.all false
set_option maxRecDepth 100000
set_option maxHeartbeats 4000000
namespace L2
open PySem PySem.Spec PyProof.Rows
section
variable {pg : Program} {w : World} {A : Around} {R : Result -> Shared -> Prop} {I : Addr} {fp wr : List Addr} {n : Nat} {P : Nat -> Value -> Prop} {St : Nat -> Heap -> Prop} {kw : List (Str × Value)}
theorem maxK_loop (W : Walks pg w A.in1 I fp wr n P St) (bt : Nat -> Nat -> Bool) (hc : CmpOf pg w A.in1 .Gt P bt) (B : Addr) (hB : B ∉ fp) :
    ∀ (m j : Nat) (s : Shared) (v0 : Value) (c : Nat), n - (j + 1) = m -> j + 1 <= n -> St (j + 1) s.heap -> P (argBest bt j) v0 ->
    s.heap.get? B = some { cls := .type "list", dict := none, data := .seq #[v0, v0] c, slots := #[] } ->
    (∀ v h' tk, P (argBest bt (n - 1)) v -> (∀ b o, b ∉ wr -> b ≠ B -> s.heap.get? b = some o -> h'.get? b = some o) -> R (.ok (.ret v)) { s with heap := h', toks := tk }) ->
    codeAny (model pg w) A (.builtin "max.loop" ⟨[.ref I, .none, .ref B], kw⟩) R s := by
  have hW : B ∉ wr := fun h => hB (W.sub _ h)
  have nm : (toString "max" ++ toString ".loop" : String) = "max.loop" := by decide
  intro m
  induction m with
  | zero =>
    intro j s v0 c hm hj st p0 gB hR
    have hin : j + 1 = n := by omega
    refine codeAny_builtin F.entry_max_loop ?_; rw [Around.under_plainId F.plain_max_loop _]
    show wpAny _ A.in1 (seqItems? (.ref B) >>= _) _ _ s
    refine wpAny_bind (wpAny_seqItems gB rfl ?_); show wpAny _ A.in1 (tryCatch (pyNext (.ref I)) _ >>= _) _ _ s
    refine wpAny_bind (wpAny_tryCatch (W.done s _ _ (hin ▸ st) fun h' tk k' => ?_))
    have gB' := k' B _ hW gB
    show wpAny _ A.in1 (updateSeq B (fun _ => #[]) >>= _) _ _ _
    refine wpAny_bind ?_; refine wpAny_updateSeq gB' rfl (wpAny_bind (wpAny_letGo (wpAny_pure ?_)))
    exact hR v0 _ tk (by rw [← hin]; exact p0) fun b o hb hbB e => (Heap.get?_update_other _ _ (Ne.symm hbB)).trans (k' b o hb e)
  | succ m ih =>
    intro j s v0 c hm hj st p0 gB hR
    have hlt : j + 1 < n := by omega
    refine codeAny_builtin F.entry_max_loop ?_; rw [Around.under_plainId F.plain_max_loop _]
    show wpAny _ A.in1 (seqItems? (.ref B) >>= _) _ _ s
    refine wpAny_bind (wpAny_seqItems gB rfl ?_); show wpAny _ A.in1 (tryCatch (pyNext (.ref I)) _ >>= _) _ _ s
    refine wpAny_bind (wpAny_tryCatch (W.item (j + 1) s _ _ hlt st fun v h' tk pv st' k' => ?_))
    have gB' := k' B _ hW gB
    show wpAny _ A.in1 (tryCatch (holding [v, v] (richCompare .Gt v v0 >>= _)) _ >>= _) _ _ _
    refine wpAny_bind (wpAny_tryCatch (wpAny_holding (wpAny_bind (hc (j + 1) (argBest bt j) v v0 _ _ _ pv p0 ?_)))); refine wpAny_bind (wpAny_holding (wpAny_truthy_bool ?_)); refine wpAny_bind (wpAny_letGo (wpAny_pure ?_))
    cases hb : bt (j + 1) (argBest bt j) with
    | true =>
      simp only [if_true]
      refine wpAny_bind ?_; refine wpAny_updateSeq gB' rfl (wpAny_bind (wpAny_letGo ?_)); rw [nm]
      refine wpAny_pure ⟨plainId_quiet F.plain_max_loop _, ih (j + 1) _ v _ (by omega) hlt (W.frame _ _ _ st' fun b hbf o e => (Heap.get?_update_other _ _ (fun h : B = b => hB (by rw [h]; exact hbf))).trans e) (by simp only [argBest, hb, if_true]; exact pv) (Heap.get?_update_self _ gB' rfl) fun v' h2 tk2 p2 k2 => ?_⟩
      exact hR v' h2 tk2 p2 fun b o hbw hbS e => k2 b o hbw hbS ((Heap.get?_update_other _ _ (Ne.symm hbS)).trans (k' b o hbw e))
    | false =>
      simp only [Bool.false_eq_true, if_false]
      refine wpAny_bind (wpAny_letGo ?_); rw [nm]
      refine wpAny_pure ⟨plainId_quiet F.plain_max_loop _, ih (j + 1) _ v0 c (by omega) hlt st' (by simp only [argBest, hb, Bool.false_eq_true, if_false]; exact p0) gB' fun v' h2 tk2 p2 k2 => ?_⟩
      exact hR v' h2 tk2 p2 fun b o hbw hbS e => k2 b o hbw hbS (k' b o hbw e)
theorem maxK_first {d : Value} {dn : Str} (W : Walks pg w A.in1 I fp wr n P St) (bt : Nat -> Nat -> Bool) (hc : CmpOf pg w A.in1 .Gt P bt) (B : Addr) (hB : B ∉ fp) {s : Shared} {c : Nat} (st : St 0 s.heap)
    (gB : s.heap.get? B = some { cls := .type "list", dict := none, data := .seq #[] c, slots := #[] })
    (hR : ∀ v h' tk, (0 < n -> P (argBest bt (n - 1)) v) -> (n = 0 -> v = d) -> (∀ b o, b ∉ wr -> b ≠ B -> s.heap.get? b = some o -> h'.get? b = some o) -> R (.ok (.ret v)) { s with heap := h', toks := tk }) :
    codeAny (model pg w) A (.builtin "max.loop" ⟨[.ref I, .none, .ref B], [(dn, d)]⟩) R s := by
  have hW : B ∉ wr := fun h => hB (W.sub _ h)
  have nm : (toString "max" ++ toString ".loop" : String) = "max.loop" := by decide
  refine codeAny_builtin F.entry_max_loop ?_; rw [Around.under_plainId F.plain_max_loop _]
  show wpAny _ A.in1 (seqItems? (.ref B) >>= _) _ _ s
  refine wpAny_bind (wpAny_seqItems gB rfl ?_); show wpAny _ A.in1 (tryCatch (pyNext (.ref I)) _ >>= _) _ _ s
  by_cases hn : 0 < n
  · refine wpAny_bind (wpAny_tryCatch (W.item 0 s _ _ hn st fun v h' tk pv st' k' => ?_))
    have gB' := k' B _ hW gB
    show wpAny _ A.in1 (updateSeq B (fun _ => #[v, v]) >>= _) _ _ _
    refine wpAny_bind ?_; refine wpAny_updateSeq gB' rfl ?_; rw [nm]
    refine wpAny_pure ⟨plainId_quiet F.plain_max_loop _, maxK_loop W bt hc B hB _ 0 _ v _ rfl hn (W.frame _ _ _ st' fun b hbf o e => (Heap.get?_update_other _ _ (fun h : B = b => hB (by rw [h]; exact hbf))).trans e) pv (Heap.get?_update_self _ gB' rfl) fun v' h2 tk2 p2 k2 => ?_⟩
    exact hR v' h2 tk2 (fun _ => p2) (fun z => absurd hn (by omega)) fun b o hbw hbS e => k2 b o hbw hbS ((Heap.get?_update_other _ _ (Ne.symm hbS)).trans (k' b o hbw e))
  · have h0 : n = 0 := by omega
    refine wpAny_bind (wpAny_tryCatch (W.done s _ _ (h0 ▸ st) fun h' tk k' => ?_))
    show wpAny _ A.in1 (rule _ >>= _) _ _ _
    refine wpAny_bind (wpAny_rule ?_)
    refine wpAny_pure ?_
    exact hR d _ tk (fun z => absurd z hn) (fun _ => rfl) fun b o hbw _ e => k' b o hbw e
end
section
variable {pg : Program} {w : World} {A : Around} {E : Value -> Shared -> Prop} {s : Shared}
theorem args_maxD (a d : Value) : argsOk "max" ⟨[a], [(Str.ofString "default", d)]⟩ := by unfold argsOk; kernel_rfl
theorem call_maxD {l : Addr} {xs : Array (Int × Tok)} {d : Value} {Q : Value -> Shared -> Prop} (hh : A.handled = none) (hl : s.heap.IsList l (intItems xs))
    (h : ∀ v h' tk, (0 < xs.size -> (intItems xs)[argBest (fun i j => decide (numAt xs i > numAt xs j)) (xs.size - 1)]? = some v) -> (xs.size = 0 -> v = d) -> (∀ b o, s.heap.get? b = some o -> h'.get? b = some o) -> Q v { s with heap := h', toks := tk }) :
    wpAny (model pg w) A (call (.builtin "max") [.ref l] [(Str.ofString "default", d)]) Q E s := by
  have nm : (toString "max" ++ toString ".loop" : String) = "max.loop" := by decide
  refine kmk_tree F.kind_max F.plain_max F.entry_max (args_maxD _ _) ?_
  show wpAny _ A.in1 (Builtin.Builtins.bindParams "max" ["key", "default"] 0 ⟨[], [(Str.ofString "default", d)]⟩ >>= _) _ _ s
  refine wpAny_bind (wpAny_of_eq (show Builtin.Builtins.bindParams "max" ["key", "default"] 0 ⟨[], [(Str.ofString "default", d)]⟩ = pure [none, some d] from rfl) ?_)
  refine wpAny_bind (wpAny_pure ?_)
  refine wpAny_bind (iter_intList hl fun s2 e st hfp hlI => ?_)
  subst e
  refine wpAny_bind (wpAny_newObj_type ?_)
  rw [nm]
  refine wpAny_pure ⟨plainId_quiet F.plain_max_loop _, maxK_first (Walks.list (A := A.in1) hh _ l hlI (intItems xs)) _ (CmpOf.ints_gt (numAt xs) (fun _ _ => intItems_at)) _ (fun hm => Nat.lt_irrefl _ (hfp _ hm)) ?_ (Heap.get?_push_size _ rfl) fun v h' tk p1 p2 hk => ?_⟩
  · exact (Walks.list (prog := pg) (w := w) (A := A.in1) hh _ l hlI (intItems xs)).frame _ _ _ st fun b _ o e => Heap.get?_push_of_some _ e
  · refine h v h' tk (fun z => by have := p1 (by simpa [intItems] using z); simpa [intItems] using this) (fun z => p2 (by simpa [intItems] using z)) fun b o e => ?_
    have e1 := Heap.get?_push_of_some { cls := .type "list_iterator", data := .fields #[.ref l, .int 0 0] } e
    exact hk b o (fun hm => Nat.ne_of_lt (Heap.lt_size e) (List.mem_singleton.mp hm)) (Nat.ne_of_lt (Heap.lt_size e1)) (Heap.get?_push_of_some _ e1)
end
def MaxD (ns : List Int) (d M : Int) : Prop := (ns = [] -> M = d) /\ (ns ≠ [] -> M ∈ ns /\ ∀ a ∈ ns, a <= M)
def tMaxD (K : PySem.W.Frag) (te tk : TE) : TE := fun σ H Q => te σ H fun x H1 => tk σ H1 fun z H2 => ∃ (l : Addr) (ns : List Int) (d : Int), x = .ref l /\ z = .int d /\ SqL K H2 l (ns.map V.int) /\ ∀ M, MaxD ns d M -> Q (.int M) H2
theorem pe_maxD {X : Cx} {e k : Expr} {te tk : TE} {p kp pos : Pos} (hc : X.calm = true) (hg : Gl X "max") (hm : X.mg "max" = none) (he : PE X e te) (hk : PE X k tk) (hst : starEach [e] X.env = [(false, eval e X.env)] := by rfl) :
    PE X (.Call (.Name "max" p) [e] [⟨some "default", k, kp⟩] pos) (tMaxD X.K te tk) := by
  intro pins s σ H Q I h
  refine wpAny_Call_Name_kw (ld_blt I hg hm PyProof.Rows.boot_max ?_ (by decide) (by decide))
  refine callWith_kw (e := e) (rest := []) (kws := [⟨some "default", k, kp⟩]) (thn (pa_cons he pa_nil hst pos pins s σ H (fun vs H1 => match vs with | [x] => tk σ H1 fun z H2 => ∃ (l : Addr) (ns : List Int) (d : Int), x = .ref l /\ z = .int d /\ SqL X.K H2 l (ns.map V.int) /\ ∀ M, MaxD ns d M -> Q (.int M) H2 | _ => False) I h) fun us s1 ⟨vs, H1, I1, r, q⟩ => ?_) (by rw [hst]; rfl) (by rw [hst]; rfl)
  match vs, r, q with
  | [x], .cons (b := u) rx .nil, q =>
    refine thn (pk_cons (nm := some "default") (kpos := kp) hk pk_nil pos pins s1 σ H1 (fun zs H2 => match zs with | [z] => ∃ (l : Addr) (ns : List Int) (d : Int), x = .ref l /\ z = .int d /\ SqL X.K H2 l (ns.map V.int) /\ ∀ M, MaxD ns d M -> Q (.int M) H2 | _ => False) I1 q) fun ks s2 ⟨zs, H2, I2, rz, q2⟩ => ?_
    match zs, rz, q2 with
    | [z], .cons (b := v) rz .nil, ⟨l, ns, d, e1, e2, hl, q3⟩ =>
      subst e1 e2
      cases (show u = Value.ref l from rx)
      obtain ⟨td, rfl⟩ := rz
      obtain ⟨its, rv, pl, hz⟩ := I2.list hl
      have hi : IntsAre its ns := ints_of_vals rv
      obtain ⟨ys, e⟩ := hi.allInts.items
      have hns : ns = ys.toList.map (·.1) := by rw [← hi.numsOf, ← nums_intItems, ← e]
      have hlen : ns.length = ys.size := by rw [hns, List.length_map, Array.length_toList]
      have hl' := pl.isList
      rw [e] at hl'
      refine call_maxD (I2.ok.hd hc) hl' fun v h' tk hv hv0 hk => ?_
      by_cases h0 : 0 < ys.size
      · obtain ⟨t, rfl⟩ := intItems_at (hv h0)
        obtain ⟨h1, h2⟩ := argBest_gt (numAt ys) (ys.size - 1)
        refine ⟨.int _, H2, I2.kept (t' := tk) hk, ⟨t, rfl⟩, q3 _ ⟨fun z => ?_, fun _ => ⟨?_, fun a ha => ?_⟩⟩⟩
        · rw [z] at hlen; simp at hlen; omega
        · rw [hns, numAt_eq]; exact getD_mem (by rw [List.length_map, Array.length_toList]; omega)
        · rw [hns] at ha
          obtain ⟨j, hj, rfl⟩ := mem_getD ha
          rw [List.length_map, Array.length_toList] at hj
          rw [← numAt_eq]; exact h2 j (by omega)
      · rw [hv0 (by omega)]
        refine ⟨.int d, H2, I2.kept (t' := tk) hk, ⟨td, rfl⟩, q3 _ ⟨fun _ => rfl, fun z => absurd (List.length_pos_iff.mpr z) (by omega)⟩⟩
seal PE PT PW PA PS PSs PG PGs PI PIf PO PJ
section
variable {X : Cx} {K : PySem.W.Frag} {E : St -> XK}
def vMaxD (a b : Mv Tv) : Mv Tv := vBind a fun x => vBind b fun y ρ P => match x, y with
  | .lst l, .int d => ∃ ns : List Int, l = ns.map Tv.int /\ ∀ M, MaxD ns d M -> P (.ok (.int M)) ρ
  | _, _ => False
theorem repL_ints_eq {G : Hp} : ∀ {ns : List Int} {xs : List V}, RepL K G (ns.map Tv.int) xs -> xs = ns.map V.int
  | [], xs, h => by rw [repL_nil.mp h]; rfl
  | y :: ys, xs, h => by
    obtain ⟨v, r, rfl, a, b⟩ := repL_cons.mp h
    rw [rep_int.mp a, repL_ints_eq b]
    rfl
theorem v_maxD {e k : Expr} {me mk : Mv Tv} {p kp pos : Pos} (hK : X.K = K) (hc : X.calm = true) (hg : Gl X "max") (hm : X.mg "max" = none) (he : PE X e (tV K E me)) (hk : PE X k (tV K E mk)) (hst : starEach [e] X.env = [(false, eval e X.env)] := by rfl) :
    PE X (.Call (.Name "max" p) [e] [⟨some "default", k, kp⟩] pos) (tV K E (vMaxD me mk)) := by
  subst hK
  refine (pe_maxD hc hg hm he hk hst).imp fun σ H Q ⟨p, ρ, er, h⟩ => ⟨p, ρ, er, h.bind.mono fun v H1 ⟨x, p1, ρ1, g1, er1, r1, h1⟩ => ⟨p1, ρ1, er1, h1.bind.mono fun u H2 ⟨y, p2, ρ2, g2, er2, r2, P, a, b, _⟩ => ?_⟩⟩
  cases x with
  | lst l =>
    cases y with
    | int d =>
      obtain ⟨ns, el, a⟩ := a
      subst el
      obtain ⟨c, zs, rfl, s1, q1⟩ := rep_lst.mp (r1.up g2.same)
      rw [repL_ints_eq q1] at s1
      exact ⟨c, ns, d, rfl, rep_int.mp r2, SqL.of (er2.uni.sub 0 _ _ s1), fun M hM => b _ ρ2 (a M hM) _ p2 H2 .refl er2 (rep_int.mpr rfl)⟩
    | _ => exact a.elim
  | _ => exact a.elim
theorem spI.len {C : Addr} {fs : List Str} {W : List Tv -> (List Tv -> Prop) -> Prop} {n : Nat} (h : ∀ ts P, W ts P -> ts.length + 1 = n) : ∀ vs H Q E, spI K C fs W vs H Q E -> vs.length = n := fun vs H Q E ⟨x, dx, us, p, ts, P, e, _, _, _, _, r, w, _⟩ => by
  rw [e, List.length_cons, r.len]; exact h _ _ w
theorem ini_end {C x dx : Addr} {fs : List Str} {p : Pts} {H : Hp} {Q : VK} {P : List Tv -> Prop} {l : List Tv} {zs : List V} {g : List (Str × V)} (u : Uni H p) (e : p 2 = insH x dx C g) (h3 : ∀ j, 3 <= j -> p j = noH)
    (k : ∀ l, P l -> ∀ zs p' H', Grow p p' -> Uni H' p' -> p' 2 = insH x dx C (fs.zip zs) -> (∀ j, 3 <= j -> p' j = noH) -> fs.length = l.length -> RepL K (p' 0) l zs -> Q .non H') (hl : P l) (hf : fs.length = l.length) (r : RepL K (p 0) l zs) : Q .non (upd H x (.ins C dx (fs.zip zs))) :=
  k l hl zs _ _ ⟨by rw [pset_ne (by decide)]; exact Same.refl _, pset_ne (by decide)⟩ (ini_put u e) pset_at (fun j hj => by rw [pset_ne (by omega)]; exact h3 j hj) hf (by rw [pset_ne (by decide)]; exact r)
end
end L2
set_option Elab.async false
set_option linter.all false
set_option maxRecDepth 100000
set_option maxHeartbeats 4000000
namespace L2
open PySem PySem.Spec PyProof.Rows
section
variable {X : Cx} {CX : CXT} {k : Nat} {f : Addr} {fd : FuncData} {ps : List Str} {sp : Sp} {E : St -> XK} {x : Str} {p pos : Pos}
theorem pe_callS0 (F : FnOk X.prog X.w X.K X.mg X.base CX k f fd ps sp) (hr : Room k X.A) (hg : Gl X x) (hm : X.mg x = some (.ref f)) (hk : PySem.W.keepIn X.K (.ref f) = true) (hb : Binds X.K fd ps []) (hx : PassesS CX X E)
    (hdb : (x == ("__debug__" : Str)) = false := by decide) : PE X (.Call (.Name x p) [] [] pos) (tCallS sp [] E tNil) := by
  intro pins s σ H Q I h
  refine wpAny_Call_Name_kw (ld_glob I hg hm ?_ hdb)
  exact PySem.W.callWith_K0 I.kIn hk (run_fnS (us := []) F hr hb .nil hx I .nil h)
end
seal PE PT PW PA PS PSs PG PGs PI PIf PO PJ
section
variable {X : Cx} {K : PySem.W.Frag} {E : St -> XK}
theorem v_call0 {C : Ct} {CX : CXT} {k : Nat} {f : Addr} {fd : FuncData} {ps : List Str} {x : Str} {p pos : Pos} (hK : X.K = K) (F : FnOk X.prog X.w X.K X.mg X.base CX k f fd ps (spV K C)) (hr : Room k X.A) (hg : Gl X x) (hm : X.mg x = some (.ref f)) (hk : PySem.W.keepIn X.K (.ref f) = true) (hb : Binds X.K fd ps []) (hx : PassesS CX X E)
    (hdb : (x == ("__debug__" : Str)) = false := by decide) : PE X (.Call (.Name x p) [] [] pos) (tV K E (vCall C [])) :=
  (pe_callS0 F hr hg hm hk hb hx hdb).imp fun σ H Q ⟨p, ρ, er, h⟩ => call_tail (ts := []) er RepL.nil h
def vInO (i : Nat) (m : Mv Tv) : Mv Tv := vBind m fun t ρ P => match t, ρ[i]? with
  | .str z, some (.ow _ l) => ∃ ys : List Str, l = ys.map Tv.str /\ P (.ok (.bl (ys.any (· == z)))) ρ
  | _, _ => False
theorem v_inO {i : Nat} {x : Str} {a : Expr} {m : Mv Tv} {xp pos : Pos} (hK : X.K = K) (hN : X.N[i]? = some x) (hv : Vis X.env.scope x) (ha : PE X a (tV K E m)) (hm : behindInMarks .In (.Name x xp) = false := by with_unfolding_all rfl)
    (hd : (x == ("__debug__" : Str)) = false := by decide) (hcd : (x == ("__classdict__" : Str)) = false := by decide) : PE X (.Compare a [.In] [.Name x xp] pos) (tV K E (vInO i m)) := by
  subst hK
  refine (pe_cmpR op_in ha (pe_var hN hv hd hcd) hm).imp fun σ H Q ⟨p, ρ, er, h⟩ => ⟨p, ρ, er, h.bind.mono fun v H1 ⟨t, p1, ρ1, g1, er1, r1, P, q, b, _⟩ => ?_⟩
  dsimp only at q
  split at q
  · rename_i z D l e
    obtain ⟨ys, el, q⟩ := q
    subst el
    obtain ⟨xs, e1, e2, e3, r⟩ := er1.own e
    rw [repL_strs_eq r] at e2
    exact ⟨.ref D, e1, z, D, ys, rep_str.mp r1, rfl, .inl (SqL.of e2), b _ ρ1 q _ p1 H1 .refl er1 (rep_bl.mpr rfl)⟩
  · exact q.elim
end
end L2
set_option Elab.async false
set_option linter.all false
set_option maxRecDepth 100000
set_option maxHeartbeats 4000000
namespace Pw
open PySem L2
seal PE PT PW PA PS PSs PG PGs PI PIf PO PJ
abbrev Lk (s : Stmt) (x : Str) (k : NameKind) : Prop := (defScope s).names.lookup x = some k
def top (i : Nat) : Stmt := PySem.Challenge.pw_planwell_k06_terms_by_classes.main.body.getD i (.Pass ⟨0, 0, 0, 0⟩)
abbrev s_greatest_divisor : Stmt := top 6
abbrev s_fraction : Stmt := top 7
abbrev s_minus : Stmt := top 8
abbrev s_sign : Stmt := top 9
abbrev s_shown_fraction : Stmt := top 10
abbrev s_l_at : Stmt := top 22
abbrev s_l_mixed : Stmt := top 23
abbrev s_l_reserved : Stmt := top 24
abbrev s_l_pool : Stmt := top 25
abbrev s_l_fraction : Stmt := top 26
abbrev s_l_tree : Stmt := top 27
abbrev s_l_less : Stmt := top 28
abbrev s_l_made : Stmt := top 29
abbrev s_l_parts : Stmt := top 30
abbrev s_l_number_text : Stmt := top 31
abbrev s_l_shown : Stmt := top 32
abbrev s_l_put : Stmt := top 33
abbrev s_l_entries : Stmt := top 34
abbrev s_l_depth : Stmt := top 35
abbrev s_l_good : Stmt := top 36
abbrev s_law : Stmt := top 37
structure DefAt (K : PySem.W.Frag) (mg : Str -> Option Value) (x : Str) (st : Stmt) (f : Addr) (fd : FuncData) (ps : List Str) : Prop where
  F : Fun K x x st f fd
  b : Binds K fd ps []
  m : mg x = some (.ref f)
structure Blt (mg : Str -> Option Value) : Prop where
  isinstance : mg "isinstance" = none
  int : mg "int" = none
  str : mg "str" = none
  tuple : mg "tuple" = none
  len : mg "len" = none
  abs : mg "abs" = none
  list : mg "list" = none
  range : mg "range" = none
  enumerate : mg "enumerate" = none
  max : mg "max" = none
  bool : mg "bool" = none
def BIG : Nat := 2 ^ 8000
theorem lt_big {n k : Nat} (h : n < 2 ^ k) (hk : k <= 8000) : n < BIG := Nat.lt_of_lt_of_le h (Nat.pow_le_pow_right (by decide) hk)
theorem log2_of {n : Nat} (h : n < BIG) : n.log2 < 9000 := by
  rcases Nat.eq_zero_or_pos n with h0 | hp
  · rw [h0]; decide
  · have := (Nat.log2_lt (Nat.ne_of_gt hp)).mpr h
    omega
def gd (a b : Int) : Int := (Int.gcd a b : Int)
theorem gd_step {a b : Int} (ha : 0 <= a) (hb : 0 < b) : gd b (Int.fmod a b) = gd a b := by
  unfold gd
  rw [Int.fmod_eq_emod_of_nonneg _ (by omega)]
  obtain ⟨n, rfl⟩ := Int.eq_ofNat_of_zero_le ha
  obtain ⟨m, rfl⟩ := Int.eq_ofNat_of_zero_le (Int.le_of_lt hb)
  have e : ((n : Int) % (m : Int)) = ((n % m : Nat) : Int) := rfl
  rw [e]
  show ((Nat.gcd m (n % m) : Nat) : Int) = ((Nat.gcd n m : Nat) : Int)
  rw [Nat.gcd_comm n m, Nat.gcd_rec m n, Nat.gcd_comm]
theorem gd_zero {a : Int} (ha : 0 <= a) : gd a 0 = a := by
  unfold gd; rw [Int.gcd_zero_right]; omega
theorem gd_pos {a b : Int} (hb : 0 < b) : 0 < gd a b := by
  unfold gd
  have : 0 < Int.gcd a b := Int.gcd_pos_of_ne_zero_right a (by omega)
  omega
theorem gd_dvd_l (a b : Int) : gd a b ∣ a := Int.gcd_dvd_left ..
theorem gd_dvd_r (a b : Int) : gd a b ∣ b := Int.gcd_dvd_right ..
theorem gd_le {a b : Int} (hb : 0 < b) : gd a b <= b := Int.le_of_dvd hb (gd_dvd_r a b)
theorem fdiv_mul {a g : Int} (hg : 0 < g) (h : g ∣ a) : Int.fdiv a g * g = a := by
  rw [Int.fdiv_eq_ediv_of_nonneg _ (by omega)]
  exact Int.ediv_mul_cancel h
theorem gd_neg_l (a b : Int) : gd (-a) b = gd a b := by
  unfold gd; rw [Int.neg_gcd]
theorem gd_abs (a b : Int) : gd (if a < 0 then -a else a) b = gd a b := by
  split
  · exact gd_neg_l a b
  · rfl
theorem gd_mul {a b m : Int} (hm : 0 <= m) : gd (a * m) (b * m) = gd a b * m := by
  unfold gd
  rw [Int.gcd_mul_right]
  have : (m.natAbs : Int) = m := by omega
  rw [← this]; simp
theorem low {t b g : Int} (hb : 0 < b) (hg : g = gd t b) :
    0 < g /\ 1 <= Int.fdiv b g /\ Int.fdiv t g * b = t * Int.fdiv b g /\ gd (Int.fdiv t g) (Int.fdiv b g) = 1 := by
  have g0 : 0 < g := hg ▸ gd_pos hb
  have ht := fdiv_mul g0 (hg ▸ gd_dvd_l t b)
  have hbb := fdiv_mul g0 (hg ▸ gd_dvd_r t b)
  generalize Int.fdiv t g = x at *
  generalize Int.fdiv b g = y at *
  refine ⟨g0, ?_, ?_, ?_⟩
  · rcases (by omega : 1 <= y ∨ y <= 0) with h | h
    · exact h
    · have := Int.mul_nonpos_of_nonpos_of_nonneg h (Int.le_of_lt g0)
      omega
  · rw [← ht, ← hbb]
    rw [Int.mul_assoc x g y, Int.mul_comm g y]
  · have := gd_mul (a := x) (b := y) (Int.le_of_lt g0)
    rw [ht, hbb, ← hg] at this
    have : (gd x y - 1) * g = 0 := by rw [Int.sub_mul, ← this]; omega
    rcases Int.mul_eq_zero.mp this with h | h
    · omega
    · omega
def ft (t b : Int) : Int := if b < 0 then Int.fdiv (-t) (gd (-t) (-b)) else Int.fdiv t (gd t b)
def fb (t b : Int) : Int := if b < 0 then Int.fdiv (-b) (gd (-t) (-b)) else Int.fdiv b (gd t b)
theorem frac_low {t b : Int} (hb : b ≠ 0) : 1 <= fb t b /\ ft t b * b = t * fb t b /\ gd (ft t b) (fb t b) = 1 := by
  unfold ft fb
  by_cases h : b < 0
  · rw [if_pos h, if_pos h]
    obtain ⟨_, a1, a2, a3⟩ := low (t := -t) (b := -b) (by omega) rfl
    refine ⟨a1, ?_, a3⟩
    have e1 : Int.fdiv (-t) (gd (-t) (-b)) * -b = -(Int.fdiv (-t) (gd (-t) (-b)) * b) := Int.mul_neg _ _
    have e2 : -t * Int.fdiv (-b) (gd (-t) (-b)) = -(t * Int.fdiv (-b) (gd (-t) (-b))) := Int.neg_mul _ _
    rw [e1, e2] at a2
    omega
  · rw [if_neg h, if_neg h]
    obtain ⟨_, a1, a2, a3⟩ := low (t := t) (b := b) (by omega) rfl
    exact ⟨a1, a2, a3⟩
theorem gd_log {t b : Int} (hb : 0 < b) (h : b.natAbs < BIG) : (gd t b).natAbs.log2 < 9000 := by
  refine log2_of (Nat.lt_of_le_of_lt ?_ h)
  have h1 := gd_le (a := t) hb
  have h2 := gd_pos (a := t) hb
  omega
theorem abs_nonneg (a : Int) : 0 <= (if a < 0 then -a else a) := by split <;> omega
structure BadF (K : PySem.W.Frag) (mg : Str -> Option Value) (C : Addr) : Prop where
  m : mg "BadFraction" = some (.ref C)
  e : PySem.W.excIn K C veB "ValueError.__new__" = true
structure DefD (K : PySem.W.Frag) (mg : Str -> Option Value) (x : Str) (st : Stmt) (dV : Value) (f : Addr) (fd : FuncData) (ps : List Str) (ds : List Value) : Prop where
  F : FunD K x x st dV f fd
  b : Binds K fd ps []
  d : Binds K fd ps ds
  v : Vals [.int 1] ds
  m : mg x = some (.ref f)
theorem fdiv_abs {t g : Int} (hg : 0 < g) (h : g ∣ t) : (Int.fdiv t g).natAbs <= t.natAbs := by
  have e := fdiv_mul hg h
  generalize Int.fdiv t g = q at *
  subst e
  rw [Int.natAbs_mul]
  exact Nat.le_mul_of_pos_right _ (by omega)
theorem ft_abs {t b : Int} (hb : b ≠ 0) : (ft t b).natAbs <= t.natAbs := by
  unfold ft
  split
  · have := fdiv_abs (gd_pos (a := -t) (b := -b) (by omega)) (gd_dvd_l (-t) (-b))
    rw [Int.natAbs_neg] at this
    exact this
  · exact fdiv_abs (gd_pos (by omega)) (gd_dvd_l t b)
theorem fb_abs {t b : Int} (hb : b ≠ 0) : (fb t b).natAbs <= b.natAbs := by
  unfold fb
  split
  · have := fdiv_abs (gd_pos (a := -t) (b := -b) (by omega)) (gd_dvd_r (-t) (-b))
    rw [Int.natAbs_neg] at this
    exact this
  · exact fdiv_abs (gd_pos (by omega)) (gd_dvd_r t b)
abbrev Fq := Int × Int
def Red (a : Fq) : Prop := 1 <= a.2 /\ gd a.1 a.2 = 1
def Fb (k : Nat) (a : Fq) : Prop := a.1.natAbs < 2 ^ k /\ a.2.natAbs < 2 ^ k
def mkF (t b : Int) : Fq := (ft t b, fb t b)
theorem Red.mul {a b : Fq} (ha : Red a) (hb : Red b) : a.2 * b.2 ≠ 0 := Int.mul_ne_zero (by have := ha.1; omega) (by have := hb.1; omega)
theorem mk_red {t b : Int} (h : b ≠ 0) : Red (mkF t b) := by
  obtain ⟨a1, _, a3⟩ := frac_low (t := t) h
  exact ⟨a1, a3⟩
theorem mul_lt {a b : Int} {j k : Nat} (ha : a.natAbs < 2 ^ j) (hb : b.natAbs < 2 ^ k) : (a * b).natAbs < 2 ^ (j + k) := by
  rw [Int.natAbs_mul, Nat.pow_add]
  exact Nat.mul_lt_mul_of_lt_of_lt ha hb
theorem pow_up {n j k : Nat} (h : n < 2 ^ j) (hk : j <= k) : n < 2 ^ k := Nat.lt_of_lt_of_le h (Nat.pow_le_pow_right (by decide) hk)
theorem Fb.bot {a b : Fq} {j k : Nat} (fa : Fb j a) (fb : Fb k b) : (a.2 * b.2).natAbs < 2 ^ (j + k) := mul_lt fa.2 fb.2
theorem low_mk {t b : Int} (h : 0 < b) : (Int.fdiv t (gd t b), Int.fdiv b (gd t b)) = mkF t b := by
  unfold mkF ft fb
  rw [if_neg (by omega), if_neg (by omega)]
def Gd (k : Nat) (a : Fq) : Prop := Red a /\ Fb k a
theorem red_uniq {a b : Fq} (ha : Red a) (hb : Red b) (e : a.1 * b.2 = b.1 * a.2) : a = b := by
  obtain ⟨a1, a2⟩ := a
  obtain ⟨b1, b2⟩ := b
  obtain ⟨h1, g1⟩ := ha
  obtain ⟨h2, g2⟩ := hb
  simp only [gd] at h1 g1 h2 g2 e
  have g1' : Nat.gcd a2.natAbs a1.natAbs = 1 := by rw [Nat.gcd_comm]; unfold Int.gcd at g1; omega
  have g2' : Nat.gcd b2.natAbs b1.natAbs = 1 := by rw [Nat.gcd_comm]; unfold Int.gcd at g2; omega
  have e' : a1.natAbs * b2.natAbs = b1.natAbs * a2.natAbs := by rw [← Int.natAbs_mul, ← Int.natAbs_mul, e]
  have d1 : a2.natAbs ∣ b2.natAbs := Nat.Coprime.dvd_of_dvd_mul_left (k := a2.natAbs) (m := a1.natAbs) g1' ⟨b1.natAbs, by rw [e', Nat.mul_comm]⟩
  have d2 : b2.natAbs ∣ a2.natAbs := Nat.Coprime.dvd_of_dvd_mul_left (k := b2.natAbs) (m := b1.natAbs) g2' ⟨a1.natAbs, by rw [← e', Nat.mul_comm]⟩
  have q := Nat.dvd_antisymm d1 d2
  have q2 : a2 = b2 := by omega
  subst q2
  have : a1 = b1 := Int.eq_of_mul_eq_mul_right (by omega) e
  rw [this]
theorem mk_cross {t b : Int} (h : b ≠ 0) : (mkF t b).1 * b = t * (mkF t b).2 := (frac_low (t := t) h).2.1
section
variable {P : Program} {w : World} {K : PySem.W.Frag} {mg : Str -> Option Value} {base : Heap} {f : Addr} {fd : FuncData}
def spGd : Sp := fun vs H Q _ => ∃ a b : Int, vs = [.int a, .int b] /\ 0 <= a /\ 0 <= b /\ Q (.int (gd a b)) H
theorem sc_greatest_divisor : FnScope ["one", "other", "rest"] ["one", "other"] (defScope s_greatest_divisor) := ⟨rfl, rfl, rfl, by decide +kernel, rfl, by decide +kernel, by decide +kernel⟩
theorem ok_greatest_divisor (F : Fun K "greatest_divisor" "greatest_divisor" s_greatest_divisor f fd) : FnOk P w K mg base CX0 1 f fd ["one", "other"] spGd := by
  refine F.ok sc_greatest_divisor (fun vs H Q E h => ?_) (fun cdv A outer s H vs Q E hr h => ?_)
  · obtain ⟨a, b, rfl, _⟩ := h
    rfl
  obtain ⟨a, b, rfl, ha, hb, q⟩ := h
  have nd := sc_greatest_divisor.nd
  refine ⟨_, pss_cons (ps_while PassesOwn.never (pt_cmpR op_ne (pv 1) pe_int (nomark _))
      (pss_cons (ps_set (i := 2) nd rfl (Or.inl rfl) (pe_op op_modN (pv 0) (pv 1)))
      (pss_cons (ps_set (i := 0) nd rfl (Or.inl rfl) (pv 1)) (pss_one (ps_set (i := 1) nd rfl (Or.inl rfl) (pv 2))))))
    (pss_one (ps_ret (pv 0))), ?_⟩
  refine ⟨fun m σ H' => H' = H /\ ∃ (x y : Int) (z : Option V), σ = [some (.int x), some (.int y), z] /\ 0 <= x /\ 0 <= y /\ gd x y = gd a b /\ m = y.toNat, ⟨b.toNat, rfl, a, b, none, rfl, ha, hb, rfl, rfl⟩, ?_⟩
  rintro m σ H' ⟨rfl, x, y, z, rfl, hx, hy, eg, rfl⟩
  refine ⟨_, rfl, rfl, _, rfl, ?_⟩
  by_cases h0 : y = 0
  · subst h0
    refine iteN (neN rfl) ?_
    refine ⟨_, rfl, ?_⟩
    rw [gd_zero hx] at eg
    rw [eg]
    exact q
  · refine iteY (neY h0) ?_
    refine ⟨fun σ' H2 => H2 = H' /\ σ' = [some (.int y), some (.int (x.fmod y)), some (.int (x.fmod y))], ?_, ?_⟩
    · rintro σ' H2 ⟨rfl, rfl⟩
      have yp : 0 < y := by omega
      have m1 := Int.fmod_nonneg_of_pos x yp
      have m2 := Int.fmod_lt_of_pos x yp
      exact ⟨(x.fmod y).toNat, by omega, rfl, y, x.fmod y, _, rfl, hy, m1, by rw [gd_step hx yp]; exact eg, rfl⟩
    · exact ⟨_, rfl, _, rfl, x, y, rfl, rfl, h0, _, rfl, _, rfl, rfl, rfl⟩
def spFracP (C : Addr) : Sp := fun vs H Q E => ∃ t b : Int, vs = [.int t, .int b] /\ 0 <= b /\ b.natAbs < BIG /\ (b = 0 -> E (.ref C) none H) /\ (0 < b -> ∀ p, H p = none -> Q (.ref p) (upd H p (.tup [.int (Int.fdiv t (gd t b)), .int (Int.fdiv b (gd t b))])))
def spFrac (C : Addr) : Sp := fun vs H Q E => ∃ t b : Int, vs = [.int t, .int b] /\ b.natAbs < BIG /\ (b = 0 -> E (.ref C) none H) /\ (b ≠ 0 -> ∀ p, H p = none -> Q (.ref p) (upd H p (.tup [.int (ft t b), .int (fb t b)])))
theorem sc_fraction : FnScope ["top", "bottom", "divisor"] ["top", "bottom"] (defScope s_fraction) := ⟨rfl, rfl, rfl, by decide +kernel, rfl, by decide +kernel, by decide +kernel⟩
theorem ok_fractionP {fg C : Addr} {dg : FuncData} {dV : Value} (F : FunD K "fraction" "fraction" s_fraction dV f fd) (B : Blt mg) (G : DefAt K mg "greatest_divisor" s_greatest_divisor fg dg ["one", "other"]) (X : BadF K mg C) :
    FnOk P w K mg base (CXF P w) 2 f fd ["top", "bottom"] (spFracP C) := by
  have OG : FnOk P w K mg base (CXF P w) 1 fg dg ["one", "other"] spGd := (ok_greatest_divisor G.F).cxf _
  refine F.okX sc_fraction (fun vs H Q E h => ?_) (fun cdv A outer s H vs Q E hr h => ?_)
  · obtain ⟨t, b, rfl, _⟩ := h
    rfl
  obtain ⟨t, b, rfl, hb, hz, h0, h1⟩ := h
  have nd := sc_fraction.nd
  refine ⟨_, pss_cons (ps_if (pt_cmpR op_eq (pv 1) pe_int (nomark _)) (pss_one (ps_raise rfl raises_fn X.e rfl X.m (pa_cons pe_str pa_nil))) pss_nil)
    (pss_cons (ps_if (pt_cmpR op_lt (pv 1) pe_int (nomark _)) pss_never pss_nil)
    (pss_cons (ps_set (i := 2) nd rfl (Or.inl rfl) (pe_callS OG hr rfl G.m G.F.kp G.b .nil passes_fn (pa_cons (pe_callB call_abs rfl B.abs bt_abs (pa_cons (pv 0) pa_nil)) (pa_cons (pv 1) pa_nil))))
    (pss_one (ps_ret (pe_tup (pa_cons (pe_op op_fdivB (pv 0) (pv 2)) (pa_cons (pe_op op_fdivB (pv 1) (pv 2)) pa_nil))))))), ?_⟩
  refine ⟨_, rfl, rfl, _, rfl, ?_⟩
  by_cases z : b = 0
  · subst z
    refine iteT ?_
    exact ⟨by show 1 <= sizeLine; decide, h0 rfl⟩
  · refine iteN (eqN z) ?_
    refine ⟨_, rfl, _, _, rfl, rfl, _, rfl, ?_⟩
    refine iteN (decide_eq_false (by omega)) ?_
    have bp : 0 < b := by omega
    refine ⟨_, rfl, t, rfl, _, rfl, _, b, rfl, abs_nonneg t, hb, ?_⟩
    rw [gd_abs]
    have g0 := gd_pos (a := t) bp
    have gl := gd_log (t := t) bp hz
    refine ⟨_, rfl, _, rfl, t, _, rfl, rfl, ⟨by omega, gl⟩, _, rfl, _, rfl, b, _, rfl, rfl, ⟨by omega, gl⟩, (by show 2 <= sizeLine; decide), fun p hp => h1 bp p hp⟩
theorem ok_fraction {fg C : Addr} {dg : FuncData} {dV : Value} {ds : List Value} (D : DefD K mg "fraction" s_fraction dV f fd ["top", "bottom"] ds) (B : Blt mg) (G : DefAt K mg "greatest_divisor" s_greatest_divisor fg dg ["one", "other"]) (X : BadF K mg C) :
    FnOk P w K mg base (CXF P w) 3 f fd ["top", "bottom"] (spFrac C) := by
  have OG : FnOk P w K mg base (CXF P w) 2 fg dg ["one", "other"] spGd := ((ok_greatest_divisor G.F).cxf _).mono (by decide)
  have OP : FnOk P w K mg base (CXF P w) 2 f fd ["top", "bottom"] (spFracP C) := ok_fractionP D.F B G X
  refine D.F.okX sc_fraction (fun vs H Q E h => ?_) (fun cdv A outer s H vs Q E hr h => ?_)
  · obtain ⟨t, b, rfl, _⟩ := h
    rfl
  obtain ⟨t, b, rfl, hz, h0, h1⟩ := h
  have nd := sc_fraction.nd
  refine ⟨_, pss_cons (ps_if (pt_cmpR op_eq (pv 1) pe_int (nomark _)) (pss_one (ps_raise rfl raises_fn X.e rfl X.m (pa_cons pe_str pa_nil))) pss_nil)
    (pss_cons (ps_if (pt_cmpR op_lt (pv 1) pe_int (nomark _)) (pss_one (ps_ret (pe_callS OP hr rfl D.m D.F.kp D.b .nil passes_fn (pa_cons (pe_un un_neg (pv 0)) (pa_cons (pe_un un_neg (pv 1)) pa_nil))))) pss_nil)
    (pss_cons (ps_set (i := 2) nd rfl (Or.inl rfl) (pe_callS OG hr rfl G.m G.F.kp G.b .nil passes_fn (pa_cons (pe_callB call_abs rfl B.abs bt_abs (pa_cons (pv 0) pa_nil)) (pa_cons (pv 1) pa_nil))))
    (pss_one (ps_ret (pe_tup (pa_cons (pe_op op_fdivB (pv 0) (pv 2)) (pa_cons (pe_op op_fdivB (pv 1) (pv 2)) pa_nil))))))), ?_⟩
  refine ⟨_, rfl, rfl, _, rfl, ?_⟩
  by_cases z : b = 0
  · subst z
    refine iteT ?_
    exact ⟨by show 1 <= sizeLine; decide, h0 rfl⟩
  · refine iteN (eqN z) ?_
    refine ⟨_, rfl, _, _, rfl, rfl, _, rfl, ?_⟩
    have h1' := h1 z
    unfold ft fb at h1'
    by_cases n : b < 0
    · rw [if_pos n, if_pos n] at h1'
      refine iteY (decide_eq_true n) ?_
      exact ⟨_, rfl, t, rfl, _, rfl, b, rfl, -t, -b, rfl, by omega, by omega, fun q => by omega, fun _ => h1'⟩
    · rw [if_neg n, if_neg n] at h1'
      refine iteN (decide_eq_false n) ?_
      have bp : 0 < b := by omega
      refine ⟨_, rfl, t, rfl, _, rfl, _, b, rfl, abs_nonneg t, by omega, ?_⟩
      rw [gd_abs]
      have g0 := gd_pos (a := t) bp
      have gl := gd_log (t := t) bp hz
      refine ⟨_, rfl, _, rfl, t, _, rfl, rfl, ⟨by omega, gl⟩, _, rfl, _, rfl, b, _, rfl, rfl, ⟨by omega, gl⟩, (by show 2 <= sizeLine; decide), fun p hp => h1' p hp⟩
end
abbrev s_Term_parts : Stmt := inClass (top 12) 0
abbrev s_Term_entries : Stmt := inClass (top 12) 5
abbrev s_Term_depth : Stmt := inClass (top 12) 6
abbrev s_Number_init : Stmt := inClass (top 13) 0
abbrev s_Number_told : Stmt := inClass (top 13) 1
abbrev s_Number_shown : Stmt := inClass (top 13) 2
abbrev s_Number_put : Stmt := inClass (top 13) 3
abbrev s_Entry_init : Stmt := inClass (top 14) 0
abbrev s_Entry_told : Stmt := inClass (top 14) 1
abbrev s_Entry_shown : Stmt := inClass (top 14) 2
abbrev s_Entry_put : Stmt := inClass (top 14) 3
abbrev s_Entry_entries : Stmt := inClass (top 14) 5
abbrev s_Negative_init : Stmt := inClass (top 15) 0
abbrev s_Negative_parts : Stmt := inClass (top 15) 1
abbrev s_Negative_told : Stmt := inClass (top 15) 2
abbrev s_Negative_shown : Stmt := inClass (top 15) 3
abbrev s_Negative_put : Stmt := inClass (top 15) 4
abbrev s_Joined_init : Stmt := inClass (top 16) 0
abbrev s_Joined_parts : Stmt := inClass (top 16) 1
abbrev s_Joined_told : Stmt := inClass (top 16) 2
abbrev s_Joined_shown : Stmt := inClass (top 16) 3
abbrev s_Plus_init : Stmt := inClass (top 17) 0
abbrev s_Plus_put : Stmt := inClass (top 17) 1
abbrev s_Minus_init : Stmt := inClass (top 18) 0
abbrev s_Minus_put : Stmt := inClass (top 18) 1
abbrev s_Times_init : Stmt := inClass (top 19) 0
abbrev s_Times_put : Stmt := inClass (top 19) 1
abbrev s_Sum_init : Stmt := inClass (top 20) 0
abbrev s_Sum_parts : Stmt := inClass (top 20) 1
abbrev s_Sum_told : Stmt := inClass (top 20) 2
abbrev s_Sum_shown : Stmt := inClass (top 20) 3
abbrev s_Sum_put : Stmt := inClass (top 20) 4
inductive Kd where
  | num | ent | neg | bin (w : Fin 3) | sum
def KdD (c : Kd -> Addr) : Addr -> Prop := fun C => ∃ k, C = c k
def flds : List Str := ["worth", "name", "places", "one", "word", "mark", "other", "binder", "group"]
def t_parts : Kd -> Stmt
  | .num => s_Term_parts
  | .ent => s_Term_parts
  | .neg => s_Negative_parts
  | .bin _ => s_Joined_parts
  | .sum => s_Sum_parts
def q_parts : Kd -> Str
  | .num => "Term.parts"
  | .ent => "Term.parts"
  | .neg => "Negative.parts"
  | .bin _ => "Joined.parts"
  | .sum => "Sum.parts"
def t_told : Kd -> Stmt
  | .num => s_Number_told
  | .ent => s_Entry_told
  | .neg => s_Negative_told
  | .bin _ => s_Joined_told
  | .sum => s_Sum_told
def q_told : Kd -> Str
  | .num => "Number.told"
  | .ent => "Entry.told"
  | .neg => "Negative.told"
  | .bin _ => "Joined.told"
  | .sum => "Sum.told"
def t_shown : Kd -> Stmt
  | .num => s_Number_shown
  | .ent => s_Entry_shown
  | .neg => s_Negative_shown
  | .bin _ => s_Joined_shown
  | .sum => s_Sum_shown
def q_shown : Kd -> Str
  | .num => "Number.shown"
  | .ent => "Entry.shown"
  | .neg => "Negative.shown"
  | .bin _ => "Joined.shown"
  | .sum => "Sum.shown"
def t_put : Kd -> Stmt
  | .num => s_Number_put
  | .ent => s_Entry_put
  | .neg => s_Negative_put
  | .bin 0 => s_Plus_put
  | .bin 1 => s_Minus_put
  | .bin 2 => s_Times_put
  | .sum => s_Sum_put
def q_put : Kd -> Str
  | .num => "Number.put"
  | .ent => "Entry.put"
  | .neg => "Negative.put"
  | .bin 0 => "Plus.put"
  | .bin 1 => "Minus.put"
  | .bin 2 => "Times.put"
  | .sum => "Sum.put"
def t_entries : Kd -> Stmt
  | .num => s_Term_entries
  | .ent => s_Entry_entries
  | .neg => s_Term_entries
  | .bin _ => s_Term_entries
  | .sum => s_Term_entries
def q_entries : Kd -> Str
  | .num => "Term.entries"
  | .ent => "Entry.entries"
  | .neg => "Term.entries"
  | .bin _ => "Term.entries"
  | .sum => "Term.entries"
def t_depth : Kd -> Stmt
  | .num => s_Term_depth
  | .ent => s_Term_depth
  | .neg => s_Term_depth
  | .bin _ => s_Term_depth
  | .sum => s_Term_depth
def q_depth : Kd -> Str
  | .num => "Term.depth"
  | .ent => "Term.depth"
  | .neg => "Term.depth"
  | .bin _ => "Term.depth"
  | .sum => "Term.depth"
def t_init : Kd -> Stmt
  | .num => s_Number_init
  | .ent => s_Entry_init
  | .neg => s_Negative_init
  | .bin 0 => s_Plus_init
  | .bin 1 => s_Minus_init
  | .bin 2 => s_Times_init
  | .sum => s_Sum_init
def q_init : Kd -> Str
  | .num => "Number.__init__"
  | .ent => "Entry.__init__"
  | .neg => "Negative.__init__"
  | .bin 0 => "Plus.__init__"
  | .bin 1 => "Minus.__init__"
  | .bin 2 => "Times.__init__"
  | .sum => "Sum.__init__"
def p_init : Kd -> List Str
  | .num => ["self", "fraction"]
  | .ent => ["self", "name", "keys"]
  | .neg => ["self", "one"]
  | .bin 0 => ["self", "one", "other"]
  | .bin 1 => ["self", "one", "other"]
  | .bin 2 => ["self", "one", "other"]
  | .sum => ["self", "binder", "group", "one"]
set_option genInjectivity false in
set_option genSizeOfSpec false in
structure AllD (K : PySem.W.Frag) (mg : Str -> Option Value) where
  f_greatest_divisor : Addr
  d_greatest_divisor : FuncData
  D_greatest_divisor : DefAt K mg "greatest_divisor" s_greatest_divisor f_greatest_divisor d_greatest_divisor ["one", "other"]
  f_fraction : Addr
  d_fraction : FuncData
  v_fraction : Value
  z_fraction : List Value
  D_fraction : DefD K mg "fraction" s_fraction v_fraction f_fraction d_fraction ["top", "bottom"] z_fraction
  f_minus : Addr
  d_minus : FuncData
  D_minus : DefAt K mg "minus" s_minus f_minus d_minus ["one", "other"]
  f_sign : Addr
  d_sign : FuncData
  D_sign : DefAt K mg "sign" s_sign f_sign d_sign ["one"]
  f_shown_fraction : Addr
  d_shown_fraction : FuncData
  D_shown_fraction : DefAt K mg "shown_fraction" s_shown_fraction f_shown_fraction d_shown_fraction ["one"]
  f_l_at : Addr
  d_l_at : FuncData
  D_l_at : DefAt K mg "_law_at" s_l_at f_l_at d_l_at ["_law_script", "_law_k"]
  f_l_mixed : Addr
  d_l_mixed : FuncData
  D_l_mixed : DefAt K mg "_law_mixed" s_l_mixed f_l_mixed d_l_mixed ["_law_cell", "_law_k"]
  f_l_reserved : Addr
  d_l_reserved : FuncData
  D_l_reserved : DefAt K mg "_law_reserved" s_l_reserved f_l_reserved d_l_reserved []
  f_l_pool : Addr
  d_l_pool : FuncData
  D_l_pool : DefAt K mg "_law_pool" s_l_pool f_l_pool d_l_pool ["_law_cell"]
  f_l_fraction : Addr
  d_l_fraction : FuncData
  D_l_fraction : DefAt K mg "_law_fraction" s_l_fraction f_l_fraction d_l_fraction ["_law_cell"]
  f_l_tree : Addr
  d_l_tree : FuncData
  D_l_tree : DefAt K mg "_law_tree" s_l_tree f_l_tree d_l_tree ["_law_cell", "_law_deep", "_law_sums", "_law_pool_here"]
  f_l_less : Addr
  d_l_less : FuncData
  D_l_less : DefAt K mg "_law_less" s_l_less f_l_less d_l_less ["_law_tree_here", "_law_cell"]
  f_l_made : Addr
  d_l_made : FuncData
  D_l_made : DefAt K mg "_law_made" s_l_made f_l_made d_l_made ["_law_tree_here"]
  f_l_parts : Addr
  d_l_parts : FuncData
  D_l_parts : DefAt K mg "_law_parts" s_l_parts f_l_parts d_l_parts ["_law_tree_here"]
  f_l_number_text : Addr
  d_l_number_text : FuncData
  D_l_number_text : DefAt K mg "_law_number_text" s_l_number_text f_l_number_text d_l_number_text ["_law_one"]
  f_l_shown : Addr
  d_l_shown : FuncData
  D_l_shown : DefAt K mg "_law_shown" s_l_shown f_l_shown d_l_shown ["_law_tree_here"]
  f_l_put : Addr
  d_l_put : FuncData
  D_l_put : DefAt K mg "_law_put" s_l_put f_l_put d_l_put ["_law_tree_here", "_law_binder", "_law_member"]
  f_l_entries : Addr
  d_l_entries : FuncData
  D_l_entries : DefAt K mg "_law_entries" s_l_entries f_l_entries d_l_entries ["_law_tree_here"]
  f_l_depth : Addr
  d_l_depth : FuncData
  D_l_depth : DefAt K mg "_law_depth" s_l_depth f_l_depth d_l_depth ["_law_tree_here"]
  f_l_good : Addr
  d_l_good : FuncData
  D_l_good : DefAt K mg "_law_good" s_l_good f_l_good d_l_good ["_law_term", "_law_tree_here"]
  f_law : Addr
  d_law : FuncData
  D_law : DefAt K mg "law" s_law f_law d_law ["_law_script"]
  a_NOUGHT : Addr
  m_NOUGHT : mg "NOUGHT" = some (.ref a_NOUGHT)
  r_NOUGHT : ∀ G, Rep K G (.tup [.int 0, .int 1]) (.ref a_NOUGHT)
  c_BadFraction : Addr
  x_BadFraction : BadF K mg c_BadFraction
  c : Kd -> Addr
  cT : Addr
  m_Term : mg "Term" = some (.ref cT)
  cJ : Addr
  m_Joined : mg "Joined" = some (.ref cJ)
  m_Number : mg "Number" = some (.ref (c .num))
  m_Entry : mg "Entry" = some (.ref (c .ent))
  m_Negative : mg "Negative" = some (.ref (c .neg))
  m_Plus : mg "Plus" = some (.ref (c (.bin 0)))
  m_Minus : mg "Minus" = some (.ref (c (.bin 1)))
  m_Times : mg "Times" = some (.ref (c (.bin 2)))
  m_Sum : mg "Sum" = some (.ref (c .sum))
  cl : ∀ k, Cls K (c k)
  na : ∀ k f, f ∈ flds -> NoAttr K (c k) f
  isi : ∀ k, IsiC K (c k) /\ PySem.W.kitOne K (.ref (c k)) (.ref cT) = some true
  f_parts : Kd -> Addr
  d_parts : Kd -> FuncData
  M_parts : ∀ k, Meth K (c k) "parts" (f_parts k)
  F_parts : ∀ k, Fun K "parts" (q_parts k) (t_parts k) (f_parts k) (d_parts k)
  b_parts : ∀ k, Binds K (d_parts k) ["self"] []
  f_told : Kd -> Addr
  d_told : Kd -> FuncData
  M_told : ∀ k, Meth K (c k) "told" (f_told k)
  F_told : ∀ k, Fun K "told" (q_told k) (t_told k) (f_told k) (d_told k)
  b_told : ∀ k, Binds K (d_told k) ["self"] []
  f_shown : Kd -> Addr
  d_shown : Kd -> FuncData
  M_shown : ∀ k, Meth K (c k) "shown" (f_shown k)
  F_shown : ∀ k, Fun K "shown" (q_shown k) (t_shown k) (f_shown k) (d_shown k)
  b_shown : ∀ k, Binds K (d_shown k) ["self"] []
  f_put : Kd -> Addr
  d_put : Kd -> FuncData
  M_put : ∀ k, Meth K (c k) "put" (f_put k)
  F_put : ∀ k, Fun K "put" (q_put k) (t_put k) (f_put k) (d_put k)
  b_put : ∀ k, Binds K (d_put k) ["self", "binder", "member"] []
  f_entries : Kd -> Addr
  d_entries : Kd -> FuncData
  M_entries : ∀ k, Meth K (c k) "entries" (f_entries k)
  F_entries : ∀ k, Fun K "entries" (q_entries k) (t_entries k) (f_entries k) (d_entries k)
  b_entries : ∀ k, Binds K (d_entries k) ["self"] []
  f_depth : Kd -> Addr
  d_depth : Kd -> FuncData
  M_depth : ∀ k, Meth K (c k) "depth" (f_depth k)
  F_depth : ∀ k, Fun K "depth" (q_depth k) (t_depth k) (f_depth k) (d_depth k)
  b_depth : ∀ k, Binds K (d_depth k) ["self"] []
  fi : Kd -> Addr
  di : Kd -> FuncData
  mkI : ∀ k, Mk K (c k) (fi k)
  Fi : ∀ k, Fun K "__init__" (q_init k) (t_init k) (fi k) (di k)
  bi : ∀ k, Binds K (di k) (p_init k) []
  fJ : Addr
  dJ : FuncData
  cm : ClsM K cJ "__init__" fJ
  FJ : Fun K "__init__" "Joined.__init__" s_Joined_init fJ dJ
  bJ : Binds K dJ ["self", "word", "mark", "one", "other"] []
theorem AllD.fld {K : PySem.W.Frag} {mg : Str -> Option Value} (A : AllD K mg) {f : Str} (h : f ∈ flds) : ∀ C, KdD A.c C -> Cls K C /\ NoAttr K C f := fun C ⟨k, e⟩ => by subst e; exact ⟨A.cl k, A.na k f h⟩
def encF (a : Fq) : Tv := .tup [.int a.1, .int a.2]
def C_fraction : Ct := fun ts P => ∃ t b, ts = [.int t, .int b] /\ b.natAbs < BIG /\ b ≠ 0 /\ P (.ok (.va (encF (mkF t b))))
theorem ok_fractionV {P : Program} {w : World} {K : PySem.W.Frag} {mg : Str -> Option Value} {base : Heap} (A : AllD K mg) (B : Blt mg) : FnOk P w K mg base (CXF P w) 3 A.f_fraction A.d_fraction ["top", "bottom"] (spV K C_fraction) :=
  (ok_fraction A.D_fraction B A.D_greatest_divisor A.x_BadFraction).imp fun vs H Q E ⟨p, ts, P, u, h2, r, ⟨t, b, e, hb, h0, h1⟩, hok, her⟩ => by
    subst e
    obtain ⟨x, y, rfl, r1, r2⟩ := two_of r
    rw [rep_int.mp r1, rep_int.mp r2]
    refine ⟨t, b, rfl, hb, fun z => absurd z h0, fun z a n => ?_⟩
    have s0 : Same (p 0) (upd (p 0) a (.tup [.int (ft t b), .int (fb t b)])) := fun c o' e => by rw [upd_ne (ne_of_none e (u.fresh n 0))]; exact e
    refine hok _ h1 _ _ _ (grow0 s0) (u.alloc n 0 _) (fun j hj => by rw [pset_ne (by omega)]; exact h2 j (by omega)) ⟨by rw [pset_ne (by decide)]; exact h2 2 (by decide), _, rfl, ?_⟩
    rw [pset_at]
    exact rep_tup.mpr ⟨a, _, rfl, SqN.of upd_same, .cons (rep_int.mpr rfl) (.cons (rep_int.mpr rfl) .nil)⟩
theorem lt_BMi {n k : Nat} (h : n < 2 ^ k) (hk : k <= 100000) : n < BM := lt_BM h (Nat.le_trans hk (by decide))
theorem Fb.m1 {k : Nat} {a : Fq} (h : Fb k a) (hk : k <= 100000) : a.1.natAbs < BM := lt_BMi h.1 hk
theorem Fb.m2 {k : Nat} {a : Fq} (h : Fb k a) (hk : k <= 100000) : a.2.natAbs < BM := lt_BMi h.2 hk
def mnF (a b : Fq) : Fq := mkF (a.1 * b.2 - b.1 * a.2) (a.2 * b.2)
def C_bin (f : Fq -> Fq -> Fq) : Ct := fun ts P => ∃ a b j k, ts = [encF a, encF b] /\ Gd j a /\ Gd k b /\ j + k <= 7000 /\ P (.ok (.va (encF (f a b))))
theorem bin_len {f : Fq -> Fq -> Fq} : ∀ ts Q, C_bin f ts Q -> ts.length = 2 := fun ts Q ⟨_, _, _, _, e, _⟩ => by rw [e]; rfl
theorem Gd.m {k : Nat} {a : Fq} (h : Gd k a) (hk : k <= 100000) : a.1.natAbs < BM /\ a.2.natAbs < BM := ⟨h.2.m1 hk, h.2.m2 hk⟩
inductive Trm where
  | num (a : Fq) | ent (n : Str) (ks : List Str) | neg (t : Trm) | bin (w : Fin 3) (a b : Trm) | sum (b g : Str) (t : Trm)
def kd : Trm -> Kd
  | .num _ => .num
  | .ent _ _ => .ent
  | .neg _ => .neg
  | .bin w _ _ => .bin w
  | .sum _ _ _ => .sum
def fldK : Kd -> List Str
  | .num => ["worth"]
  | .ent => ["name", "places"]
  | .neg => ["one"]
  | .bin _ => ["word", "mark", "one", "other"]
  | .sum => ["binder", "group", "one"]
def wordB : Fin 3 -> Str
  | 0 => "plus"
  | 1 => "minus"
  | 2 => "times"
def markB : Fin 3 -> Str
  | 0 => "+"
  | 1 => "-"
  | 2 => "*"
def encK (ks : List Str) : Tv := .tup (ks.map Tv.str)
def vals (c : Kd -> Addr) : Trm -> List Tv
  | .num a => [encF a]
  | .ent n ks => [.str n, encK ks]
  | .neg t => [.obj (c (kd t)) (fldK (kd t)) (vals c t)]
  | .bin w a b => [.str (wordB w), .str (markB w), .obj (c (kd a)) (fldK (kd a)) (vals c a), .obj (c (kd b)) (fldK (kd b)) (vals c b)]
  | .sum b g t => [.str b, .str g, .obj (c (kd t)) (fldK (kd t)) (vals c t)]
abbrev enc (c : Kd -> Addr) (t : Trm) : Tv := .obj (c (kd t)) (fldK (kd t)) (vals c t)
def telL : Trm -> List Tv
  | .num a => [.str "number", encF a]
  | .ent n ks => [.str "entry", .str n, encK ks]
  | .neg t => [.str "negative", .tup (telL t)]
  | .bin w a b => [.str (wordB w), .tup (telL a), .tup (telL b)]
  | .sum b g t => [.str "sum", .str b, .str g, .tup (telL t)]
abbrev tel (t : Trm) : Tv := .tup (telL t)
def prt : Trm -> List Trm
  | .num _ => []
  | .ent _ _ => []
  | .neg t => [t]
  | .bin _ a b => [a, b]
  | .sum _ _ t => [t]
def dp : Trm -> Nat
  | .num _ => 1
  | .ent _ _ => 1
  | .neg t => 1 + dp t
  | .bin _ a b => 1 + max (dp a) (dp b)
  | .sum _ _ t => 1 + dp t
theorem dp_pos : ∀ t : Trm, 0 < dp t
  | .num _ => by unfold dp; omega
  | .ent _ _ => by unfold dp; omega
  | .neg t => by unfold dp; omega
  | .bin _ a b => by unfold dp; omega
  | .sum _ _ t => by unfold dp; omega
def iT (i : Int) : Str := Str.ofString (toString i)
def nT (a : Fq) : Str := if a.2 = 1 then iT a.1 else iT a.1 ++ "/" ++ iT a.2
def shN (a : Fq) : Str := if a.1 < 0 then "(- " ++ nT (-a.1, a.2) ++ ")" else nT a
def shw : Trm -> Str
  | .num a => shN a
  | .ent n ks => if ks = [] then n else n ++ "(" ++ Txt.join ", " ks ++ ")"
  | .neg t => "(- " ++ shw t ++ ")"
  | .bin w a b => "(" ++ shw a ++ " " ++ markB w ++ " " ++ shw b ++ ")"
  | .sum b g t => "sum(" ++ b ++ " in " ++ g ++ ", " ++ shw t ++ ")"
def putK (b m : Str) (ks : List Str) : List Str := ks.map fun k => if k = b then m else k
def putT (b m : Str) : Trm -> Trm
  | .num a => .num a
  | .ent n ks => .ent n (putK b m ks)
  | .neg t => .neg (putT b m t)
  | .bin w x y => .bin w (putT b m x) (putT b m y)
  | .sum d g t => if b = d then .sum d g t else .sum d g (putT b m t)
def ents : Trm -> List Tv
  | .num _ => []
  | .ent n ks => [.tup [.str n, encK ks]]
  | .neg t => ents t
  | .bin _ a b => ents a ++ ents b
  | .sum _ _ t => ents t
def Sn (x : Str) : Prop := x.length <= 100
def Tok : Trm -> Prop
  | .num a => Gd 40 a
  | .ent n ks => Sn n /\ ks.length <= 10 /\ ∀ k ∈ ks, Sn k
  | .neg t => Tok t
  | .bin _ a b => Tok a /\ Tok b
  | .sum b g t => Sn b /\ Sn g /\ Tok t
theorem prt_dp : ∀ {t s : Trm}, s ∈ prt t -> dp s < dp t
  | .num _, _, h => by cases h
  | .ent _ _, _, h => by cases h
  | .neg t, s, h => by rw [List.mem_singleton.mp h]; show _ < 1 + dp t; omega
  | .bin _ a b, s, h => by
    rcases List.mem_cons.mp h with e | e
    · subst e; show _ < 1 + max (dp s) (dp b); omega
    · rw [List.mem_singleton.mp e]; show _ < 1 + max (dp a) (dp b); omega
  | .sum _ _ t, s, h => by rw [List.mem_singleton.mp h]; show _ < 1 + dp t; omega
theorem prt_ok : ∀ {t s : Trm}, Tok t -> s ∈ prt t -> Tok s
  | .num _, _, _, h => by cases h
  | .ent _ _, _, _, h => by cases h
  | .neg t, s, k, h => by rw [List.mem_singleton.mp h]; exact k
  | .bin _ a b, s, k, h => by
    rcases List.mem_cons.mp h with e | e
    · subst e; exact k.1
    · rw [List.mem_singleton.mp e]; exact k.2
  | .sum _ _ t, s, k, h => by rw [List.mem_singleton.mp h]; exact k.2.2
def CM (c : Kd -> Addr) (res : Trm -> Tv) (n : Nat) (k : Kd) : Ct := fun ts P => ∃ t, kd t = k /\ ts = [enc c t] /\ dp t <= n /\ Tok t /\ P (.ok (.va (res t)))
def DM (c : Kd -> Addr) (q : Kd -> Ct) : Addr -> Ct -> Prop := fun C ct => ∃ k, C = c k /\ ct = q k
theorem CM.len {c : Kd -> Addr} {res : Trm -> Tv} {n : Nat} {k : Kd} : ∀ ts Q, CM c res n k ts Q -> ts.length = 1 := fun ts Q ⟨_, _, e, _⟩ => by rw [e]; rfl
theorem methV_of {X : Cx} {E : St -> XK} {m : Str} {c f : Kd -> Addr} {d : Kd -> FuncData} {ps : List Str} {lv : Nat} {q : Kd -> Ct} (F : ∀ k, FnOk X.prog X.w X.K X.mg X.base (CXF X.prog X.w) lv (f k) (d k) ps (spV X.K (q k))) (M : ∀ k, Meth X.K (c k) m (f k)) (cl : ∀ k, Cls X.K (c k))
    (b : ∀ k, Binds X.K (d k) ps []) (hr : Room lv X.A) (hx : PassesS (CXF X.prog X.w) X E) : MethV X X.K E m (DM c q) := fun C ct ⟨k, e1, e2⟩ => by
  subst e1 e2
  exact ⟨cl k, _, f k, d k, ps, lv, M k, F k, hr, b k, hx⟩
end Pw
set_option Elab.async false
set_option linter.all false
set_option maxRecDepth 100000
set_option maxHeartbeats 4000000
namespace Pw
open PySem L2
seal PE PT PW PA PS PSs PG PGs PI PIf PO PJ
section
variable {P : Program} {w : World} {K : PySem.W.Frag} {mg : Str -> Option Value} {base : Heap} {f : Addr} {fd : FuncData}
theorem sc_Number_init : FnScope ["self", "fraction"] ["self", "fraction"] (defScope s_Number_init) := ⟨rfl, rfl, rfl, by decide +kernel, rfl, by decide +kernel, by decide +kernel⟩
theorem lk_Number_init_self : Lk s_Number_init "self" .local := by decide +kernel
theorem lk_Number_init_fraction : Lk s_Number_init "fraction" .local := by decide +kernel
def W_Number : List Tv -> (List Tv -> Prop) -> Prop := fun ts P => ∃ a0, ts = [a0] /\ P [a0]
theorem ok_ini_Number (A : AllD K mg) : FnOk P w K mg base CX0 1 (A.fi .num) (A.di .num) ["self", "fraction"] (spI K (A.c .num) ["worth"] W_Number) := by
  refine (A.Fi .num).ok sc_Number_init (spI.len fun ts P ⟨_, e, _⟩ => by rw [e]; rfl) fun cdv A_ outer s H vs Q E hr ⟨x, dx, us, p, ts, P', e, ne, u, e2, h3, r, ⟨a0, e1, hP⟩, k⟩ => ⟨_, pss_one (ps_fld (pe_var (i := 0) rfl (Or.inl lk_Number_init_self)) (pe_var (i := 1) rfl (Or.inl lk_Number_init_fraction)) rfl), ?_⟩
  subst e e1
  obtain ⟨v0, r0, rfl, p0, h0⟩ := repL_cons.mp r
  obtain rfl := repL_nil.mp h0
  have hx : H x = some (.ins (A.c .num) dx []) := u.sub 2 _ _ (by rw [e2]; exact insH_at)
  refine ⟨_, rfl, _, rfl, x, A.c .num, dx, _, rfl, hx, A.cl .num, A.na .num _ (by decide), Nat.le_of_ble_eq_true rfl, ?_⟩
  rw [show putF _ _ [] = [_] from rfl]
  exact ini_end (fs := ["worth"]) (zs := [v0]) u e2 h3 k hP rfl (RepL.cons p0 RepL.nil)
theorem sc_Negative_init : FnScope ["self", "one"] ["self", "one"] (defScope s_Negative_init) := ⟨rfl, rfl, rfl, by decide +kernel, rfl, by decide +kernel, by decide +kernel⟩
theorem lk_Negative_init_self : Lk s_Negative_init "self" .local := by decide +kernel
theorem lk_Negative_init_one : Lk s_Negative_init "one" .local := by decide +kernel
def W_Negative : List Tv -> (List Tv -> Prop) -> Prop := fun ts P => ∃ a0, ts = [a0] /\ P [a0]
theorem ok_ini_Negative (A : AllD K mg) : FnOk P w K mg base CX0 1 (A.fi .neg) (A.di .neg) ["self", "one"] (spI K (A.c .neg) ["one"] W_Negative) := by
  refine (A.Fi .neg).ok sc_Negative_init (spI.len fun ts P ⟨_, e, _⟩ => by rw [e]; rfl) fun cdv A_ outer s H vs Q E hr ⟨x, dx, us, p, ts, P', e, ne, u, e2, h3, r, ⟨a0, e1, hP⟩, k⟩ => ⟨_, pss_one (ps_fld (pe_var (i := 0) rfl (Or.inl lk_Negative_init_self)) (pe_var (i := 1) rfl (Or.inl lk_Negative_init_one)) rfl), ?_⟩
  subst e e1
  obtain ⟨v0, r0, rfl, p0, h0⟩ := repL_cons.mp r
  obtain rfl := repL_nil.mp h0
  have hx : H x = some (.ins (A.c .neg) dx []) := u.sub 2 _ _ (by rw [e2]; exact insH_at)
  refine ⟨_, rfl, _, rfl, x, A.c .neg, dx, _, rfl, hx, A.cl .neg, A.na .neg _ (by decide), Nat.le_of_ble_eq_true rfl, ?_⟩
  rw [show putF _ _ [] = [_] from rfl]
  exact ini_end (fs := ["one"]) (zs := [v0]) u e2 h3 k hP rfl (RepL.cons p0 RepL.nil)
theorem sc_Sum_init : FnScope ["self", "binder", "group", "one"] ["self", "binder", "group", "one"] (defScope s_Sum_init) := ⟨rfl, rfl, rfl, by decide +kernel, rfl, by decide +kernel, by decide +kernel⟩
theorem lk_Sum_init_self : Lk s_Sum_init "self" .local := by decide +kernel
theorem lk_Sum_init_binder : Lk s_Sum_init "binder" .local := by decide +kernel
theorem lk_Sum_init_group : Lk s_Sum_init "group" .local := by decide +kernel
theorem lk_Sum_init_one : Lk s_Sum_init "one" .local := by decide +kernel
def W_Sum : List Tv -> (List Tv -> Prop) -> Prop := fun ts P => ∃ a0 a1 a2, ts = [a0, a1, a2] /\ P [a0, a1, a2]
theorem ok_ini_Sum (A : AllD K mg) : FnOk P w K mg base CX0 1 (A.fi .sum) (A.di .sum) ["self", "binder", "group", "one"] (spI K (A.c .sum) ["binder", "group", "one"] W_Sum) := by
  refine (A.Fi .sum).ok sc_Sum_init (spI.len fun ts P ⟨_, _, _, e, _⟩ => by rw [e]; rfl) fun cdv A_ outer s H vs Q E hr ⟨x, dx, us, p, ts, P', e, ne, u, e2, h3, r, ⟨a0, a1, a2, e1, hP⟩, k⟩ => ⟨_, pss_cons (ps_fld (pe_var (i := 0) rfl (Or.inl lk_Sum_init_self)) (pe_var (i := 1) rfl (Or.inl lk_Sum_init_binder)) rfl) (pss_cons (ps_fld (pe_var (i := 0) rfl (Or.inl lk_Sum_init_self)) (pe_var (i := 2) rfl (Or.inl lk_Sum_init_group)) rfl) (pss_one (ps_fld (pe_var (i := 0) rfl (Or.inl lk_Sum_init_self)) (pe_var (i := 3) rfl (Or.inl lk_Sum_init_one)) rfl))), ?_⟩
  subst e e1
  obtain ⟨v0, r0, rfl, p0, h0⟩ := repL_cons.mp r
  obtain ⟨v1, r1, rfl, p1, h1⟩ := repL_cons.mp h0
  obtain ⟨v2, r2, rfl, p2, h2⟩ := repL_cons.mp h1
  obtain rfl := repL_nil.mp h2
  have hx : H x = some (.ins (A.c .sum) dx []) := u.sub 2 _ _ (by rw [e2]; exact insH_at)
  refine ⟨_, rfl, _, rfl, x, A.c .sum, dx, _, rfl, hx, A.cl .sum, A.na .sum _ (by decide), Nat.le_of_ble_eq_true rfl, _, rfl, _, rfl, x, A.c .sum, dx, _, rfl, upd_same, A.cl .sum, A.na .sum _ (by decide), Nat.le_of_ble_eq_true rfl, _, rfl, _, rfl, x, A.c .sum, dx, _, rfl, upd_same, A.cl .sum, A.na .sum _ (by decide), Nat.le_of_ble_eq_true rfl, ?_⟩
  rw [upd_upd, upd_upd]
  exact ini_end (fs := ["binder", "group", "one"]) (zs := [v0, v1, v2]) u e2 h3 k hP rfl (RepL.cons p0 (RepL.cons p1 (RepL.cons p2 RepL.nil)))
theorem sc_Entry_init : FnScope ["self", "name", "keys"] ["self", "name", "keys"] (defScope s_Entry_init) := ⟨rfl, rfl, rfl, by decide +kernel, rfl, by decide +kernel, by decide +kernel⟩
theorem lk_Entry_init_self : Lk s_Entry_init "self" .local := by decide +kernel
theorem lk_Entry_init_name : Lk s_Entry_init "name" .local := by decide +kernel
theorem lk_Entry_init_keys : Lk s_Entry_init "keys" .local := by decide +kernel
theorem lk_Entry_init_tuple : Lk s_Entry_init "tuple" .globalImplicit := by decide +kernel
def W_Entry : List Tv -> (List Tv -> Prop) -> Prop := fun ts P => ∃ a0 ks, ts = [a0, encK ks] /\ P [a0, encK ks]
theorem ok_ini_Entry (A : AllD K mg) (B : Blt mg) : FnOk P w K mg base CX0 1 (A.fi .ent) (A.di .ent) ["self", "name", "keys"] (spI K (A.c .ent) ["name", "places"] W_Entry) := by
  refine (A.Fi .ent).ok sc_Entry_init (spI.len fun ts P ⟨_, _, e, _⟩ => by rw [e]; rfl) fun cdv A_ outer s H vs Q E hr ⟨x, dx, us, p, ts, P', e, ne, u, e2, h3, r, ⟨a0, ks, e1, hP⟩, k⟩ => ⟨_, pss_cons (ps_fld (pe_var (i := 0) rfl (Or.inl lk_Entry_init_self)) (pe_var (i := 1) rfl (Or.inl lk_Entry_init_name)) rfl)
    (pss_one (ps_fld (pe_var (i := 0) rfl (Or.inl lk_Entry_init_self)) (pe_callTy (f_tuple (K := K) rfl) lk_Entry_init_tuple B.tuple bt_tuple (pa_cons (pe_var (i := 2) rfl (Or.inl lk_Entry_init_keys)) pa_nil)) rfl)), ?_⟩
  subst e e1
  obtain ⟨v0, r0, rfl, p0, h0⟩ := repL_cons.mp r
  obtain ⟨v1, r1, rfl, p1, h1⟩ := repL_cons.mp h0
  obtain rfl := repL_nil.mp h1
  have hx : H x = some (.ins (A.c .ent) dx []) := u.sub 2 _ _ (by rw [e2]; exact insH_at)
  refine ⟨_, rfl, _, rfl, x, A.c .ent, dx, _, rfl, hx, A.cl .ent, A.na .ent _ (by decide), Nat.le_of_ble_eq_true rfl, _, rfl, ?_⟩
  have u2 := ini_put (g' := putF "name" v0 []) u e2
  refine ⟨_, [encK ks], fun t => t = encK ks, u2, RepL.cons (by rw [pset_ne (by decide)]; exact p1) RepL.nil, rfl, fun t et v G' H' sm un rp => ?_⟩
  subst et
  rw [pset_ne (by decide)] at sm
  have hx2 : H' x = some (.ins (A.c .ent) dx (putF "name" v0 [])) := (un.mem _ _).mpr ⟨2, by rw [pset_ne (by decide), pset_at]; exact insH_at⟩
  refine ⟨_, rfl, x, A.c .ent, dx, _, rfl, hx2, A.cl .ent, A.na .ent _ (by decide), Nat.le_of_ble_eq_true rfl, ?_⟩
  have e3 : pset (pset p 2 (insH x dx (A.c .ent) (putF "name" v0 []))) 0 G' 2 = insH x dx (A.c .ent) (putF "name" v0 []) := by rw [pset_ne (by decide), pset_at]
  refine ini_end (fs := ["name", "places"]) (zs := [v0, v]) un e3 (fun j hj => by rw [pset_ne (by omega), pset_ne (by omega)]; exact h3 j hj) (fun l hl zs p' H2 g u' e' h' hf rz => k l hl zs p' H2 ⟨?_, ?_⟩ u' e' h' hf rz) hP rfl (RepL.cons ?_ (RepL.cons (by rw [pset_at]; exact rp) RepL.nil))
  · have := g.same; rw [pset_at] at this; exact sm.trans this
  · have := g.fr; rw [pset_ne (by decide), pset_ne (by decide)] at this; exact this
  · rw [pset_at]; exact p0.up sm
theorem sc_Joined_init : FnScope ["self", "word", "mark", "one", "other"] ["self", "word", "mark", "one", "other"] (defScope s_Joined_init) := ⟨rfl, rfl, rfl, by decide +kernel, rfl, by decide +kernel, by decide +kernel⟩
theorem lk_Joined_init_self : Lk s_Joined_init "self" .local := by decide +kernel
theorem lk_Joined_init_word : Lk s_Joined_init "word" .local := by decide +kernel
theorem lk_Joined_init_mark : Lk s_Joined_init "mark" .local := by decide +kernel
theorem lk_Joined_init_one : Lk s_Joined_init "one" .local := by decide +kernel
theorem lk_Joined_init_other : Lk s_Joined_init "other" .local := by decide +kernel
def W4 : List Tv -> (List Tv -> Prop) -> Prop := fun ts P => ∃ a0 a1 a2 a3, ts = [a0, a1, a2, a3] /\ P [a0, a1, a2, a3]
theorem ok_ini_Joined (A : AllD K mg) (b : Fin 3) : FnOk P w K mg base CX0 1 A.fJ A.dJ ["self", "word", "mark", "one", "other"] (spI K (A.c (.bin b)) ["word", "mark", "one", "other"] W4) := by
  refine A.FJ.ok sc_Joined_init (spI.len fun ts P ⟨_, _, _, _, e, _⟩ => by rw [e]; rfl) fun cdv A_ outer s H vs Q E hr ⟨x, dx, us, p, ts, P', e, ne, u, e2, h3, r, ⟨a0, a1, a2, a3, e1, hP⟩, k⟩ => ⟨_, pss_cons (ps_fld (pe_var (i := 0) rfl (Or.inl lk_Joined_init_self)) (pe_var (i := 1) rfl (Or.inl lk_Joined_init_word)) rfl) (pss_cons (ps_fld (pe_var (i := 0) rfl (Or.inl lk_Joined_init_self)) (pe_var (i := 2) rfl (Or.inl lk_Joined_init_mark)) rfl) (pss_cons (ps_fld (pe_var (i := 0) rfl (Or.inl lk_Joined_init_self)) (pe_var (i := 3) rfl (Or.inl lk_Joined_init_one)) rfl) (pss_one (ps_fld (pe_var (i := 0) rfl (Or.inl lk_Joined_init_self)) (pe_var (i := 4) rfl (Or.inl lk_Joined_init_other)) rfl)))), ?_⟩
  subst e e1
  obtain ⟨v0, r0, rfl, p0, h0⟩ := repL_cons.mp r
  obtain ⟨v1, r1, rfl, p1, h1⟩ := repL_cons.mp h0
  obtain ⟨v2, r2, rfl, p2, h2⟩ := repL_cons.mp h1
  obtain ⟨v3, r3, rfl, p3, h4⟩ := repL_cons.mp h2
  obtain rfl := repL_nil.mp h4
  have hx : H x = some (.ins (A.c (.bin b)) dx []) := u.sub 2 _ _ (by rw [e2]; exact insH_at)
  refine ⟨_, rfl, _, rfl, x, A.c (.bin b), dx, _, rfl, hx, A.cl (.bin b), A.na (.bin b) _ (by decide), Nat.le_of_ble_eq_true rfl, _, rfl, _, rfl, x, A.c (.bin b), dx, _, rfl, upd_same, A.cl (.bin b), A.na (.bin b) _ (by decide), Nat.le_of_ble_eq_true rfl, _, rfl, _, rfl, x, A.c (.bin b), dx, _, rfl, upd_same, A.cl (.bin b), A.na (.bin b) _ (by decide), Nat.le_of_ble_eq_true rfl, _, rfl, _, rfl, x, A.c (.bin b), dx, _, rfl, upd_same, A.cl (.bin b), A.na (.bin b) _ (by decide), Nat.le_of_ble_eq_true rfl, ?_⟩
  rw [upd_upd, upd_upd, upd_upd]
  exact ini_end (fs := ["word", "mark", "one", "other"]) (zs := [v0, v1, v2, v3]) u e2 h3 k hP rfl (RepL.cons p0 (RepL.cons p1 (RepL.cons p2 (RepL.cons p3 RepL.nil))))
theorem sc_Plus_init : FnScope ["self", "one", "other"] ["self", "one", "other"] (defScope s_Plus_init) := ⟨rfl, rfl, rfl, by decide +kernel, rfl, by decide +kernel, by decide +kernel⟩
theorem lk_Plus_init_self : Lk s_Plus_init "self" .local := by decide +kernel
theorem lk_Plus_init_one : Lk s_Plus_init "one" .local := by decide +kernel
theorem lk_Plus_init_other : Lk s_Plus_init "other" .local := by decide +kernel
theorem lk_Plus_init_Joined : Lk s_Plus_init "Joined" .globalImplicit := by decide +kernel
def W_Plus : List Tv -> (List Tv -> Prop) -> Prop := fun ts P => ∃ a0 a1, ts = [a0, a1] /\ P [.str "plus", .str "+", a0, a1]
theorem ok_ini_Plus (A : AllD K mg) : FnOk P w K mg base CX0 2 (A.fi (.bin 0)) (A.di (.bin 0)) ["self", "one", "other"] (spI K (A.c (.bin 0)) ["word", "mark", "one", "other"] W_Plus) := by
  refine (A.Fi (.bin 0)).ok sc_Plus_init (spI.len fun ts P ⟨_, _, e, _⟩ => by rw [e]; rfl) fun cdv A_ outer s H vs Q E hr ⟨x, dx, us, p, ts, P', e, ne, u, e2, h3, r, ⟨a0, a1, e1, hP⟩, k⟩ => ⟨_, pss_one (ps_expr (pe_clsm lk_Plus_init_Joined A.m_Joined A.cm (ok_ini_Joined A 0) hr A.bJ pass0
    (pa_cons (pe_var (i := 0) rfl (Or.inl lk_Plus_init_self)) (pa_cons pe_str (pa_cons pe_str (pa_cons (pe_var (i := 1) rfl (Or.inl lk_Plus_init_one)) (pa_cons (pe_var (i := 2) rfl (Or.inl lk_Plus_init_other)) pa_nil))))))), ?_⟩
  subst e e1
  obtain ⟨v0, r0, rfl, p0, h0⟩ := repL_cons.mp r
  obtain ⟨v1, r1, rfl, p1, h1⟩ := repL_cons.mp h0
  obtain rfl := repL_nil.mp h1
  exact ⟨_, rfl, _, rfl, _, rfl, x, dx, [.str "plus", .str "+", v0, v1], p, [.str "plus", .str "+", a0, a1], P', rfl, ne, u, e2, h3, RepL.cons (rep_str.mpr rfl) (RepL.cons (rep_str.mpr rfl) (RepL.cons p0 (RepL.cons p1 RepL.nil))), ⟨_, _, _, _, rfl, hP⟩, k⟩
theorem sc_Minus_init : FnScope ["self", "one", "other"] ["self", "one", "other"] (defScope s_Minus_init) := ⟨rfl, rfl, rfl, by decide +kernel, rfl, by decide +kernel, by decide +kernel⟩
theorem lk_Minus_init_self : Lk s_Minus_init "self" .local := by decide +kernel
theorem lk_Minus_init_one : Lk s_Minus_init "one" .local := by decide +kernel
theorem lk_Minus_init_other : Lk s_Minus_init "other" .local := by decide +kernel
theorem lk_Minus_init_Joined : Lk s_Minus_init "Joined" .globalImplicit := by decide +kernel
def W_Minus : List Tv -> (List Tv -> Prop) -> Prop := fun ts P => ∃ a0 a1, ts = [a0, a1] /\ P [.str "minus", .str "-", a0, a1]
theorem ok_ini_Minus (A : AllD K mg) : FnOk P w K mg base CX0 2 (A.fi (.bin 1)) (A.di (.bin 1)) ["self", "one", "other"] (spI K (A.c (.bin 1)) ["word", "mark", "one", "other"] W_Minus) := by
  refine (A.Fi (.bin 1)).ok sc_Minus_init (spI.len fun ts P ⟨_, _, e, _⟩ => by rw [e]; rfl) fun cdv A_ outer s H vs Q E hr ⟨x, dx, us, p, ts, P', e, ne, u, e2, h3, r, ⟨a0, a1, e1, hP⟩, k⟩ => ⟨_, pss_one (ps_expr (pe_clsm lk_Minus_init_Joined A.m_Joined A.cm (ok_ini_Joined A 1) hr A.bJ pass0
    (pa_cons (pe_var (i := 0) rfl (Or.inl lk_Minus_init_self)) (pa_cons pe_str (pa_cons pe_str (pa_cons (pe_var (i := 1) rfl (Or.inl lk_Minus_init_one)) (pa_cons (pe_var (i := 2) rfl (Or.inl lk_Minus_init_other)) pa_nil))))))), ?_⟩
  subst e e1
  obtain ⟨v0, r0, rfl, p0, h0⟩ := repL_cons.mp r
  obtain ⟨v1, r1, rfl, p1, h1⟩ := repL_cons.mp h0
  obtain rfl := repL_nil.mp h1
  exact ⟨_, rfl, _, rfl, _, rfl, x, dx, [.str "minus", .str "-", v0, v1], p, [.str "minus", .str "-", a0, a1], P', rfl, ne, u, e2, h3, RepL.cons (rep_str.mpr rfl) (RepL.cons (rep_str.mpr rfl) (RepL.cons p0 (RepL.cons p1 RepL.nil))), ⟨_, _, _, _, rfl, hP⟩, k⟩
theorem sc_Times_init : FnScope ["self", "one", "other"] ["self", "one", "other"] (defScope s_Times_init) := ⟨rfl, rfl, rfl, by decide +kernel, rfl, by decide +kernel, by decide +kernel⟩
theorem lk_Times_init_self : Lk s_Times_init "self" .local := by decide +kernel
theorem lk_Times_init_one : Lk s_Times_init "one" .local := by decide +kernel
theorem lk_Times_init_other : Lk s_Times_init "other" .local := by decide +kernel
theorem lk_Times_init_Joined : Lk s_Times_init "Joined" .globalImplicit := by decide +kernel
def W_Times : List Tv -> (List Tv -> Prop) -> Prop := fun ts P => ∃ a0 a1, ts = [a0, a1] /\ P [.str "times", .str "*", a0, a1]
theorem ok_ini_Times (A : AllD K mg) : FnOk P w K mg base CX0 2 (A.fi (.bin 2)) (A.di (.bin 2)) ["self", "one", "other"] (spI K (A.c (.bin 2)) ["word", "mark", "one", "other"] W_Times) := by
  refine (A.Fi (.bin 2)).ok sc_Times_init (spI.len fun ts P ⟨_, _, e, _⟩ => by rw [e]; rfl) fun cdv A_ outer s H vs Q E hr ⟨x, dx, us, p, ts, P', e, ne, u, e2, h3, r, ⟨a0, a1, e1, hP⟩, k⟩ => ⟨_, pss_one (ps_expr (pe_clsm lk_Times_init_Joined A.m_Joined A.cm (ok_ini_Joined A 2) hr A.bJ pass0
    (pa_cons (pe_var (i := 0) rfl (Or.inl lk_Times_init_self)) (pa_cons pe_str (pa_cons pe_str (pa_cons (pe_var (i := 1) rfl (Or.inl lk_Times_init_one)) (pa_cons (pe_var (i := 2) rfl (Or.inl lk_Times_init_other)) pa_nil))))))), ?_⟩
  subst e e1
  obtain ⟨v0, r0, rfl, p0, h0⟩ := repL_cons.mp r
  obtain ⟨v1, r1, rfl, p1, h1⟩ := repL_cons.mp h0
  obtain rfl := repL_nil.mp h1
  exact ⟨_, rfl, _, rfl, _, rfl, x, dx, [.str "times", .str "*", v0, v1], p, [.str "times", .str "*", a0, a1], P', rfl, ne, u, e2, h3, RepL.cons (rep_str.mpr rfl) (RepL.cons (rep_str.mpr rfl) (RepL.cons p0 (RepL.cons p1 RepL.nil))), ⟨_, _, _, _, rfl, hP⟩, k⟩
end
end Pw
set_option Elab.async false
set_option linter.all false
set_option maxRecDepth 100000
set_option maxHeartbeats 4000000
namespace Pw
open PySem L2
seal PE PT PW PA PS PSs PG PGs PI PIf PO PJ
section
variable {P : Program} {w : World} {K : PySem.W.Frag} {mg : Str -> Option Value} {base : Heap} {f : Addr} {fd : FuncData}
theorem no_meth {m : Str} (h : m ∈ (["parts", "told", "shown", "put", "entries", "depth"] : List Str)) : ∀ k : Kd, (fldK k).contains m = false := by
  have : ∀ x ∈ (["parts", "told", "shown", "put", "entries", "depth"] : List Str), ∀ k : Kd, (fldK k).contains x = false := by
    intro x hx k
    simp only [List.mem_cons, List.not_mem_nil, or_false] at hx
    rcases hx with rfl | rfl | rfl | rfl | rfl | rfl <;> cases k <;> rfl
  exact this m h
def b_Term_parts (cc : Kd -> Addr) (n : Nat) : Sv :=
  vRet (vTup [])
theorem sc_Term_parts : FnScope ["self"] ["self"] (defScope s_Term_parts) := ⟨rfl, rfl, rfl, by decide +kernel, rfl, by decide +kernel, by decide +kernel⟩
def b_Negative_parts (cc : Kd -> Addr) (n : Nat) : Sv :=
  vRet (vTup [vFld (KdD cc) "one" (vVar 0)])
theorem sc_Negative_parts : FnScope ["self"] ["self"] (defScope s_Negative_parts) := ⟨rfl, rfl, rfl, by decide +kernel, rfl, by decide +kernel, by decide +kernel⟩
theorem lk_Negative_parts_self : Lk s_Negative_parts "self" .local := by decide +kernel
def b_Joined_parts (cc : Kd -> Addr) (n : Nat) : Sv :=
  vRet (vTup [vFld (KdD cc) "one" (vVar 0), vFld (KdD cc) "other" (vVar 0)])
theorem sc_Joined_parts : FnScope ["self"] ["self"] (defScope s_Joined_parts) := ⟨rfl, rfl, rfl, by decide +kernel, rfl, by decide +kernel, by decide +kernel⟩
theorem lk_Joined_parts_self : Lk s_Joined_parts "self" .local := by decide +kernel
def b_Sum_parts (cc : Kd -> Addr) (n : Nat) : Sv :=
  vRet (vTup [vFld (KdD cc) "one" (vVar 0)])
theorem sc_Sum_parts : FnScope ["self"] ["self"] (defScope s_Sum_parts) := ⟨rfl, rfl, rfl, by decide +kernel, rfl, by decide +kernel, by decide +kernel⟩
theorem lk_Sum_parts_self : Lk s_Sum_parts "self" .local := by decide +kernel
def prtV (c : Kd -> Addr) (t : Trm) : Tv := .tup ((prt t).map (enc c))
theorem nice_Term_parts_n {c : Kd -> Addr} {n : Nat} : ∀ ts Q, CM c (prtV c) n .num ts Q -> bodyC 1 (b_Term_parts c n) ts Q := by
  rintro ts Q ⟨t, hk, rfl, hd, ok, q⟩
  cases t with
  | num a => exact q
  | _ => cases hk
theorem nice_Term_parts_e {c : Kd -> Addr} {n : Nat} : ∀ ts Q, CM c (prtV c) n .ent ts Q -> bodyC 1 (b_Term_parts c n) ts Q := by
  rintro ts Q ⟨t, hk, rfl, hd, ok, q⟩
  cases t with
  | ent a b => exact q
  | _ => cases hk
theorem nice_Negative_parts_x {c : Kd -> Addr} {n : Nat} : ∀ ts Q, CM c (prtV c) n .neg ts Q -> bodyC 1 (b_Negative_parts c n) ts Q := by
  rintro ts Q ⟨t, hk, rfl, hd, ok, q⟩
  cases t with
  | neg t => exact ⟨⟨_, rfl⟩, _, rfl, q⟩
  | _ => cases hk
theorem nice_Joined_parts {c : Kd -> Addr} {n : Nat} {w : Fin 3} : ∀ ts Q, CM c (prtV c) n (.bin w) ts Q -> bodyC 1 (b_Joined_parts c n) ts Q := by
  rintro ts Q ⟨t, hk, rfl, hd, ok, q⟩
  cases t with
  | bin w a b => exact ⟨⟨_, rfl⟩, _, rfl, ⟨_, rfl⟩, _, rfl, q⟩
  | _ => cases hk
theorem nice_Sum_parts_x {c : Kd -> Addr} {n : Nat} : ∀ ts Q, CM c (prtV c) n .sum ts Q -> bodyC 1 (b_Sum_parts c n) ts Q := by
  rintro ts Q ⟨t, hk, rfl, hd, ok, q⟩
  cases t with
  | sum b g t => exact ⟨⟨_, rfl⟩, _, rfl, q⟩
  | _ => cases hk
theorem ok_parts (A : AllD K mg) (B : Blt mg) (n : Nat) : ∀ k, FnOk P w K mg base (CXF P w) 1 (A.f_parts k) (A.d_parts k) ["self"] (spV K (CM A.c (prtV A.c) n k))
  | .num => fn_V (A.F_parts .num) sc_Term_parts (b_Term_parts A.c n) CM.len nice_Term_parts_n fun cdv A_ outer s H E hr => have hu := hr.units
        vs_one (vs_ret (v_tup va_nil))
  | .ent => fn_V (A.F_parts .ent) sc_Term_parts (b_Term_parts A.c n) CM.len nice_Term_parts_e fun cdv A_ outer s H E hr => have hu := hr.units
        vs_one (vs_ret (v_tup va_nil))
  | .neg => fn_V (A.F_parts .neg) sc_Negative_parts (b_Negative_parts A.c n) CM.len nice_Negative_parts_x fun cdv A_ outer s H E hr => have hu := hr.units
        vs_one (vs_ret (v_tup (hz := Nat.le_of_ble_eq_true rfl) (va_Attribute (v_fld rfl (A.fld (by decide)) (v_var (i := 0) rfl (Or.inl lk_Negative_parts_self))) va_nil)))
  | .bin b => fn_V (A.F_parts (.bin b)) sc_Joined_parts (b_Joined_parts A.c n) CM.len nice_Joined_parts fun cdv A_ outer s H E hr => have hu := hr.units
        vs_one (vs_ret (v_tup (hz := Nat.le_of_ble_eq_true rfl) (va_Attribute (v_fld rfl (A.fld (by decide)) (v_var (i := 0) rfl (Or.inl lk_Joined_parts_self))) (va_Attribute (v_fld rfl (A.fld (by decide)) (v_var (i := 0) rfl (Or.inl lk_Joined_parts_self))) va_nil))))
  | .sum => fn_V (A.F_parts .sum) sc_Sum_parts (b_Sum_parts A.c n) CM.len nice_Sum_parts_x fun cdv A_ outer s H E hr => have hu := hr.units
        vs_one (vs_ret (v_tup (hz := Nat.le_of_ble_eq_true rfl) (va_Attribute (v_fld rfl (A.fld (by decide)) (v_var (i := 0) rfl (Or.inl lk_Sum_parts_self))) va_nil)))
def b_Number_told (cc : Kd -> Addr) (n : Nat) : Sv :=
  vRet (vTup [vC (.str "number"), vFld (KdD cc) "worth" (vVar 0)])
theorem sc_Number_told : FnScope ["self"] ["self"] (defScope s_Number_told) := ⟨rfl, rfl, rfl, by decide +kernel, rfl, by decide +kernel, by decide +kernel⟩
theorem lk_Number_told_self : Lk s_Number_told "self" .local := by decide +kernel
def b_Entry_told (cc : Kd -> Addr) (n : Nat) : Sv :=
  vRet (vTup [vC (.str "entry"), vFld (KdD cc) "name" (vVar 0), vFld (KdD cc) "places" (vVar 0)])
theorem sc_Entry_told : FnScope ["self"] ["self"] (defScope s_Entry_told) := ⟨rfl, rfl, rfl, by decide +kernel, rfl, by decide +kernel, by decide +kernel⟩
theorem lk_Entry_told_self : Lk s_Entry_told "self" .local := by decide +kernel
def b_Negative_told (cc : Kd -> Addr) (n : Nat) : Sv :=
  vRet (vTup [vC (.str "negative"), vMeth (DM cc (CM cc tel n)) "told" (vFld (KdD cc) "one" (vVar 0)) []])
theorem sc_Negative_told : FnScope ["self"] ["self"] (defScope s_Negative_told) := ⟨rfl, rfl, rfl, by decide +kernel, rfl, by decide +kernel, by decide +kernel⟩
theorem lk_Negative_told_self : Lk s_Negative_told "self" .local := by decide +kernel
def b_Joined_told (cc : Kd -> Addr) (n : Nat) : Sv :=
  vRet (vTup [vFld (KdD cc) "word" (vVar 0), vMeth (DM cc (CM cc tel n)) "told" (vFld (KdD cc) "one" (vVar 0)) [], vMeth (DM cc (CM cc tel n)) "told" (vFld (KdD cc) "other" (vVar 0)) []])
theorem sc_Joined_told : FnScope ["self"] ["self"] (defScope s_Joined_told) := ⟨rfl, rfl, rfl, by decide +kernel, rfl, by decide +kernel, by decide +kernel⟩
theorem lk_Joined_told_self : Lk s_Joined_told "self" .local := by decide +kernel
def b_Sum_told (cc : Kd -> Addr) (n : Nat) : Sv :=
  vRet (vTup [vC (.str "sum"), vFld (KdD cc) "binder" (vVar 0), vFld (KdD cc) "group" (vVar 0), vMeth (DM cc (CM cc tel n)) "told" (vFld (KdD cc) "one" (vVar 0)) []])
theorem sc_Sum_told : FnScope ["self"] ["self"] (defScope s_Sum_told) := ⟨rfl, rfl, rfl, by decide +kernel, rfl, by decide +kernel, by decide +kernel⟩
theorem lk_Sum_told_self : Lk s_Sum_told "self" .local := by decide +kernel
theorem nice_Number_told {c : Kd -> Addr} {n : Nat} : ∀ ts Q, CM c tel (n + 1) .num ts Q -> bodyC 1 (b_Number_told c n) ts Q := by
  rintro ts Q ⟨t, hk, rfl, hd, ok, q⟩
  cases t with
  | num a => exact ⟨⟨_, rfl⟩, _, rfl, q⟩
  | _ => cases hk
theorem nice_Entry_told {c : Kd -> Addr} {n : Nat} : ∀ ts Q, CM c tel (n + 1) .ent ts Q -> bodyC 1 (b_Entry_told c n) ts Q := by
  rintro ts Q ⟨t, hk, rfl, hd, ok, q⟩
  cases t with
  | ent m ks => exact ⟨⟨_, rfl⟩, _, rfl, ⟨_, rfl⟩, _, rfl, q⟩
  | _ => cases hk
theorem nice_Negative_told {c : Kd -> Addr} {n : Nat} : ∀ ts Q, CM c tel (n + 1) .neg ts Q -> bodyC 1 (b_Negative_told c n) ts Q := by
  rintro ts Q ⟨t, hk, rfl, hd, ok, q⟩
  cases t with
  | neg t => exact ⟨⟨_, rfl⟩, _, rfl, no_meth (by decide) _, _, ⟨_, rfl, rfl⟩, t, rfl, rfl, (by have : 1 + dp t <= n + 1 := hd; omega), ok, q⟩
  | _ => cases hk
theorem nice_Joined_told {c : Kd -> Addr} {n : Nat} {w : Fin 3} : ∀ ts Q, CM c tel (n + 1) (.bin w) ts Q -> bodyC 1 (b_Joined_told c n) ts Q := by
  rintro ts Q ⟨t, hk, rfl, hd, ok, q⟩
  cases t with
  | bin w a b => 
    have h : 1 + max (dp a) (dp b) <= n + 1 := hd
    exact ⟨⟨_, rfl⟩, _, rfl, ⟨_, rfl⟩, _, rfl, no_meth (by decide) _, _, ⟨_, rfl, rfl⟩, a, rfl, rfl, by omega, ok.1, ⟨_, rfl⟩, _, rfl, no_meth (by decide) _, _, ⟨_, rfl, rfl⟩, b, rfl, rfl, by omega, ok.2, q⟩
  | _ => cases hk
theorem nice_Sum_told {c : Kd -> Addr} {n : Nat} : ∀ ts Q, CM c tel (n + 1) .sum ts Q -> bodyC 1 (b_Sum_told c n) ts Q := by
  rintro ts Q ⟨t, hk, rfl, hd, ok, q⟩
  cases t with
  | sum b g t => exact ⟨⟨_, rfl⟩, _, rfl, ⟨_, rfl⟩, _, rfl, ⟨_, rfl⟩, _, rfl, no_meth (by decide) _, _, ⟨_, rfl, rfl⟩, t, rfl, rfl, (by have : 1 + dp t <= n + 1 := hd; omega), ok.2.2, q⟩
  | _ => cases hk
theorem CM.zero {c : Kd -> Addr} {res : Trm -> Tv} {k : Kd} : ∀ ts Q, CM c res 0 k ts Q -> False := fun ts Q ⟨t, _, _, h, _⟩ => absurd (dp_pos t) (by omega)
theorem ok_told (A : AllD K mg) (B : Blt mg) : ∀ n k, FnOk P w K mg base (CXF P w) (1 + n) (A.f_told k) (A.d_told k) ["self"] (spV K (CM A.c tel n k))
  | 0, _ => FnOk.none CM.zero
  | n + 1, k => by
    have ih := ok_told A B n
    cases k with
    | num =>
      exact fn_V (A.F_told .num) sc_Number_told (b_Number_told A.c n) CM.len nice_Number_told fun cdv A_ outer s H E hr => have hu := hr.units
        vs_one (vs_ret (v_tup (hz := Nat.le_of_ble_eq_true rfl) (va_Constant (v_str) (va_Attribute (v_fld rfl (A.fld (by decide)) (v_var (i := 0) rfl (Or.inl lk_Number_told_self))) va_nil))))
    | ent =>
      exact fn_V (A.F_told .ent) sc_Entry_told (b_Entry_told A.c n) CM.len nice_Entry_told fun cdv A_ outer s H E hr => have hu := hr.units
        vs_one (vs_ret (v_tup (hz := Nat.le_of_ble_eq_true rfl) (va_Constant (v_str) (va_Attribute (v_fld rfl (A.fld (by decide)) (v_var (i := 0) rfl (Or.inl lk_Entry_told_self))) (va_Attribute (v_fld rfl (A.fld (by decide)) (v_var (i := 0) rfl (Or.inl lk_Entry_told_self))) va_nil)))))
    | neg =>
      exact fn_V (A.F_told .neg) sc_Negative_told (b_Negative_told A.c n) CM.len nice_Negative_told fun cdv A_ outer s H E hr => have hu := hr.units
        vs_one (vs_ret (v_tup (hz := Nat.le_of_ble_eq_true rfl) (va_Constant (v_str) (va_Call (v_meth0 (methV_of (fun k => ih k) A.M_told A.cl A.b_told hr passes_fn) (v_fld rfl (A.fld (by decide)) (v_var (i := 0) rfl (Or.inl lk_Negative_told_self)))) va_nil))))
    | bin b =>
      exact fn_V (A.F_told (.bin b)) sc_Joined_told (b_Joined_told A.c n) CM.len nice_Joined_told fun cdv A_ outer s H E hr => have hu := hr.units
        vs_one (vs_ret (v_tup (hz := Nat.le_of_ble_eq_true rfl) (va_Attribute (v_fld rfl (A.fld (by decide)) (v_var (i := 0) rfl (Or.inl lk_Joined_told_self))) (va_Call (v_meth0 (methV_of (fun k => ih k) A.M_told A.cl A.b_told hr passes_fn) (v_fld rfl (A.fld (by decide)) (v_var (i := 0) rfl (Or.inl lk_Joined_told_self)))) (va_Call (v_meth0 (methV_of (fun k => ih k) A.M_told A.cl A.b_told hr passes_fn) (v_fld rfl (A.fld (by decide)) (v_var (i := 0) rfl (Or.inl lk_Joined_told_self)))) va_nil)))))
    | sum =>
      exact fn_V (A.F_told .sum) sc_Sum_told (b_Sum_told A.c n) CM.len nice_Sum_told fun cdv A_ outer s H E hr => have hu := hr.units
        vs_one (vs_ret (v_tup (hz := Nat.le_of_ble_eq_true rfl) (va_Constant (v_str) (va_Attribute (v_fld rfl (A.fld (by decide)) (v_var (i := 0) rfl (Or.inl lk_Sum_told_self))) (va_Attribute (v_fld rfl (A.fld (by decide)) (v_var (i := 0) rfl (Or.inl lk_Sum_told_self))) (va_Call (v_meth0 (methV_of (fun k => ih k) A.M_told A.cl A.b_told hr passes_fn) (v_fld rfl (A.fld (by decide)) (v_var (i := 0) rfl (Or.inl lk_Sum_told_self)))) va_nil))))))
end
end Pw
set_option Elab.async false
set_option linter.all false
set_option maxRecDepth 100000
set_option maxHeartbeats 4000000
namespace Pw
open PySem L2
seal PE PT PW PA PS PSs PG PGs PI PIf PO PJ
section
variable {P : Program} {w : World} {K : PySem.W.Frag} {mg : Str -> Option Value} {base : Heap} {f : Addr} {fd : FuncData}
theorem mk_gd {t b : Int} {k : Nat} (h : 0 < b) (ht : t.natAbs < 2 ^ k) (hb : b.natAbs < 2 ^ k) : Gd k (mkF t b) := ⟨mk_red (by omega), Nat.lt_of_le_of_lt (ft_abs (by omega)) ht, Nat.lt_of_le_of_lt (fb_abs (by omega)) hb⟩
theorem Red.pos {a : Fq} (h : Red a) : 0 < a.2 := Int.lt_of_lt_of_le (by decide) h.1
theorem small_BM {n : Nat} (h : n < 1180591620717411303424) : n < BM := lt_BMi (k := 70) (Nat.lt_of_lt_of_le h (by decide)) (by decide)
theorem int_gd {i : Int} {k : Nat} (h : i.natAbs < 2 ^ k) (hk : 1 <= k) : Gd k (i, 1) := ⟨⟨(show (1 : Int) <= 1 by decide), by show gd i 1 = 1; unfold gd; simp⟩, h, pow_up (j := 1) (show (1 : Int).natAbs < 2 ^ 1 by decide) hk⟩
theorem few_line' {n : Nat} (h : n <= 100000) : n <= sizeLine := Nat.le_of_lt (few_line h)
theorem iT_len {i : Int} {k : Nat} (h : i.natAbs < 2 ^ k) : (iT i).length <= k + 2 := by
  have hl : i.natAbs.log2 <= k := by
    rcases Nat.eq_zero_or_pos i.natAbs with e | e
    · rw [e]; exact Nat.zero_le _
    · exact Nat.le_of_lt ((Nat.log2_lt (Nat.ne_of_gt e)).mpr h)
  have := int_text_length_le (a := i) (k := i.natAbs.log2 + 1) (Nat.succ_pos _) (Nat.lt_succ_self _)
  unfold iT
  rw [PySem.ofString_length]
  omega
theorem log_lt {i : Int} {k : Nat} (h : i.natAbs < 2 ^ k) (hk : k < 1920) : i.natAbs.log2 < 1920 := by
  rcases Nat.eq_zero_or_pos i.natAbs with e | e
  · rw [e]; decide
  · exact Nat.lt_of_lt_of_le ((Nat.log2_lt (Nat.ne_of_gt e)).mpr h) (Nat.le_of_lt hk)
theorem nT_len {a : Fq} (h : Fb 40 a) : (nT a).length <= 90 := by
  have h1 := iT_len h.1
  have h2 := iT_len h.2
  unfold nT
  split
  · omega
  · rw [app_len, app_len]
    have : (("/" : Str)).length = 1 := rfl
    omega
def b_minus : Sv :=
  vRet (vCall C_fraction [vOp wSub (vOp wMul (vOp wIx (vVar 0) (vC (.int 0))) (vOp wIx (vVar 1) (vC (.int 1)))) (vOp wMul (vOp wIx (vVar 1) (vC (.int 0))) (vOp wIx (vVar 0) (vC (.int 1)))), vOp wMul (vOp wIx (vVar 0) (vC (.int 1))) (vOp wIx (vVar 1) (vC (.int 1)))])
theorem sc_minus : FnScope ["one", "other"] ["one", "other"] (defScope s_minus) := ⟨rfl, rfl, rfl, by decide +kernel, rfl, by decide +kernel, by decide +kernel⟩
theorem lk_minus_one : Lk s_minus "one" .local := by decide +kernel
theorem lk_minus_other : Lk s_minus "other" .local := by decide +kernel
theorem lk_minus_fraction : Lk s_minus "fraction" .globalImplicit := by decide +kernel
theorem len_minus : ∀ ts Q, C_bin mnF ts Q -> ts.length = 2 := bin_len
theorem nice_minus : ∀ ts Q, C_bin mnF ts Q -> bodyC 2 b_minus ts Q := by
  rintro _ Q ⟨a, b, j, k, rfl, ga, gb, h, q⟩
  have xa := ga.m (show j <= 100000 by omega)
  have xb := gb.m (show k <= 100000 by omega)
  exact ⟨⟨xa.1, xb.2⟩, ⟨xb.1, xa.2⟩, ⟨xa.2, xb.2⟩, _, _, rfl, lt_big (ga.2.bot gb.2) (by omega), ga.1.mul gb.1, q⟩
theorem ok_minus (A : AllD K mg) (B : Blt mg) : FnOk P w K mg base (CXF P w) 4 A.f_minus A.d_minus ["one", "other"] (spV K (C_bin mnF)) :=
  fn_V A.D_minus.F sc_minus b_minus len_minus nice_minus fun cdv A_ outer s H E hr => have hu := hr.units
  vs_one (vs_ret (v_call rfl (ok_fractionV A B) (hr.mono (by decide)) lk_minus_fraction A.D_fraction.m A.D_fraction.F.kp A.D_fraction.b passes_fn (va_BinOp (v_op o_sub (v_op o_mul (v_ix (o_ix rfl) (v_var (i := 0) rfl (Or.inl lk_minus_one)) (v_int) (fun _ _ => rfl)) (v_ix (o_ix rfl) (v_var (i := 1) rfl (Or.inl lk_minus_other)) (v_int) (fun _ _ => rfl))) (v_op o_mul (v_ix (o_ix rfl) (v_var (i := 1) rfl (Or.inl lk_minus_other)) (v_int) (fun _ _ => rfl)) (v_ix (o_ix rfl) (v_var (i := 0) rfl (Or.inl lk_minus_one)) (v_int) (fun _ _ => rfl)))) (va_BinOp (v_op o_mul (v_ix (o_ix rfl) (v_var (i := 0) rfl (Or.inl lk_minus_one)) (v_int) (fun _ _ => rfl)) (v_ix (o_ix rfl) (v_var (i := 1) rfl (Or.inl lk_minus_other)) (v_int) (fun _ _ => rfl))) va_nil))))
def b_sign_2 : Sv := vRet (vC (.int 0))
def b_sign_1s : Sv := vIfS (vCmp wLt (vOp wIx (vVar 0) (vC (.int 0))) (vC (.int 0))) (vRet (vUn wNeg (vC (.int 1)))) (vNext)
def b_sign_1 : Sv := vSeq b_sign_1s b_sign_2
def b_sign_0s : Sv := vIfS (vCmp wGt (vOp wIx (vVar 0) (vC (.int 0))) (vC (.int 0))) (vRet (vC (.int 1))) (vNext)
def b_sign : Sv :=
  vSeq b_sign_0s b_sign_1
def sgF (a : Fq) : Int := if 0 < a.1 then 1 else if a.1 < 0 then -1 else 0
def C_sign : Ct := fun ts P => ∃ a, ts = [encF a] /\ P (.ok (.va (.int (sgF a))))
theorem sc_sign : FnScope ["one"] ["one"] (defScope s_sign) := ⟨rfl, rfl, rfl, by decide +kernel, rfl, by decide +kernel, by decide +kernel⟩
theorem lk_sign_one : Lk s_sign "one" .local := by decide +kernel
theorem len_sign : ∀ ts Q, C_sign ts Q -> ts.length = 1 := fun ts Q ⟨_, e, _⟩ => by rw [e]; rfl
theorem nice_sign : ∀ ts Q, C_sign ts Q -> bodyC 1 b_sign ts Q := by
  rintro _ Q ⟨a, rfl, q⟩
  unfold sgF at q
  refine ite_go (fun c1 => ?_) fun c1 => ?_
  · rw [if_pos (of_decide_eq_true c1)] at q
    exact q
  rw [if_neg (of_decide_eq_false c1)] at q
  refine ite_go (fun c2 => ?_) fun c2 => ?_
  · rw [if_pos (of_decide_eq_true c2)] at q
    exact q
  rw [if_neg (of_decide_eq_false c2)] at q
  exact q
theorem ok_sign (A : AllD K mg) (B : Blt mg) : FnOk P w K mg base (CXF P w) 1 A.f_sign A.d_sign ["one"] (spV K C_sign) :=
  fn_V A.D_sign.F sc_sign b_sign len_sign nice_sign fun cdv A_ outer s H E hr => have hu := hr.units
  vs_cons (vs_if (vt_cmp o_gt (v_ix (o_ix rfl) (v_var (i := 0) rfl (Or.inl lk_sign_one)) (v_int) (fun _ _ => rfl)) (v_int) (nomark _)) (vs_one (vs_ret (v_int))) (vs_nil))
  (vs_cons (vs_if (vt_cmp o_lt (v_ix (o_ix rfl) (v_var (i := 0) rfl (Or.inl lk_sign_one)) (v_int) (fun _ _ => rfl)) (v_int) (nomark _)) (vs_one (vs_ret (v_un o_neg (v_int)))) (vs_nil))
  (vs_one (vs_ret (v_int))))
def b_shown_fraction_3 : Sv := vRet (vJoin [vFm (vVar 1), vC (.str "/"), vFm (vVar 2)])
def b_shown_fraction_2s : Sv := vIfS (vCmp wEq (vVar 2) (vC (.int 1))) (vRet (vJ1 (vFm (vVar 1)))) (vNext)
def b_shown_fraction_2 : Sv := vSeq b_shown_fraction_2s b_shown_fraction_3
def b_shown_fraction_1s : Sv := vSet 2 (vOp wIx (vVar 0) (vC (.int 1)))
def b_shown_fraction_1 : Sv := vSeq b_shown_fraction_1s b_shown_fraction_2
def b_shown_fraction_0s : Sv := vSet 1 (vOp wIx (vVar 0) (vC (.int 0)))
def b_shown_fraction : Sv :=
  vSeq b_shown_fraction_0s b_shown_fraction_1
def C_shown_fraction : Ct := fun ts P => ∃ a, ts = [encF a] /\ Fb 40 a /\ P (.ok (.va (.str (nT a))))
theorem sc_shown_fraction : FnScope ["one", "top", "bottom"] ["one"] (defScope s_shown_fraction) := ⟨rfl, rfl, rfl, by decide +kernel, rfl, by decide +kernel, by decide +kernel⟩
theorem lk_shown_fraction_one : Lk s_shown_fraction "one" .local := by decide +kernel
theorem lk_shown_fraction_top : Lk s_shown_fraction "top" .local := by decide +kernel
theorem lk_shown_fraction_bottom : Lk s_shown_fraction "bottom" .local := by decide +kernel
theorem len_shown_fraction : ∀ ts Q, C_shown_fraction ts Q -> ts.length = 1 := fun ts Q ⟨_, e, _⟩ => by rw [e]; rfl
theorem nice_shown_fraction : ∀ ts Q, C_shown_fraction ts Q -> bodyC 3 b_shown_fraction ts Q := by
  rintro _ Q ⟨a, rfl, fa, q⟩
  unfold nT at q
  have l1 := iT_len fa.1
  have l2 := iT_len fa.2
  refine ite_go (fun c => ?_) fun c => ?_
  · rw [if_pos (of_decide_eq_true c)] at q
    exact ⟨log_lt fa.1 (by decide), q⟩
  rw [if_neg (of_decide_eq_false c)] at q
  have e1 : (("/" : Str)).length = 1 := rfl
  refine ⟨log_lt fa.1 (by decide), few_line' (by rw [str_empty_app]; show (iT a.1).length <= _; omega), few_line' (by rw [str_empty_app, app_len]; show (iT a.1).length + _ <= _; omega), log_lt fa.2 (by decide), few_line' (by rw [str_empty_app, app_len, app_len]; show (iT a.1).length + _ + (iT a.2).length <= _; omega), ?_⟩
  rw [str_empty_app]
  exact q
theorem ok_shown_fraction (A : AllD K mg) (B : Blt mg) : FnOk P w K mg base (CXF P w) 1 A.f_shown_fraction A.d_shown_fraction ["one"] (spV K C_shown_fraction) :=
  fn_V A.D_shown_fraction.F sc_shown_fraction b_shown_fraction len_shown_fraction nice_shown_fraction fun cdv A_ outer s H E hr => have hu := hr.units
  vs_cons (vs_set (i := 1) sc_shown_fraction.nd rfl (Or.inl lk_shown_fraction_top) (v_ix (o_ix rfl) (v_var (i := 0) rfl (Or.inl lk_shown_fraction_one)) (v_int) (fun _ _ => rfl)))
  (vs_cons (vs_set (i := 2) sc_shown_fraction.nd rfl (Or.inl lk_shown_fraction_bottom) (v_ix (o_ix rfl) (v_var (i := 0) rfl (Or.inl lk_shown_fraction_one)) (v_int) (fun _ _ => rfl)))
  (vs_cons (vs_if (vt_cmp (o_eq rfl hu) (v_var (i := 2) rfl (Or.inl lk_shown_fraction_bottom)) (v_int) (nomark _)) (vs_one (vs_ret (v_join1 (v_fm (v_var (i := 1) rfl (Or.inl lk_shown_fraction_top)))))) (vs_nil))
  (vs_one (vs_ret (v_join (vj_cons (v_fm (v_var (i := 1) rfl (Or.inl lk_shown_fraction_top))) (vj_cons (v_str) (vj_cons (v_fm (v_var (i := 2) rfl (Or.inl lk_shown_fraction_bottom))) (vj_nil)))))))))
def dpV (t : Trm) : Tv := .int (dp t)
def b_Term_depth (cc : Kd -> Addr) (n : Nat) : Sv :=
  vRet (vOp wAdd (vC (.int 1)) (vMaxD (vComp 1 [] (vSeqI (vMeth (DM cc (CM cc (prtV cc) (n + 1))) "parts" (vVar 0) [])) (gV 0) (vYes) (vMeth (DM cc (CM cc dpV n)) "depth" (vVar 0) [])) (vC (.int 0))))
theorem sc_Term_depth : FnScope ["self"] ["self"] (defScope s_Term_depth) := ⟨rfl, rfl, rfl, by decide +kernel, rfl, by decide +kernel, by decide +kernel⟩
theorem lk_Term_depth_self : Lk s_Term_depth "self" .local := by decide +kernel
theorem lk_Term_depth_max : Lk s_Term_depth "max" .globalImplicit := by decide +kernel
theorem max_dp : ∀ {t : Trm} {M : Int}, MaxD ((prt t).map fun s => (dp s : Int)) 0 M -> 1 + M = dp t
  | .num _, M, h => by rw [h.1 rfl]; rfl
  | .ent _ _, M, h => by rw [h.1 rfl]; rfl
  | .neg t, M, h => by
    have e : M = (dp t : Int) := List.mem_singleton.mp (h.2 (by intro z; cases z)).1
    show _ = ((1 + dp t : Nat) : Int); omega
  | .sum _ _ t, M, h => by
    have e : M = (dp t : Int) := List.mem_singleton.mp (h.2 (by intro z; cases z)).1
    show _ = ((1 + dp t : Nat) : Int); omega
  | .bin _ a b, M, h => by
    obtain ⟨h1, h2⟩ := h.2 (by intro z; cases z)
    have ha : (dp a : Int) <= M := h2 (dp a) (List.mem_cons_self ..)
    have hb : (dp b : Int) <= M := h2 (dp b) (List.mem_cons_of_mem _ (List.mem_cons_self ..))
    show _ = ((1 + max (dp a) (dp b) : Nat) : Int)
    rcases List.mem_cons.mp h1 with e | e
    · have e : M = (dp a : Int) := e; omega
    · have e : M = (dp b : Int) := List.mem_singleton.mp e; omega
theorem prt_few : ∀ t : Trm, (prt t).length <= 2
  | .num _ => Nat.zero_le _
  | .ent _ _ => Nat.zero_le _
  | .neg _ => Nat.le_succ _
  | .bin _ _ _ => Nat.le_refl _
  | .sum _ _ _ => Nat.le_succ _
theorem nice_Term_depth {c : Kd -> Addr} {n : Nat} {k : Kd} : ∀ ts Q, CM c dpV (n + 1) k ts Q -> bodyC 1 (b_Term_depth c n) ts Q := by
  rintro ts Q ⟨t, hk, rfl, hd, ok, q⟩
  have hl : ((prt t).map (enc c)).length < sizeLine := few_line (by rw [List.length_map]; have := prt_few t; omega)
  refine ⟨no_meth (by decide) _, _, ⟨_, rfl, rfl⟩, t, rfl, rfl, hd, ok, hl, compW_enc (enc c) dpV (fun s hs Ky Kn hk => ⟨_, rfl, rfl, no_meth (by decide) _, _, ⟨_, rfl, rfl⟩, s, rfl, rfl, ?_, prt_ok ok hs, rfl, hk⟩) ⟨(prt t).map fun s => (dp s : Int), ?_, fun M hM => ?_⟩⟩
  · have := prt_dp hs; omega
  · rw [List.map_map]; rfl
  · show Q (.ok (.va (.int (1 + M))))
    rw [max_dp hM]
    exact q
theorem ok_depth (A : AllD K mg) (B : Blt mg) : ∀ n k, FnOk P w K mg base (CXF P w) (2 + n) (A.f_depth k) (A.d_depth k) ["self"] (spV K (CM A.c dpV n k))
  | 0, _ => FnOk.none CM.zero
  | n + 1, k => by
    have ih := ok_depth A B n
    cases k with
    | num =>
      exact fn_V (A.F_depth .num) sc_Term_depth (b_Term_depth A.c n) CM.len nice_Term_depth fun cdv A_ outer s H E hr => have hu := hr.units
        vs_one (vs_ret (v_op (o_add rfl) (v_int) (v_maxD rfl rfl lk_Term_depth_max B.max (v_comp rfl (frees_of ["part"] [] ["self"] (by decide +kernel)) (noFree rfl) (by decide +kernel) rfl (by decide +kernel) (fun y hy => PySem.mem_of_lookup hy) rfl (tg_name 0) (keeps_name (by decide)) noOw_name (vi_seq rfl (v_meth0 (methV_of (fun k => ok_parts A B (n + 1) k) A.M_parts A.cl A.b_parts (hr.mono (by show 1 <= _ + n; omega)) passes_fn) (v_var (i := 0) rfl (Or.inl lk_Term_depth_self)))) (fun cl C s H fp pins => pg_name (i := 0) (show (["part"] : List Str).Nodup by decide +kernel) rfl (Or.inl (c_loc (by decide +kernel))) (.inr (c_loc (by decide +kernel)))) (fun cl C s H fp pins => vif_nil) (fun cl C s H fp pins => v_meth0 (methV_of (fun k => ih k) A.M_depth A.cl A.b_depth hr passE0) (v_var (i := 0) rfl (c_vloc (by decide +kernel))))) (v_int))))
    | ent =>
      exact fn_V (A.F_depth .ent) sc_Term_depth (b_Term_depth A.c n) CM.len nice_Term_depth fun cdv A_ outer s H E hr => have hu := hr.units
        vs_one (vs_ret (v_op (o_add rfl) (v_int) (v_maxD rfl rfl lk_Term_depth_max B.max (v_comp rfl (frees_of ["part"] [] ["self"] (by decide +kernel)) (noFree rfl) (by decide +kernel) rfl (by decide +kernel) (fun y hy => PySem.mem_of_lookup hy) rfl (tg_name 0) (keeps_name (by decide)) noOw_name (vi_seq rfl (v_meth0 (methV_of (fun k => ok_parts A B (n + 1) k) A.M_parts A.cl A.b_parts (hr.mono (by show 1 <= _ + n; omega)) passes_fn) (v_var (i := 0) rfl (Or.inl lk_Term_depth_self)))) (fun cl C s H fp pins => pg_name (i := 0) (show (["part"] : List Str).Nodup by decide +kernel) rfl (Or.inl (c_loc (by decide +kernel))) (.inr (c_loc (by decide +kernel)))) (fun cl C s H fp pins => vif_nil) (fun cl C s H fp pins => v_meth0 (methV_of (fun k => ih k) A.M_depth A.cl A.b_depth hr passE0) (v_var (i := 0) rfl (c_vloc (by decide +kernel))))) (v_int))))
    | neg =>
      exact fn_V (A.F_depth .neg) sc_Term_depth (b_Term_depth A.c n) CM.len nice_Term_depth fun cdv A_ outer s H E hr => have hu := hr.units
        vs_one (vs_ret (v_op (o_add rfl) (v_int) (v_maxD rfl rfl lk_Term_depth_max B.max (v_comp rfl (frees_of ["part"] [] ["self"] (by decide +kernel)) (noFree rfl) (by decide +kernel) rfl (by decide +kernel) (fun y hy => PySem.mem_of_lookup hy) rfl (tg_name 0) (keeps_name (by decide)) noOw_name (vi_seq rfl (v_meth0 (methV_of (fun k => ok_parts A B (n + 1) k) A.M_parts A.cl A.b_parts (hr.mono (by show 1 <= _ + n; omega)) passes_fn) (v_var (i := 0) rfl (Or.inl lk_Term_depth_self)))) (fun cl C s H fp pins => pg_name (i := 0) (show (["part"] : List Str).Nodup by decide +kernel) rfl (Or.inl (c_loc (by decide +kernel))) (.inr (c_loc (by decide +kernel)))) (fun cl C s H fp pins => vif_nil) (fun cl C s H fp pins => v_meth0 (methV_of (fun k => ih k) A.M_depth A.cl A.b_depth hr passE0) (v_var (i := 0) rfl (c_vloc (by decide +kernel))))) (v_int))))
    | bin b =>
      exact fn_V (A.F_depth (.bin b)) sc_Term_depth (b_Term_depth A.c n) CM.len nice_Term_depth fun cdv A_ outer s H E hr => have hu := hr.units
        vs_one (vs_ret (v_op (o_add rfl) (v_int) (v_maxD rfl rfl lk_Term_depth_max B.max (v_comp rfl (frees_of ["part"] [] ["self"] (by decide +kernel)) (noFree rfl) (by decide +kernel) rfl (by decide +kernel) (fun y hy => PySem.mem_of_lookup hy) rfl (tg_name 0) (keeps_name (by decide)) noOw_name (vi_seq rfl (v_meth0 (methV_of (fun k => ok_parts A B (n + 1) k) A.M_parts A.cl A.b_parts (hr.mono (by show 1 <= _ + n; omega)) passes_fn) (v_var (i := 0) rfl (Or.inl lk_Term_depth_self)))) (fun cl C s H fp pins => pg_name (i := 0) (show (["part"] : List Str).Nodup by decide +kernel) rfl (Or.inl (c_loc (by decide +kernel))) (.inr (c_loc (by decide +kernel)))) (fun cl C s H fp pins => vif_nil) (fun cl C s H fp pins => v_meth0 (methV_of (fun k => ih k) A.M_depth A.cl A.b_depth hr passE0) (v_var (i := 0) rfl (c_vloc (by decide +kernel))))) (v_int))))
    | sum =>
      exact fn_V (A.F_depth .sum) sc_Term_depth (b_Term_depth A.c n) CM.len nice_Term_depth fun cdv A_ outer s H E hr => have hu := hr.units
        vs_one (vs_ret (v_op (o_add rfl) (v_int) (v_maxD rfl rfl lk_Term_depth_max B.max (v_comp rfl (frees_of ["part"] [] ["self"] (by decide +kernel)) (noFree rfl) (by decide +kernel) rfl (by decide +kernel) (fun y hy => PySem.mem_of_lookup hy) rfl (tg_name 0) (keeps_name (by decide)) noOw_name (vi_seq rfl (v_meth0 (methV_of (fun k => ok_parts A B (n + 1) k) A.M_parts A.cl A.b_parts (hr.mono (by show 1 <= _ + n; omega)) passes_fn) (v_var (i := 0) rfl (Or.inl lk_Term_depth_self)))) (fun cl C s H fp pins => pg_name (i := 0) (show (["part"] : List Str).Nodup by decide +kernel) rfl (Or.inl (c_loc (by decide +kernel))) (.inr (c_loc (by decide +kernel)))) (fun cl C s H fp pins => vif_nil) (fun cl C s H fp pins => v_meth0 (methV_of (fun k => ih k) A.M_depth A.cl A.b_depth hr passE0) (v_var (i := 0) rfl (c_vloc (by decide +kernel))))) (v_int))))
end
end Pw
set_option Elab.async false
set_option linter.all false
set_option maxRecDepth 100000
set_option maxHeartbeats 4000000
namespace Pw
open PySem L2
seal PE PT PW PA PS PSs PG PGs PI PIf PO PJ
section
variable {P : Program} {w : World} {K : PySem.W.Frag} {mg : Str -> Option Value} {base : Heap} {f : Addr} {fd : FuncData}
def CE (c : Kd -> Addr) (n : Nat) (k : Kd) : Ct := fun ts P => ∃ t, kd t = k /\ ts = [enc c t] /\ dp t <= n /\ dp t <= 16 /\ Tok t /\ ∀ D, P (.ok (.ow D (ents t)))
theorem CE.len {c : Kd -> Addr} {n : Nat} {k : Kd} : ∀ ts Q, CE c n k ts Q -> ts.length = 1 := fun ts Q ⟨_, _, e, _⟩ => by rw [e]; rfl
theorem CE.zero {c : Kd -> Addr} {k : Kd} : ∀ ts Q, CE c 0 k ts Q -> False := fun ts Q ⟨t, _, _, h, _⟩ => absurd (dp_pos t) (by omega)
theorem ents_len : ∀ t : Trm, (ents t).length <= 2 ^ dp t
  | .num _ => Nat.zero_le _
  | .ent _ _ => by show 1 <= 2 ^ 1; decide
  | .neg t => by show (ents t).length <= 2 ^ (1 + dp t); have := ents_len t; have : 2 ^ (1 + dp t) = 2 * 2 ^ dp t := by rw [Nat.pow_add]
                 omega
  | .sum _ _ t => by show (ents t).length <= 2 ^ (1 + dp t); have := ents_len t; have : 2 ^ (1 + dp t) = 2 * 2 ^ dp t := by rw [Nat.pow_add]
                     omega
  | .bin _ a b => by
    show (ents a ++ ents b).length <= 2 ^ (1 + max (dp a) (dp b))
    have h1 := ents_len a
    have h2 := ents_len b
    have e : 2 ^ (1 + max (dp a) (dp b)) = 2 * 2 ^ max (dp a) (dp b) := by rw [Nat.pow_add]
    have h3 : 2 ^ dp a <= 2 ^ max (dp a) (dp b) := Nat.pow_le_pow_right (by decide) (Nat.le_max_left ..)
    have h4 : 2 ^ dp b <= 2 ^ max (dp a) (dp b) := Nat.pow_le_pow_right (by decide) (Nat.le_max_right ..)
    rw [List.length_append]
    omega
theorem ents_few {t : Trm} (h : dp t <= 16) : (ents t).length <= 65536 := Nat.le_trans (ents_len t) (Nat.pow_le_pow_right (n := 2) (by decide) h)
def b_Term_entries_2 (cc : Kd -> Addr) (n : Nat) : Sv := vRetO 1
def b_Term_entries_1s (cc : Kd -> Addr) (n : Nat) : Sv := vFor (vSeqI (vMeth (DM cc (CM cc (prtV cc) (n + 1))) "parts" (vVar 0) [])) (gV 2) (vExt 1 (vMeth (DM cc (CE cc n)) "entries" (vVar 2) []))
def b_Term_entries_1 (cc : Kd -> Addr) (n : Nat) : Sv := vSeq (b_Term_entries_1s cc n) (b_Term_entries_2 cc n)
def b_Term_entries_0s (cc : Kd -> Addr) (n : Nat) : Sv := vNewL 1 []
def b_Term_entries (cc : Kd -> Addr) (n : Nat) : Sv :=
  vSeq (b_Term_entries_0s cc n) (b_Term_entries_1 cc n)
theorem sc_Term_entries : FnScope ["self", "found", "part"] ["self"] (defScope s_Term_entries) := ⟨rfl, rfl, rfl, by decide +kernel, rfl, by decide +kernel, by decide +kernel⟩
theorem lk_Term_entries_self : Lk s_Term_entries "self" .local := by decide +kernel
theorem lk_Term_entries_found : Lk s_Term_entries "found" .local := by decide +kernel
theorem lk_Term_entries_part : Lk s_Term_entries "part" .local := by decide +kernel
def b_Entry_entries (cc : Kd -> Addr) (n : Nat) : Sv :=
  vRetL [vTup [vFld (KdD cc) "name" (vVar 0), vFld (KdD cc) "places" (vVar 0)]]
theorem sc_Entry_entries : FnScope ["self"] ["self"] (defScope s_Entry_entries) := ⟨rfl, rfl, rfl, by decide +kernel, rfl, by decide +kernel, by decide +kernel⟩
theorem lk_Entry_entries_self : Lk s_Entry_entries "self" .local := by decide +kernel
theorem nice_Entry_entries {c : Kd -> Addr} {n : Nat} : ∀ ts Q, CE c (n + 1) .ent ts Q -> bodyC 1 (b_Entry_entries c n) ts Q := by
  rintro ts Q ⟨t, hk, rfl, hd, h16, ok, q⟩
  cases t with
  | ent m ks => exact ⟨⟨_, rfl⟩, _, rfl, ⟨_, rfl⟩, _, rfl, fun D => q D⟩
  | _ => cases hk
theorem nice_Term_entries {c : Kd -> Addr} {n : Nat} {k : Kd} (hne : k ≠ .ent) : ∀ ts Q, CE c (n + 1) k ts Q -> bodyC 3 (b_Term_entries c n) ts Q := by
  rintro ts Q ⟨t, hk, rfl, hd, h16, ok, q⟩
  intro D
  cases t with
  | num a => exact ⟨no_meth (by decide) _, _, ⟨_, rfl, rfl⟩, .num a, rfl, rfl, hd, ok, q D⟩
  | ent m ks => exact absurd hk.symm hne
  | neg t =>
    have h1 : 1 + dp t <= n + 1 := hd
    have h2 : 1 + dp t <= 16 := h16
    have hz := ents_few (t := t) (by omega)
    exact ⟨no_meth (by decide) _, _, ⟨_, rfl, rfl⟩, .neg t, rfl, rfl, hd, ok, _, rfl, no_meth (by decide) _, _, ⟨_, rfl, rfl⟩, t, rfl, rfl, by omega, by omega, ok, fun _ => ⟨few_line' (by rw [List.length_nil]; omega), q D⟩⟩
  | sum b g t =>
    have h1 : 1 + dp t <= n + 1 := hd
    have h2 : 1 + dp t <= 16 := h16
    have hz := ents_few (t := t) (by omega)
    exact ⟨no_meth (by decide) _, _, ⟨_, rfl, rfl⟩, .sum b g t, rfl, rfl, hd, ok, _, rfl, no_meth (by decide) _, _, ⟨_, rfl, rfl⟩, t, rfl, rfl, by omega, by omega, ok.2.2, fun _ => ⟨few_line' (by rw [List.length_nil]; omega), q D⟩⟩
  | bin w a b =>
    have h1 : 1 + max (dp a) (dp b) <= n + 1 := hd
    have h2 : 1 + max (dp a) (dp b) <= 16 := h16
    have ha := ents_few (t := a) (by omega)
    have hb : (ents b).length <= 2 ^ dp b := ents_len b
    have hb2 : 2 ^ dp b <= 2 ^ 15 := Nat.pow_le_pow_right (by decide) (by omega)
    exact ⟨no_meth (by decide) _, _, ⟨_, rfl, rfl⟩, .bin w a b, rfl, rfl, hd, ok, _, rfl, no_meth (by decide) _, _, ⟨_, rfl, rfl⟩, a, rfl, rfl, by omega, by omega, ok.1, fun _ => ⟨few_line' (by rw [List.length_nil]; omega),
      _, rfl, no_meth (by decide) _, _, ⟨_, rfl, rfl⟩, b, rfl, rfl, by omega, by omega, ok.2, fun _ => ⟨few_line' (by rw [List.nil_append]; omega), q D⟩⟩⟩
theorem ok_entries (A : AllD K mg) (B : Blt mg) : ∀ n k, FnOk P w K mg base (CXF P w) (1 + n) (A.f_entries k) (A.d_entries k) ["self"] (spV K (CE A.c n k))
  | 0, _ => FnOk.none CE.zero
  | n + 1, k => by
    have ih := ok_entries A B n
    cases k with
    | num =>
      exact fn_V (A.F_entries .num) sc_Term_entries (b_Term_entries A.c n) CE.len (nice_Term_entries (by intro z; cases z)) fun cdv A_ outer s H E hr => have hu := hr.units
        vs_cons (vs_newL (i := 1) sc_Term_entries.nd rfl (Or.inl lk_Term_entries_found) va_nil)
          (vs_cons (vs_for pown_fn rfl (vi_seq rfl (v_meth0 (methV_of (fun k => ok_parts A B (n + 1) k) A.M_parts A.cl A.b_parts (hr.mono (by show 1 <= _ + n; omega)) passes_fn) (v_var (i := 0) rfl (Or.inl lk_Term_entries_self)))) (pg_name (i := 2) sc_Term_entries.nd rfl (Or.inl lk_Term_entries_part) (.inl rfl)) (tg_name 2) (vs_one (vs_ext (i := 1) rfl rfl (Or.inl lk_Term_entries_found) (v_meth0 (methV_of (fun k => ih k) A.M_entries A.cl A.b_entries hr passes_fn) (v_var (i := 2) rfl (Or.inl lk_Term_entries_part))))))
          (vs_one (vs_retO (i := 1) rfl (Or.inl lk_Term_entries_found))))
    | ent =>
      exact fn_V (A.F_entries .ent) sc_Entry_entries (b_Entry_entries A.c n) CE.len nice_Entry_entries fun cdv A_ outer s H E hr => have hu := hr.units
        vs_one (vs_retL (hz := Nat.le_of_ble_eq_true rfl) (va_Tuple (v_tup (hz := Nat.le_of_ble_eq_true rfl) (va_Attribute (v_fld rfl (A.fld (by decide)) (v_var (i := 0) rfl (Or.inl lk_Entry_entries_self))) (va_Attribute (v_fld rfl (A.fld (by decide)) (v_var (i := 0) rfl (Or.inl lk_Entry_entries_self))) va_nil))) va_nil))
    | neg =>
      exact fn_V (A.F_entries .neg) sc_Term_entries (b_Term_entries A.c n) CE.len (nice_Term_entries (by intro z; cases z)) fun cdv A_ outer s H E hr => have hu := hr.units
        vs_cons (vs_newL (i := 1) sc_Term_entries.nd rfl (Or.inl lk_Term_entries_found) va_nil)
          (vs_cons (vs_for pown_fn rfl (vi_seq rfl (v_meth0 (methV_of (fun k => ok_parts A B (n + 1) k) A.M_parts A.cl A.b_parts (hr.mono (by show 1 <= _ + n; omega)) passes_fn) (v_var (i := 0) rfl (Or.inl lk_Term_entries_self)))) (pg_name (i := 2) sc_Term_entries.nd rfl (Or.inl lk_Term_entries_part) (.inl rfl)) (tg_name 2) (vs_one (vs_ext (i := 1) rfl rfl (Or.inl lk_Term_entries_found) (v_meth0 (methV_of (fun k => ih k) A.M_entries A.cl A.b_entries hr passes_fn) (v_var (i := 2) rfl (Or.inl lk_Term_entries_part))))))
          (vs_one (vs_retO (i := 1) rfl (Or.inl lk_Term_entries_found))))
    | bin b =>
      exact fn_V (A.F_entries (.bin b)) sc_Term_entries (b_Term_entries A.c n) CE.len (nice_Term_entries (by intro z; cases z)) fun cdv A_ outer s H E hr => have hu := hr.units
        vs_cons (vs_newL (i := 1) sc_Term_entries.nd rfl (Or.inl lk_Term_entries_found) va_nil)
          (vs_cons (vs_for pown_fn rfl (vi_seq rfl (v_meth0 (methV_of (fun k => ok_parts A B (n + 1) k) A.M_parts A.cl A.b_parts (hr.mono (by show 1 <= _ + n; omega)) passes_fn) (v_var (i := 0) rfl (Or.inl lk_Term_entries_self)))) (pg_name (i := 2) sc_Term_entries.nd rfl (Or.inl lk_Term_entries_part) (.inl rfl)) (tg_name 2) (vs_one (vs_ext (i := 1) rfl rfl (Or.inl lk_Term_entries_found) (v_meth0 (methV_of (fun k => ih k) A.M_entries A.cl A.b_entries hr passes_fn) (v_var (i := 2) rfl (Or.inl lk_Term_entries_part))))))
          (vs_one (vs_retO (i := 1) rfl (Or.inl lk_Term_entries_found))))
    | sum =>
      exact fn_V (A.F_entries .sum) sc_Term_entries (b_Term_entries A.c n) CE.len (nice_Term_entries (by intro z; cases z)) fun cdv A_ outer s H E hr => have hu := hr.units
        vs_cons (vs_newL (i := 1) sc_Term_entries.nd rfl (Or.inl lk_Term_entries_found) va_nil)
          (vs_cons (vs_for pown_fn rfl (vi_seq rfl (v_meth0 (methV_of (fun k => ok_parts A B (n + 1) k) A.M_parts A.cl A.b_parts (hr.mono (by show 1 <= _ + n; omega)) passes_fn) (v_var (i := 0) rfl (Or.inl lk_Term_entries_self)))) (pg_name (i := 2) sc_Term_entries.nd rfl (Or.inl lk_Term_entries_part) (.inl rfl)) (tg_name 2) (vs_one (vs_ext (i := 1) rfl rfl (Or.inl lk_Term_entries_found) (v_meth0 (methV_of (fun k => ih k) A.M_entries A.cl A.b_entries hr passes_fn) (v_var (i := 2) rfl (Or.inl lk_Term_entries_part))))))
          (vs_one (vs_retO (i := 1) rfl (Or.inl lk_Term_entries_found))))
end
end Pw
set_option Elab.async false
set_option linter.all false
set_option maxRecDepth 100000
set_option maxHeartbeats 4000000
namespace Pw
open PySem L2
seal PE PT PW PA PS PSs PG PGs PI PIf PO PJ
section
variable {P : Program} {w : World} {K : PySem.W.Frag} {mg : Str -> Option Value} {base : Heap} {f : Addr} {fd : FuncData}
def CP (c : Kd -> Addr) (n : Nat) (k : Kd) : Ct := fun ts P => ∃ t b m, kd t = k /\ ts = [enc c t, .str b, .str m] /\ dp t <= n /\ Tok t /\ P (.ok (.va (enc c (putT b m t))))
theorem CP.len {c : Kd -> Addr} {n : Nat} {k : Kd} : ∀ ts Q, CP c n k ts Q -> ts.length = 3 := fun ts Q ⟨_, _, _, _, e, _⟩ => by rw [e]; rfl
theorem CP.zero {c : Kd -> Addr} {k : Kd} : ∀ ts Q, CP c 0 k ts Q -> False := fun ts Q ⟨t, _, _, _, _, h, _⟩ => absurd (dp_pos t) (by omega)
def b_Number_put (cc : Kd -> Addr) (n : Nat) : Sv :=
  vRet (vNew (cc .num) ["worth"] W_Number [vFld (KdD cc) "worth" (vVar 0)])
theorem sc_Number_put : FnScope ["self", "binder", "member"] ["self", "binder", "member"] (defScope s_Number_put) := ⟨rfl, rfl, rfl, by decide +kernel, rfl, by decide +kernel, by decide +kernel⟩
theorem lk_Number_put_self : Lk s_Number_put "self" .local := by decide +kernel
theorem lk_Number_put_Number : Lk s_Number_put "Number" .globalImplicit := by decide +kernel
def b_Entry_put (cc : Kd -> Addr) (n : Nat) : Sv :=
  vRet (vNew (cc .ent) ["name", "places"] W_Entry [vFld (KdD cc) "name" (vVar 0), vFn wTuple [vComp 1 [2, 1] (vSeqI (vFld (KdD cc) "places" (vVar 0))) (gV 0) (vYes) (vIf (vCmp wEq (vVar 0) (vVar 2)) (vVar 1) (vVar 0))]])
theorem sc_Entry_put : FnScope ["self", "binder", "member"] ["self", "binder", "member"] (defScope s_Entry_put) := ⟨rfl, rfl, rfl, by decide +kernel, rfl, by decide +kernel, by decide +kernel⟩
theorem lk_Entry_put_self : Lk s_Entry_put "self" .local := by decide +kernel
theorem lk_Entry_put_Entry : Lk s_Entry_put "Entry" .globalImplicit := by decide +kernel
theorem lk_Entry_put_tuple : Lk s_Entry_put "tuple" .globalImplicit := by decide +kernel
def b_Negative_put (cc : Kd -> Addr) (n : Nat) : Sv :=
  vRet (vNew (cc .neg) ["one"] W_Negative [vMeth (DM cc (CP cc n)) "put" (vFld (KdD cc) "one" (vVar 0)) [vVar 1, vVar 2]])
theorem sc_Negative_put : FnScope ["self", "binder", "member"] ["self", "binder", "member"] (defScope s_Negative_put) := ⟨rfl, rfl, rfl, by decide +kernel, rfl, by decide +kernel, by decide +kernel⟩
theorem lk_Negative_put_self : Lk s_Negative_put "self" .local := by decide +kernel
theorem lk_Negative_put_binder : Lk s_Negative_put "binder" .local := by decide +kernel
theorem lk_Negative_put_member : Lk s_Negative_put "member" .local := by decide +kernel
theorem lk_Negative_put_Negative : Lk s_Negative_put "Negative" .globalImplicit := by decide +kernel
def b_Plus_put (cc : Kd -> Addr) (n : Nat) : Sv :=
  vRet (vNew (cc (.bin 0)) ["word", "mark", "one", "other"] W_Plus [vMeth (DM cc (CP cc n)) "put" (vFld (KdD cc) "one" (vVar 0)) [vVar 1, vVar 2], vMeth (DM cc (CP cc n)) "put" (vFld (KdD cc) "other" (vVar 0)) [vVar 1, vVar 2]])
theorem sc_Plus_put : FnScope ["self", "binder", "member"] ["self", "binder", "member"] (defScope s_Plus_put) := ⟨rfl, rfl, rfl, by decide +kernel, rfl, by decide +kernel, by decide +kernel⟩
theorem lk_Plus_put_self : Lk s_Plus_put "self" .local := by decide +kernel
theorem lk_Plus_put_binder : Lk s_Plus_put "binder" .local := by decide +kernel
theorem lk_Plus_put_member : Lk s_Plus_put "member" .local := by decide +kernel
theorem lk_Plus_put_Plus : Lk s_Plus_put "Plus" .globalImplicit := by decide +kernel
def b_Minus_put (cc : Kd -> Addr) (n : Nat) : Sv :=
  vRet (vNew (cc (.bin 1)) ["word", "mark", "one", "other"] W_Minus [vMeth (DM cc (CP cc n)) "put" (vFld (KdD cc) "one" (vVar 0)) [vVar 1, vVar 2], vMeth (DM cc (CP cc n)) "put" (vFld (KdD cc) "other" (vVar 0)) [vVar 1, vVar 2]])
theorem sc_Minus_put : FnScope ["self", "binder", "member"] ["self", "binder", "member"] (defScope s_Minus_put) := ⟨rfl, rfl, rfl, by decide +kernel, rfl, by decide +kernel, by decide +kernel⟩
theorem lk_Minus_put_self : Lk s_Minus_put "self" .local := by decide +kernel
theorem lk_Minus_put_binder : Lk s_Minus_put "binder" .local := by decide +kernel
theorem lk_Minus_put_member : Lk s_Minus_put "member" .local := by decide +kernel
theorem lk_Minus_put_Minus : Lk s_Minus_put "Minus" .globalImplicit := by decide +kernel
def b_Times_put (cc : Kd -> Addr) (n : Nat) : Sv :=
  vRet (vNew (cc (.bin 2)) ["word", "mark", "one", "other"] W_Times [vMeth (DM cc (CP cc n)) "put" (vFld (KdD cc) "one" (vVar 0)) [vVar 1, vVar 2], vMeth (DM cc (CP cc n)) "put" (vFld (KdD cc) "other" (vVar 0)) [vVar 1, vVar 2]])
theorem sc_Times_put : FnScope ["self", "binder", "member"] ["self", "binder", "member"] (defScope s_Times_put) := ⟨rfl, rfl, rfl, by decide +kernel, rfl, by decide +kernel, by decide +kernel⟩
theorem lk_Times_put_self : Lk s_Times_put "self" .local := by decide +kernel
theorem lk_Times_put_binder : Lk s_Times_put "binder" .local := by decide +kernel
theorem lk_Times_put_member : Lk s_Times_put "member" .local := by decide +kernel
theorem lk_Times_put_Times : Lk s_Times_put "Times" .globalImplicit := by decide +kernel
def b_Sum_put (cc : Kd -> Addr) (n : Nat) : Sv :=
  vSeq (vIfS (vCmp wEq (vVar 1) (vFld (KdD cc) "binder" (vVar 0))) (vRet (vNew (cc .sum) ["binder", "group", "one"] W_Sum [vFld (KdD cc) "binder" (vVar 0), vFld (KdD cc) "group" (vVar 0), vFld (KdD cc) "one" (vVar 0)])) (vNext))
  (vRet (vNew (cc .sum) ["binder", "group", "one"] W_Sum [vFld (KdD cc) "binder" (vVar 0), vFld (KdD cc) "group" (vVar 0), vMeth (DM cc (CP cc n)) "put" (vFld (KdD cc) "one" (vVar 0)) [vVar 1, vVar 2]]))
theorem sc_Sum_put : FnScope ["self", "binder", "member"] ["self", "binder", "member"] (defScope s_Sum_put) := ⟨rfl, rfl, rfl, by decide +kernel, rfl, by decide +kernel, by decide +kernel⟩
theorem lk_Sum_put_self : Lk s_Sum_put "self" .local := by decide +kernel
theorem lk_Sum_put_binder : Lk s_Sum_put "binder" .local := by decide +kernel
theorem lk_Sum_put_member : Lk s_Sum_put "member" .local := by decide +kernel
theorem lk_Sum_put_Sum : Lk s_Sum_put "Sum" .globalImplicit := by decide +kernel
theorem nice_Number_put {c : Kd -> Addr} {n : Nat} : ∀ ts Q, CP c (n + 1) .num ts Q -> bodyC 3 (b_Number_put c n) ts Q := by
  rintro ts Q ⟨t, b, m, hk, rfl, hd, ok, q⟩
  cases t with
  | num a => exact ⟨⟨_, rfl⟩, _, rfl, _, rfl, q⟩
  | _ => cases hk
theorem put_few {ks : List Str} (h : ks.length <= 10) : (ks.map Tv.str).length < sizeLine := few_line (by rw [List.length_map]; omega)
theorem nice_Entry_put {c : Kd -> Addr} {n : Nat} : ∀ ts Q, CP c (n + 1) .ent ts Q -> bodyC 3 (b_Entry_put c n) ts Q := by
  rintro ts Q ⟨t, b, m, hk, rfl, hd, ok, q⟩
  cases t with
  | ent x ks =>
    refine ⟨⟨_, rfl⟩, _, rfl, ⟨_, rfl⟩, _, rfl, put_few ok.2.1, compW_enc (α := Str) Tv.str (fun k => Tv.str (if k = b then m else k)) (fun k hk' Ky Kn h => ⟨_, rfl, rfl, ?_⟩) ?_⟩
    · refine ite_go (fun e => ?_) fun e => ?_
      · rw [if_pos (of_decide_eq_true e)] at h; exact ⟨rfl, h⟩
      · rw [if_neg (of_decide_eq_false e)] at h; exact ⟨rfl, h⟩
    · refine ⟨_, putK b m ks, ?_, q⟩
      unfold putK encK
      rw [List.map_map]
      rfl
  | _ => cases hk
theorem nice_Negative_put {c : Kd -> Addr} {n : Nat} : ∀ ts Q, CP c (n + 1) .neg ts Q -> bodyC 3 (b_Negative_put c n) ts Q := by
  rintro ts Q ⟨t, b, m, hk, rfl, hd, ok, q⟩
  cases t with
  | neg t =>
    have h1 : 1 + dp t <= n + 1 := hd
    exact ⟨⟨_, rfl⟩, _, rfl, no_meth (by decide) _, _, ⟨_, rfl, rfl⟩, t, b, m, rfl, rfl, by omega, ok, _, rfl, q⟩
  | _ => cases hk
theorem nice_Plus_put {c : Kd -> Addr} {n : Nat} : ∀ ts Q, CP c (n + 1) (.bin 0) ts Q -> bodyC 3 (b_Plus_put c n) ts Q := by
  rintro ts Q ⟨t, b, m, hk, rfl, hd, ok, q⟩
  cases t with
  | bin w x y =>
    have h1 : 1 + max (dp x) (dp y) <= n + 1 := hd
    cases hk
    exact ⟨⟨_, rfl⟩, _, rfl, no_meth (by decide) _, _, ⟨_, rfl, rfl⟩, x, b, m, rfl, rfl, by omega, ok.1, ⟨_, rfl⟩, _, rfl, no_meth (by decide) _, _, ⟨_, rfl, rfl⟩, y, b, m, rfl, rfl, by omega, ok.2, _, _, rfl, q⟩
  | _ => cases hk
theorem nice_Minus_put {c : Kd -> Addr} {n : Nat} : ∀ ts Q, CP c (n + 1) (.bin 1) ts Q -> bodyC 3 (b_Minus_put c n) ts Q := by
  rintro ts Q ⟨t, b, m, hk, rfl, hd, ok, q⟩
  cases t with
  | bin w x y =>
    have h1 : 1 + max (dp x) (dp y) <= n + 1 := hd
    cases hk
    exact ⟨⟨_, rfl⟩, _, rfl, no_meth (by decide) _, _, ⟨_, rfl, rfl⟩, x, b, m, rfl, rfl, by omega, ok.1, ⟨_, rfl⟩, _, rfl, no_meth (by decide) _, _, ⟨_, rfl, rfl⟩, y, b, m, rfl, rfl, by omega, ok.2, _, _, rfl, q⟩
  | _ => cases hk
theorem nice_Times_put {c : Kd -> Addr} {n : Nat} : ∀ ts Q, CP c (n + 1) (.bin 2) ts Q -> bodyC 3 (b_Times_put c n) ts Q := by
  rintro ts Q ⟨t, b, m, hk, rfl, hd, ok, q⟩
  cases t with
  | bin w x y =>
    have h1 : 1 + max (dp x) (dp y) <= n + 1 := hd
    cases hk
    exact ⟨⟨_, rfl⟩, _, rfl, no_meth (by decide) _, _, ⟨_, rfl, rfl⟩, x, b, m, rfl, rfl, by omega, ok.1, ⟨_, rfl⟩, _, rfl, no_meth (by decide) _, _, ⟨_, rfl, rfl⟩, y, b, m, rfl, rfl, by omega, ok.2, _, _, rfl, q⟩
  | _ => cases hk
theorem nice_Sum_put {c : Kd -> Addr} {n : Nat} : ∀ ts Q, CP c (n + 1) .sum ts Q -> bodyC 3 (b_Sum_put c n) ts Q := by
  rintro ts Q ⟨t, b, m, hk, rfl, hd, ok, q⟩
  cases t with
  | sum d g t =>
    have h1 : 1 + dp t <= n + 1 := hd
    have q : Q (.ok (.va (enc c (if b = d then .sum d g t else .sum d g (putT b m t))))) := q
    refine ⟨⟨_, rfl⟩, _, rfl, ite_go (fun e => ?_) fun e => ?_⟩
    · rw [if_pos (of_decide_eq_true e)] at q
      exact ⟨⟨_, rfl⟩, _, rfl, ⟨_, rfl⟩, _, rfl, ⟨_, rfl⟩, _, rfl, _, _, _, rfl, q⟩
    · rw [if_neg (of_decide_eq_false e)] at q
      exact ⟨⟨_, rfl⟩, _, rfl, ⟨_, rfl⟩, _, rfl, ⟨_, rfl⟩, _, rfl, no_meth (by decide) _, _, ⟨_, rfl, rfl⟩, t, b, m, rfl, rfl, by omega, ok.2.2, _, _, _, rfl, q⟩
  | _ => cases hk
theorem ok_put (A : AllD K mg) (B : Blt mg) : ∀ n k, FnOk P w K mg base (CXF P w) (3 + n) (A.f_put k) (A.d_put k) ["self", "binder", "member"] (spV K (CP A.c n k))
  | 0, _ => FnOk.none CP.zero
  | n + 1, k => by
    have ih := ok_put A B n
    match k with
    | .num =>
      exact fn_V (A.F_put .num) sc_Number_put (b_Number_put A.c n) CP.len nice_Number_put fun cdv A_ outer s H E hr => have hu := hr.units
        vs_one (vs_ret (v_new rfl (A.mkI .num) (ok_ini_Number A) (hr.mono (by show _ <= 3 + n; omega)) lk_Number_put_Number A.m_Number (A.bi .num) (va_Attribute (v_fld rfl (A.fld (by decide)) (v_var (i := 0) rfl (Or.inl lk_Number_put_self))) va_nil)))
    | .ent =>
      exact fn_V (A.F_put .ent) sc_Entry_put (b_Entry_put A.c n) CP.len nice_Entry_put fun cdv A_ outer s H E hr => have hu := hr.units
        vs_one (vs_ret (v_new rfl (A.mkI .ent) (ok_ini_Entry A B) (hr.mono (by show _ <= 3 + n; omega)) lk_Entry_put_Entry A.m_Entry (A.bi .ent) (va_Attribute (v_fld rfl (A.fld (by decide)) (v_var (i := 0) rfl (Or.inl lk_Entry_put_self))) (va_Call (v_fnT (f_tuple rfl) lk_Entry_put_tuple B.tuple bt_tuple (va_ListComp (v_comp rfl (frees_of ["key"] [("member", 2), ("binder", 1)] ["self", "binder", "member"] (by decide +kernel)) (visC s_Entry_put (by decide +kernel)) (by decide +kernel) rfl (by decide +kernel) (fun y hy => PySem.mem_of_lookup hy) rfl (tg_name 0) (keeps_name (by decide)) noOw_name (vi_seq rfl (v_fld rfl (A.fld (by decide)) (v_var (i := 0) rfl (Or.inl lk_Entry_put_self)))) (fun cl C s H fp pins => pg_name (i := 0) (show (["key", "member", "binder"] : List Str).Nodup by decide +kernel) rfl (Or.inl (c_loc (by decide +kernel))) (.inr (c_loc (by decide +kernel)))) (fun cl C s H fp pins => vif_nil) (fun cl C s H fp pins => v_ifE (vt_cmp (o_eq rfl hu) (v_var (i := 0) rfl (c_vloc (by decide +kernel))) (v_var (i := 2) rfl (c_free (by decide +kernel))) (nomark _)) (v_var (i := 1) rfl (c_free (by decide +kernel))) (v_var (i := 0) rfl (c_vloc (by decide +kernel))))) va_nil)) va_nil))))
    | .neg =>
      exact fn_V (A.F_put .neg) sc_Negative_put (b_Negative_put A.c n) CP.len nice_Negative_put fun cdv A_ outer s H E hr => have hu := hr.units
        vs_one (vs_ret (v_new rfl (A.mkI .neg) (ok_ini_Negative A) (hr.mono (by show _ <= 3 + n; omega)) lk_Negative_put_Negative A.m_Negative (A.bi .neg) (va_Call (v_meth (methV_of (fun k => ih k) A.M_put A.cl A.b_put hr passes_fn) (v_fld rfl (A.fld (by decide)) (v_var (i := 0) rfl (Or.inl lk_Negative_put_self))) (va_Name (v_var (i := 1) rfl (Or.inl lk_Negative_put_binder)) (va_Name (v_var (i := 2) rfl (Or.inl lk_Negative_put_member)) va_nil))) va_nil)))
    | .bin 0 =>
      exact fn_V (A.F_put (.bin 0)) sc_Plus_put (b_Plus_put A.c n) CP.len nice_Plus_put fun cdv A_ outer s H E hr => have hu := hr.units
        vs_one (vs_ret (v_new rfl (A.mkI (.bin 0)) (ok_ini_Plus A) (hr.mono (by show _ <= 3 + n; omega)) lk_Plus_put_Plus A.m_Plus (A.bi (.bin 0)) (va_Call (v_meth (methV_of (fun k => ih k) A.M_put A.cl A.b_put hr passes_fn) (v_fld rfl (A.fld (by decide)) (v_var (i := 0) rfl (Or.inl lk_Plus_put_self))) (va_Name (v_var (i := 1) rfl (Or.inl lk_Plus_put_binder)) (va_Name (v_var (i := 2) rfl (Or.inl lk_Plus_put_member)) va_nil))) (va_Call (v_meth (methV_of (fun k => ih k) A.M_put A.cl A.b_put hr passes_fn) (v_fld rfl (A.fld (by decide)) (v_var (i := 0) rfl (Or.inl lk_Plus_put_self))) (va_Name (v_var (i := 1) rfl (Or.inl lk_Plus_put_binder)) (va_Name (v_var (i := 2) rfl (Or.inl lk_Plus_put_member)) va_nil))) va_nil))))
    | .bin 1 =>
      exact fn_V (A.F_put (.bin 1)) sc_Minus_put (b_Minus_put A.c n) CP.len nice_Minus_put fun cdv A_ outer s H E hr => have hu := hr.units
        vs_one (vs_ret (v_new rfl (A.mkI (.bin 1)) (ok_ini_Minus A) (hr.mono (by show _ <= 3 + n; omega)) lk_Minus_put_Minus A.m_Minus (A.bi (.bin 1)) (va_Call (v_meth (methV_of (fun k => ih k) A.M_put A.cl A.b_put hr passes_fn) (v_fld rfl (A.fld (by decide)) (v_var (i := 0) rfl (Or.inl lk_Minus_put_self))) (va_Name (v_var (i := 1) rfl (Or.inl lk_Minus_put_binder)) (va_Name (v_var (i := 2) rfl (Or.inl lk_Minus_put_member)) va_nil))) (va_Call (v_meth (methV_of (fun k => ih k) A.M_put A.cl A.b_put hr passes_fn) (v_fld rfl (A.fld (by decide)) (v_var (i := 0) rfl (Or.inl lk_Minus_put_self))) (va_Name (v_var (i := 1) rfl (Or.inl lk_Minus_put_binder)) (va_Name (v_var (i := 2) rfl (Or.inl lk_Minus_put_member)) va_nil))) va_nil))))
    | .bin 2 =>
      exact fn_V (A.F_put (.bin 2)) sc_Times_put (b_Times_put A.c n) CP.len nice_Times_put fun cdv A_ outer s H E hr => have hu := hr.units
        vs_one (vs_ret (v_new rfl (A.mkI (.bin 2)) (ok_ini_Times A) (hr.mono (by show _ <= 3 + n; omega)) lk_Times_put_Times A.m_Times (A.bi (.bin 2)) (va_Call (v_meth (methV_of (fun k => ih k) A.M_put A.cl A.b_put hr passes_fn) (v_fld rfl (A.fld (by decide)) (v_var (i := 0) rfl (Or.inl lk_Times_put_self))) (va_Name (v_var (i := 1) rfl (Or.inl lk_Times_put_binder)) (va_Name (v_var (i := 2) rfl (Or.inl lk_Times_put_member)) va_nil))) (va_Call (v_meth (methV_of (fun k => ih k) A.M_put A.cl A.b_put hr passes_fn) (v_fld rfl (A.fld (by decide)) (v_var (i := 0) rfl (Or.inl lk_Times_put_self))) (va_Name (v_var (i := 1) rfl (Or.inl lk_Times_put_binder)) (va_Name (v_var (i := 2) rfl (Or.inl lk_Times_put_member)) va_nil))) va_nil))))
    | .sum =>
      exact fn_V (A.F_put .sum) sc_Sum_put (b_Sum_put A.c n) CP.len nice_Sum_put fun cdv A_ outer s H E hr => have hu := hr.units
        vs_cons (vs_if (vt_cmp (o_eq rfl hu) (v_var (i := 1) rfl (Or.inl lk_Sum_put_binder)) (v_fld rfl (A.fld (by decide)) (v_var (i := 0) rfl (Or.inl lk_Sum_put_self))) (nomark _)) (vs_one (vs_ret (v_new rfl (A.mkI .sum) (ok_ini_Sum A) (hr.mono (by show _ <= 3 + n; omega)) lk_Sum_put_Sum A.m_Sum (A.bi .sum) (va_Attribute (v_fld rfl (A.fld (by decide)) (v_var (i := 0) rfl (Or.inl lk_Sum_put_self))) (va_Attribute (v_fld rfl (A.fld (by decide)) (v_var (i := 0) rfl (Or.inl lk_Sum_put_self))) (va_Attribute (v_fld rfl (A.fld (by decide)) (v_var (i := 0) rfl (Or.inl lk_Sum_put_self))) va_nil)))))) (vs_nil))
          (vs_one (vs_ret (v_new rfl (A.mkI .sum) (ok_ini_Sum A) (hr.mono (by show _ <= 3 + n; omega)) lk_Sum_put_Sum A.m_Sum (A.bi .sum) (va_Attribute (v_fld rfl (A.fld (by decide)) (v_var (i := 0) rfl (Or.inl lk_Sum_put_self))) (va_Attribute (v_fld rfl (A.fld (by decide)) (v_var (i := 0) rfl (Or.inl lk_Sum_put_self))) (va_Call (v_meth (methV_of (fun k => ih k) A.M_put A.cl A.b_put hr passes_fn) (v_fld rfl (A.fld (by decide)) (v_var (i := 0) rfl (Or.inl lk_Sum_put_self))) (va_Name (v_var (i := 1) rfl (Or.inl lk_Sum_put_binder)) (va_Name (v_var (i := 2) rfl (Or.inl lk_Sum_put_member)) va_nil))) va_nil))))))
end
end Pw
set_option Elab.async false
set_option linter.all false
set_option maxRecDepth 100000
set_option maxHeartbeats 4000000
namespace Pw
open PySem L2
seal PE PT PW PA PS PSs PG PGs PI PIf PO PJ
section
variable {P : Program} {w : World} {K : PySem.W.Frag} {mg : Str -> Option Value} {base : Heap} {f : Addr} {fd : FuncData}
theorem sum_le {M : Nat} : ∀ {l : List Nat}, (∀ n ∈ l, n <= M) -> l.sum <= l.length * M
  | [], _ => Nat.zero_le _
  | n :: l, h => by
    have h1 := h n List.mem_cons_self
    have h2 := sum_le (l := l) fun x hx => h x (List.mem_cons_of_mem _ hx)
    rw [List.sum_cons, List.length_cons, Nat.succ_mul]
    omega
theorem glued_len (g : Str) : ∀ (ys : List Str), (Txt.join g ys).length <= (ys.map (·.length)).sum + ys.length * g.length := by
  intro ys
  show ((ys.drop 1).foldl (fun acc p => acc ++ g.cps ++ p.cps) (ys.headD Str.empty).cps).size <= _
  have key : ∀ (l : List Str) (acc : Array Nat), (l.foldl (fun acc p => acc ++ g.cps ++ p.cps) acc).size = acc.size + (l.map (·.length)).sum + l.length * g.length := by
    intro l
    induction l with
    | nil => intro acc; simp
    | cons y l ih =>
      intro acc
      rw [List.foldl_cons, ih, List.map_cons, List.sum_cons, List.length_cons, Nat.succ_mul]
      have : (acc ++ g.cps ++ y.cps).size = acc.size + g.length + y.length := by simp; exact (Nat.add_assoc _ _ _).symm
      omega
  rw [key]
  cases ys with
  | nil => simp; rfl
  | cons y ys =>
    rw [List.drop_one, List.tail_cons, List.headD_cons, List.map_cons, List.sum_cons, List.length_cons, Nat.succ_mul]
    show y.length + _ + _ <= _
    omega
theorem mn_zero {a : Fq} (h : Red a) : mnF (0, 1) a = (-a.1, a.2) := by
  have hp := h.pos
  have h2 : Red ((-a.1, a.2) : Fq) := ⟨h.1, by
    have := h.2
    show gd (-a.1) a.2 = 1
    rw [← this]
    unfold gd
    rw [Int.neg_gcd]⟩
  refine red_uniq (mk_red (by show (1 : Int) * a.2 ≠ 0; omega)) h2 ?_
  have := mk_cross (t := (0 : Int) * a.2 - a.1 * 1) (b := 1 * a.2) (by omega)
  show (mkF ((0 : Int) * a.2 - a.1 * 1) (1 * a.2)).1 * a.2 = -a.1 * (mkF ((0 : Int) * a.2 - a.1 * 1) (1 * a.2)).2
  have e1 : (1 : Int) * a.2 = a.2 := Int.one_mul _
  have e2 : (0 : Int) * a.2 - a.1 * 1 = -a.1 := by omega
  rw [e1, e2] at this ⊢
  exact this
theorem sg_neg {a : Fq} : sgF a < 0 ↔ a.1 < 0 := by
  unfold sgF
  split
  · omega
  · split <;> omega
theorem join_few {ks : List Str} (h : ks.length <= 10) (hk : ∀ k ∈ ks, Sn k) : (ks.map (·.length)).sum + ks.length * ((", " : Str)).length <= 1100 := by
  have h1 : (ks.map (·.length)).sum <= (ks.map (·.length)).length * 100 := sum_le fun n hn => by
    obtain ⟨y, hy, rfl⟩ := List.mem_map.mp hn
    exact hk y hy
  have h2 : ((", " : Str)).length = 2 := rfl
  rw [List.length_map] at h1
  rw [h2]
  omega
theorem shw_len : ∀ {t : Trm}, Tok t -> (shw t).length + 10 <= 1250 * 2 ^ dp t
  | .num a, ok => by
    have e0 : (("(- " : Str)).length = 3 := rfl
    have e1 : ((")" : Str)).length = 1 := rfl
    have e2 : (("(" : Str)).length = 1 := rfl
    have e3 : ((" " : Str)).length = 1 := rfl
    have e4 : (("sum(" : Str)).length = 4 := rfl
    have e5 : ((" in " : Str)).length = 4 := rfl
    have e6 : ((", " : Str)).length = 2 := rfl
    show (shN a).length + 10 <= 1250 * 2 ^ 1
    unfold shN
    have h1 := nT_len (a := a) ok.2
    have h2 := nT_len (a := (-a.1, a.2)) ⟨by simpa using ok.2.1, ok.2.2⟩
    split
    · rw [app_len, app_len, e0, e1]; omega
    · omega
  | .ent x ks, ok => by
    have e0 : (("(- " : Str)).length = 3 := rfl
    have e1 : ((")" : Str)).length = 1 := rfl
    have e2 : (("(" : Str)).length = 1 := rfl
    have e3 : ((" " : Str)).length = 1 := rfl
    have e4 : (("sum(" : Str)).length = 4 := rfl
    have e5 : ((" in " : Str)).length = 4 := rfl
    have e6 : ((", " : Str)).length = 2 := rfl
    show (if ks = [] then x else x ++ "(" ++ Txt.join ", " ks ++ ")").length + 10 <= 1250 * 2 ^ 1
    have h0 : x.length <= 100 := ok.1
    have h1 := glued_len ", " ks
    have h2 := join_few ok.2.1 ok.2.2
    split
    · omega
    · rw [app_len, app_len, app_len, e1, e2]; omega
  | .neg t, ok => by
    have e0 : (("(- " : Str)).length = 3 := rfl
    have e1 : ((")" : Str)).length = 1 := rfl
    have e2 : (("(" : Str)).length = 1 := rfl
    have e3 : ((" " : Str)).length = 1 := rfl
    have e4 : (("sum(" : Str)).length = 4 := rfl
    have e5 : ((" in " : Str)).length = 4 := rfl
    have e6 : ((", " : Str)).length = 2 := rfl
    have h := shw_len (t := t) ok
    have e : 2 ^ (1 + dp t) = 2 * 2 ^ dp t := by rw [Nat.pow_add]
    show ("(- " ++ shw t ++ ")").length + 10 <= 1250 * 2 ^ (1 + dp t)
    rw [app_len, app_len, e0, e1]; omega
  | .sum b g t, ok => by
    have e0 : (("(- " : Str)).length = 3 := rfl
    have e1 : ((")" : Str)).length = 1 := rfl
    have e2 : (("(" : Str)).length = 1 := rfl
    have e3 : ((" " : Str)).length = 1 := rfl
    have e4 : (("sum(" : Str)).length = 4 := rfl
    have e5 : ((" in " : Str)).length = 4 := rfl
    have e6 : ((", " : Str)).length = 2 := rfl
    have h := shw_len (t := t) ok.2.2
    have e : 2 ^ (1 + dp t) = 2 * 2 ^ dp t := by rw [Nat.pow_add]
    have hp : 0 < 2 ^ dp t := Nat.two_pow_pos _
    have h1 : b.length <= 100 := ok.1
    have h2 : g.length <= 100 := ok.2.1
    show ("sum(" ++ b ++ " in " ++ g ++ ", " ++ shw t ++ ")").length + 10 <= 1250 * 2 ^ (1 + dp t)
    rw [app_len, app_len, app_len, app_len, app_len, app_len, e4, e5, e6, e1]; omega
  | .bin w a b, ok => by
    have e0 : (("(- " : Str)).length = 3 := rfl
    have e1 : ((")" : Str)).length = 1 := rfl
    have e2 : (("(" : Str)).length = 1 := rfl
    have e3 : ((" " : Str)).length = 1 := rfl
    have e4 : (("sum(" : Str)).length = 4 := rfl
    have e5 : ((" in " : Str)).length = 4 := rfl
    have e6 : ((", " : Str)).length = 2 := rfl
    have h1 := shw_len (t := a) ok.1
    have h2 := shw_len (t := b) ok.2
    have e : 2 ^ (1 + max (dp a) (dp b)) = 2 * 2 ^ max (dp a) (dp b) := by rw [Nat.pow_add]
    have h3 : 2 ^ dp a <= 2 ^ max (dp a) (dp b) := Nat.pow_le_pow_right (by decide) (Nat.le_max_left ..)
    have h4 : 2 ^ dp b <= 2 ^ max (dp a) (dp b) := Nat.pow_le_pow_right (by decide) (Nat.le_max_right ..)
    have hm : (markB w).length = 1 := by match w with | 0 => rfl | 1 => rfl | 2 => rfl
    show ("(" ++ shw a ++ " " ++ markB w ++ " " ++ shw b ++ ")").length + 10 <= 1250 * 2 ^ (1 + max (dp a) (dp b))
    rw [app_len, app_len, app_len, app_len, app_len, app_len, e1, e2, e3, hm]; omega
theorem shw_few {t : Trm} (ok : Tok t) (h : dp t <= 6) : (shw t).length <= 80000 := by
  have h1 := shw_len ok
  have h2 : 2 ^ dp t <= 2 ^ 6 := Nat.pow_le_pow_right (by decide) h
  have : (2 : Nat) ^ 6 = 64 := rfl
  omega
def CS (c : Kd -> Addr) (n : Nat) (k : Kd) : Ct := fun ts P => ∃ t, kd t = k /\ ts = [enc c t] /\ dp t <= n /\ dp t <= 6 /\ Tok t /\ P (.ok (.va (.str (shw t))))
theorem CS.len {c : Kd -> Addr} {n : Nat} {k : Kd} : ∀ ts Q, CS c n k ts Q -> ts.length = 1 := fun ts Q ⟨_, _, e, _⟩ => by rw [e]; rfl
theorem CS.zero {c : Kd -> Addr} {k : Kd} : ∀ ts Q, CS c 0 k ts Q -> False := fun ts Q ⟨t, _, _, h, _⟩ => absurd (dp_pos t) (by omega)
def b_Number_shown_a1 (cc : Kd -> Addr) (n : Nat) : Sv := vRet (vJoin [vC (.str "(- "), vFm (vVar 1), vC (.str ")")])
def b_Number_shown_a0s (cc : Kd -> Addr) (n : Nat) : Sv := vSet 1 (vCall C_shown_fraction [vCall (C_bin mnF) [vC (.tup [.int 0, .int 1]), vFld (KdD cc) "worth" (vVar 0)]])
def b_Number_shown_a0 (cc : Kd -> Addr) (n : Nat) : Sv := vSeq (b_Number_shown_a0s cc n) (b_Number_shown_a1 cc n)
def b_Number_shown (cc : Kd -> Addr) (n : Nat) : Sv :=
  vSeq (vIfS (vCmp wLt (vCall C_sign [vFld (KdD cc) "worth" (vVar 0)]) (vC (.int 0))) ((b_Number_shown_a0 cc n)) (vNext))
  (vRet (vCall C_shown_fraction [vFld (KdD cc) "worth" (vVar 0)]))
theorem sc_Number_shown : FnScope ["self", "above"] ["self"] (defScope s_Number_shown) := ⟨rfl, rfl, rfl, by decide +kernel, rfl, by decide +kernel, by decide +kernel⟩
theorem lk_Number_shown_self : Lk s_Number_shown "self" .local := by decide +kernel
theorem lk_Number_shown_above : Lk s_Number_shown "above" .local := by decide +kernel
theorem lk_Number_shown_NOUGHT : Lk s_Number_shown "NOUGHT" .globalImplicit := by decide +kernel
theorem lk_Number_shown_minus : Lk s_Number_shown "minus" .globalImplicit := by decide +kernel
theorem lk_Number_shown_shown_fraction : Lk s_Number_shown "shown_fraction" .globalImplicit := by decide +kernel
theorem lk_Number_shown_sign : Lk s_Number_shown "sign" .globalImplicit := by decide +kernel
def b_Entry_shown_3 (cc : Kd -> Addr) (n : Nat) : Sv := vRet (vJoin [vFm (vVar 1), vC (.str "("), vFm (vVar 2), vC (.str ")")])
def b_Entry_shown_2s (cc : Kd -> Addr) (n : Nat) : Sv := vSet 2 (vMtS wJnT (vC (.str ", ")) [vFld (KdD cc) "places" (vVar 0)])
def b_Entry_shown_2 (cc : Kd -> Addr) (n : Nat) : Sv := vSeq (b_Entry_shown_2s cc n) (b_Entry_shown_3 cc n)
def b_Entry_shown_1s (cc : Kd -> Addr) (n : Nat) : Sv := vSet 1 (vFld (KdD cc) "name" (vVar 0))
def b_Entry_shown_1 (cc : Kd -> Addr) (n : Nat) : Sv := vSeq (b_Entry_shown_1s cc n) (b_Entry_shown_2 cc n)
def b_Entry_shown_0s (cc : Kd -> Addr) (n : Nat) : Sv := vIfS (vNot (vTest truT (vFld (KdD cc) "places" (vVar 0)))) (vRet (vFld (KdD cc) "name" (vVar 0))) (vNext)
def b_Entry_shown (cc : Kd -> Addr) (n : Nat) : Sv :=
  vSeq (b_Entry_shown_0s cc n) (b_Entry_shown_1 cc n)
theorem sc_Entry_shown : FnScope ["self", "name", "keys"] ["self"] (defScope s_Entry_shown) := ⟨rfl, rfl, rfl, by decide +kernel, rfl, by decide +kernel, by decide +kernel⟩
theorem lk_Entry_shown_self : Lk s_Entry_shown "self" .local := by decide +kernel
theorem lk_Entry_shown_name : Lk s_Entry_shown "name" .local := by decide +kernel
theorem lk_Entry_shown_keys : Lk s_Entry_shown "keys" .local := by decide +kernel
def b_Negative_shown (cc : Kd -> Addr) (n : Nat) : Sv :=
  vSeq (vSet 1 (vMeth (DM cc (CS cc n)) "shown" (vFld (KdD cc) "one" (vVar 0)) []))
  (vRet (vJoin [vC (.str "(- "), vFm (vVar 1), vC (.str ")")]))
theorem sc_Negative_shown : FnScope ["self", "one"] ["self"] (defScope s_Negative_shown) := ⟨rfl, rfl, rfl, by decide +kernel, rfl, by decide +kernel, by decide +kernel⟩
theorem lk_Negative_shown_self : Lk s_Negative_shown "self" .local := by decide +kernel
theorem lk_Negative_shown_one : Lk s_Negative_shown "one" .local := by decide +kernel
def b_Joined_shown_3 (cc : Kd -> Addr) (n : Nat) : Sv := vRet (vJoin [vC (.str "("), vFm (vVar 1), vC (.str " "), vFm (vVar 2), vC (.str " "), vFm (vVar 3), vC (.str ")")])
def b_Joined_shown_2s (cc : Kd -> Addr) (n : Nat) : Sv := vSet 3 (vMeth (DM cc (CS cc n)) "shown" (vFld (KdD cc) "other" (vVar 0)) [])
def b_Joined_shown_2 (cc : Kd -> Addr) (n : Nat) : Sv := vSeq (b_Joined_shown_2s cc n) (b_Joined_shown_3 cc n)
def b_Joined_shown_1s (cc : Kd -> Addr) (n : Nat) : Sv := vSet 2 (vFld (KdD cc) "mark" (vVar 0))
def b_Joined_shown_1 (cc : Kd -> Addr) (n : Nat) : Sv := vSeq (b_Joined_shown_1s cc n) (b_Joined_shown_2 cc n)
def b_Joined_shown_0s (cc : Kd -> Addr) (n : Nat) : Sv := vSet 1 (vMeth (DM cc (CS cc n)) "shown" (vFld (KdD cc) "one" (vVar 0)) [])
def b_Joined_shown (cc : Kd -> Addr) (n : Nat) : Sv :=
  vSeq (b_Joined_shown_0s cc n) (b_Joined_shown_1 cc n)
theorem sc_Joined_shown : FnScope ["self", "one", "mark", "other"] ["self"] (defScope s_Joined_shown) := ⟨rfl, rfl, rfl, by decide +kernel, rfl, by decide +kernel, by decide +kernel⟩
theorem lk_Joined_shown_self : Lk s_Joined_shown "self" .local := by decide +kernel
theorem lk_Joined_shown_one : Lk s_Joined_shown "one" .local := by decide +kernel
theorem lk_Joined_shown_mark : Lk s_Joined_shown "mark" .local := by decide +kernel
theorem lk_Joined_shown_other : Lk s_Joined_shown "other" .local := by decide +kernel
def b_Sum_shown_3 (cc : Kd -> Addr) (n : Nat) : Sv := vRet (vJoin [vC (.str "sum("), vFm (vVar 1), vC (.str " in "), vFm (vVar 2), vC (.str ", "), vFm (vVar 3), vC (.str ")")])
def b_Sum_shown_2s (cc : Kd -> Addr) (n : Nat) : Sv := vSet 3 (vMeth (DM cc (CS cc n)) "shown" (vFld (KdD cc) "one" (vVar 0)) [])
def b_Sum_shown_2 (cc : Kd -> Addr) (n : Nat) : Sv := vSeq (b_Sum_shown_2s cc n) (b_Sum_shown_3 cc n)
def b_Sum_shown_1s (cc : Kd -> Addr) (n : Nat) : Sv := vSet 2 (vFld (KdD cc) "group" (vVar 0))
def b_Sum_shown_1 (cc : Kd -> Addr) (n : Nat) : Sv := vSeq (b_Sum_shown_1s cc n) (b_Sum_shown_2 cc n)
def b_Sum_shown_0s (cc : Kd -> Addr) (n : Nat) : Sv := vSet 1 (vFld (KdD cc) "binder" (vVar 0))
def b_Sum_shown (cc : Kd -> Addr) (n : Nat) : Sv :=
  vSeq (b_Sum_shown_0s cc n) (b_Sum_shown_1 cc n)
theorem sc_Sum_shown : FnScope ["self", "binder", "group", "one"] ["self"] (defScope s_Sum_shown) := ⟨rfl, rfl, rfl, by decide +kernel, rfl, by decide +kernel, by decide +kernel⟩
theorem lk_Sum_shown_self : Lk s_Sum_shown "self" .local := by decide +kernel
theorem lk_Sum_shown_binder : Lk s_Sum_shown "binder" .local := by decide +kernel
theorem lk_Sum_shown_group : Lk s_Sum_shown "group" .local := by decide +kernel
theorem lk_Sum_shown_one : Lk s_Sum_shown "one" .local := by decide +kernel
theorem nice_Number_shown {c : Kd -> Addr} {n : Nat} : ∀ ts Q, CS c (n + 1) .num ts Q -> bodyC 2 (b_Number_shown c n) ts Q := by
  rintro ts Q ⟨t, hk, rfl, hd, h6, ok, q⟩
  cases t with
  | num a =>
    have e0 : (("(- " : Str)).length = 3 := rfl
    have e1 : ((")" : Str)).length = 1 := rfl
    have e2 : (("(" : Str)).length = 1 := rfl
    have e3 : ((" " : Str)).length = 1 := rfl
    have e4 : (("sum(" : Str)).length = 4 := rfl
    have e5 : ((" in " : Str)).length = 4 := rfl
    have e6 : ((", " : Str)).length = 2 := rfl
    have q : Q (.ok (.va (.str (shN a)))) := q
    unfold shN at q
    refine ⟨⟨_, rfl⟩, _, rfl, a, rfl, ite_go (fun e => ?_) fun e => ?_⟩
    · have hn : a.1 < 0 := sg_neg.mp (of_decide_eq_true e)
      have em := mn_zero ok.1
      have fb : Fb 40 (mnF (0, 1) a) := by rw [em]; exact ⟨by simpa using ok.2.1, ok.2.2⟩
      have hl := nT_len fb
      rw [if_pos hn, ← em] at q
      refine ⟨⟨_, rfl⟩, _, rfl, (0, 1), a, 1, 40, rfl, int_gd (by decide) (by decide), ok, by decide, _, rfl, fb, few_line' (by (try simp only [str_empty_app, app_len, e0, e1, e2, e3, e4, e5, e6]); omega), few_line' (by (try simp only [str_empty_app, app_len, e0, e1, e2, e3, e4, e5, e6]); omega), few_line' (by (try simp only [str_empty_app, app_len, e0, e1, e2, e3, e4, e5, e6]); omega), few_line' (by (try simp only [str_empty_app, app_len, e0, e1, e2, e3, e4, e5, e6]); omega), ?_⟩
      rw [str_empty_app]
      exact q
    · have hn : ¬ a.1 < 0 := fun z => absurd (sg_neg.mpr z) (of_decide_eq_false e)
      rw [if_neg hn] at q
      exact ⟨⟨_, rfl⟩, _, rfl, a, rfl, ok.2, q⟩
  | _ => cases hk
theorem nice_Entry_shown {c : Kd -> Addr} {n : Nat} : ∀ ts Q, CS c (n + 1) .ent ts Q -> bodyC 3 (b_Entry_shown c n) ts Q := by
  rintro ts Q ⟨t, hk, rfl, hd, h6, ok, q⟩
  cases t with
  | ent x ks =>
    have e0 : (("(- " : Str)).length = 3 := rfl
    have e1 : ((")" : Str)).length = 1 := rfl
    have e2 : (("(" : Str)).length = 1 := rfl
    have e3 : ((" " : Str)).length = 1 := rfl
    have e4 : (("sum(" : Str)).length = 4 := rfl
    have e5 : ((" in " : Str)).length = 4 := rfl
    have e6 : ((", " : Str)).length = 2 := rfl
    have q : Q (.ok (.va (.str (if ks = [] then x else x ++ "(" ++ Txt.join ", " ks ++ ")")))) := q
    have h0 : x.length <= 100 := ok.1
    have h1 := glued_len ", " ks
    have h2 := join_few ok.2.1 ok.2.2
    refine ⟨⟨_, rfl⟩, _, rfl, ite_go (fun e => ?_) fun e => ?_⟩
    · have ek : ks = [] := by
        cases ks with
        | nil => rfl
        | cons k ks => cases e
      rw [if_pos ek] at q
      exact ⟨⟨_, rfl⟩, _, rfl, q⟩
    · have ek : ks ≠ [] := fun z => by subst z; cases e
      rw [if_neg ek] at q
      refine ⟨⟨_, rfl⟩, _, rfl, ⟨_, rfl⟩, _, rfl, ks, rfl, by omega, few_line' (by (try simp only [str_empty_app, app_len, e0, e1, e2, e3, e4, e5, e6]); omega), few_line' (by (try simp only [str_empty_app, app_len, e0, e1, e2, e3, e4, e5, e6]); omega), few_line' (by (try simp only [str_empty_app, app_len, e0, e1, e2, e3, e4, e5, e6]); omega), few_line' (by (try simp only [str_empty_app, app_len, e0, e1, e2, e3, e4, e5, e6]); omega), few_line' (by (try simp only [str_empty_app, app_len, e0, e1, e2, e3, e4, e5, e6]); omega), few_line' (by (try simp only [str_empty_app, app_len, e0, e1, e2, e3, e4, e5, e6]); omega), ?_⟩
      rw [str_empty_app]
      exact q
  | _ => cases hk
theorem nice_Negative_shown {c : Kd -> Addr} {n : Nat} : ∀ ts Q, CS c (n + 1) .neg ts Q -> bodyC 2 (b_Negative_shown c n) ts Q := by
  rintro ts Q ⟨t, hk, rfl, hd, h6, ok, q⟩
  cases t with
  | neg t =>
    have e0 : (("(- " : Str)).length = 3 := rfl
    have e1 : ((")" : Str)).length = 1 := rfl
    have e2 : (("(" : Str)).length = 1 := rfl
    have e3 : ((" " : Str)).length = 1 := rfl
    have e4 : (("sum(" : Str)).length = 4 := rfl
    have e5 : ((" in " : Str)).length = 4 := rfl
    have e6 : ((", " : Str)).length = 2 := rfl
    have h1 : 1 + dp t <= n + 1 := hd
    have h2 : 1 + dp t <= 6 := h6
    have hl := shw_few (t := t) ok (by omega)
    refine ⟨⟨_, rfl⟩, _, rfl, no_meth (by decide) _, _, ⟨_, rfl, rfl⟩, t, rfl, rfl, by omega, by omega, ok, few_line' (by (try simp only [str_empty_app, app_len, e0, e1, e2, e3, e4, e5, e6]); omega), few_line' (by (try simp only [str_empty_app, app_len, e0, e1, e2, e3, e4, e5, e6]); omega), few_line' (by (try simp only [str_empty_app, app_len, e0, e1, e2, e3, e4, e5, e6]); omega), few_line' (by (try simp only [str_empty_app, app_len, e0, e1, e2, e3, e4, e5, e6]); omega), ?_⟩
    rw [str_empty_app]
    exact q
  | _ => cases hk
theorem nice_Joined_shown {c : Kd -> Addr} {n : Nat} {w : Fin 3} : ∀ ts Q, CS c (n + 1) (.bin w) ts Q -> bodyC 4 (b_Joined_shown c n) ts Q := by
  rintro ts Q ⟨t, hk, rfl, hd, h6, ok, q⟩
  cases t with
  | bin w a b =>
    have e0 : (("(- " : Str)).length = 3 := rfl
    have e1 : ((")" : Str)).length = 1 := rfl
    have e2 : (("(" : Str)).length = 1 := rfl
    have e3 : ((" " : Str)).length = 1 := rfl
    have e4 : (("sum(" : Str)).length = 4 := rfl
    have e5 : ((" in " : Str)).length = 4 := rfl
    have e6 : ((", " : Str)).length = 2 := rfl
    have h1 : 1 + max (dp a) (dp b) <= n + 1 := hd
    have h2 : 1 + max (dp a) (dp b) <= 6 := h6
    have hl := shw_len (t := .bin w a b) ok
    have hm : (markB w).length = 1 := by match w with | 0 => rfl | 1 => rfl | 2 => rfl
    have la := shw_len ok.1
    have lb := shw_len ok.2
    have pa : 2 ^ dp a <= 2 ^ 5 := Nat.pow_le_pow_right (by decide) (by omega)
    have pb : 2 ^ dp b <= 2 ^ 5 := Nat.pow_le_pow_right (by decide) (by omega)
    have p5 : (2 : Nat) ^ 5 = 32 := rfl
    refine ⟨⟨_, rfl⟩, _, rfl, no_meth (by decide) _, _, ⟨_, rfl, rfl⟩, a, rfl, rfl, by omega, by omega, ok.1, ⟨_, rfl⟩, _, rfl, ⟨_, rfl⟩, _, rfl, no_meth (by decide) _, _, ⟨_, rfl, rfl⟩, b, rfl, rfl, by omega, by omega, ok.2, few_line' (by (try simp only [str_empty_app, app_len, e0, e1, e2, e3, e4, e5, e6]); omega), few_line' (by (try simp only [str_empty_app, app_len, e0, e1, e2, e3, e4, e5, e6]); omega), few_line' (by (try simp only [str_empty_app, app_len, e0, e1, e2, e3, e4, e5, e6]); omega), few_line' (by (try simp only [str_empty_app, app_len, e0, e1, e2, e3, e4, e5, e6]); omega), few_line' (by (try simp only [str_empty_app, app_len, e0, e1, e2, e3, e4, e5, e6]); omega), few_line' (by (try simp only [str_empty_app, app_len, e0, e1, e2, e3, e4, e5, e6]); omega), few_line' (by (try simp only [str_empty_app, app_len, e0, e1, e2, e3, e4, e5, e6]); omega), few_line' (by (try simp only [str_empty_app, app_len, e0, e1, e2, e3, e4, e5, e6]); omega), few_line' (by (try simp only [str_empty_app, app_len, e0, e1, e2, e3, e4, e5, e6]); omega), few_line' (by (try simp only [str_empty_app, app_len, e0, e1, e2, e3, e4, e5, e6]); omega), ?_⟩
    rw [str_empty_app]
    exact q
  | _ => cases hk
theorem nice_Sum_shown {c : Kd -> Addr} {n : Nat} : ∀ ts Q, CS c (n + 1) .sum ts Q -> bodyC 4 (b_Sum_shown c n) ts Q := by
  rintro ts Q ⟨t, hk, rfl, hd, h6, ok, q⟩
  cases t with
  | sum b g t =>
    have e0 : (("(- " : Str)).length = 3 := rfl
    have e1 : ((")" : Str)).length = 1 := rfl
    have e2 : (("(" : Str)).length = 1 := rfl
    have e3 : ((" " : Str)).length = 1 := rfl
    have e4 : (("sum(" : Str)).length = 4 := rfl
    have e5 : ((" in " : Str)).length = 4 := rfl
    have e6 : ((", " : Str)).length = 2 := rfl
    have h1 : 1 + dp t <= n + 1 := hd
    have h2 : 1 + dp t <= 6 := h6
    have hl := shw_few (t := t) ok.2.2 (by omega)
    have hb : b.length <= 100 := ok.1
    have hg : g.length <= 100 := ok.2.1
    refine ⟨⟨_, rfl⟩, _, rfl, ⟨_, rfl⟩, _, rfl, ⟨_, rfl⟩, _, rfl, no_meth (by decide) _, _, ⟨_, rfl, rfl⟩, t, rfl, rfl, by omega, by omega, ok.2.2, few_line' (by (try simp only [str_empty_app, app_len, e0, e1, e2, e3, e4, e5, e6]); omega), few_line' (by (try simp only [str_empty_app, app_len, e0, e1, e2, e3, e4, e5, e6]); omega), few_line' (by (try simp only [str_empty_app, app_len, e0, e1, e2, e3, e4, e5, e6]); omega), few_line' (by (try simp only [str_empty_app, app_len, e0, e1, e2, e3, e4, e5, e6]); omega), few_line' (by (try simp only [str_empty_app, app_len, e0, e1, e2, e3, e4, e5, e6]); omega), few_line' (by (try simp only [str_empty_app, app_len, e0, e1, e2, e3, e4, e5, e6]); omega), few_line' (by (try simp only [str_empty_app, app_len, e0, e1, e2, e3, e4, e5, e6]); omega), few_line' (by (try simp only [str_empty_app, app_len, e0, e1, e2, e3, e4, e5, e6]); omega), few_line' (by (try simp only [str_empty_app, app_len, e0, e1, e2, e3, e4, e5, e6]); omega), few_line' (by (try simp only [str_empty_app, app_len, e0, e1, e2, e3, e4, e5, e6]); omega), ?_⟩
    rw [str_empty_app]
    exact q
  | _ => cases hk
theorem ok_shown (A : AllD K mg) (B : Blt mg) : ∀ n k, FnOk P w K mg base (CXF P w) (5 + n) (A.f_shown k) (A.d_shown k) ["self"] (spV K (CS A.c n k))
  | 0, _ => FnOk.none CS.zero
  | n + 1, k => by
    have ih := ok_shown A B n
    cases k with
    | num =>
      exact fn_V (A.F_shown .num) sc_Number_shown (b_Number_shown A.c n) CS.len nice_Number_shown fun cdv A_ outer s H E hr => have hu := hr.units
        vs_cons (vs_if (vt_cmp o_lt (v_call rfl (ok_sign A B) (hr.mono (by show _ <= 5 + n; omega)) lk_Number_shown_sign A.D_sign.m A.D_sign.F.kp A.D_sign.b passes_fn (va_Attribute (v_fld rfl (A.fld (by decide)) (v_var (i := 0) rfl (Or.inl lk_Number_shown_self))) va_nil)) (v_int) (nomark _)) (vs_cons (vs_set (i := 1) sc_Number_shown.nd rfl (Or.inl lk_Number_shown_above) (v_call rfl (ok_shown_fraction A B) (hr.mono (by show _ <= 5 + n; omega)) lk_Number_shown_shown_fraction A.D_shown_fraction.m A.D_shown_fraction.F.kp A.D_shown_fraction.b passes_fn (va_Call (v_call rfl (ok_minus A B) (hr.mono (by show _ <= 5 + n; omega)) lk_Number_shown_minus A.D_minus.m A.D_minus.F.kp A.D_minus.b passes_fn (va_Name (v_glob (v := .ref A.a_NOUGHT) lk_Number_shown_NOUGHT A.m_NOUGHT rfl A.r_NOUGHT) (va_Attribute (v_fld rfl (A.fld (by decide)) (v_var (i := 0) rfl (Or.inl lk_Number_shown_self))) va_nil))) va_nil)))
          (vs_one (vs_ret (v_join (vj_cons (v_str) (vj_cons (v_fm (v_var (i := 1) rfl (Or.inl lk_Number_shown_above))) (vj_cons (v_str) (vj_nil)))))))) (vs_nil))
          (vs_one (vs_ret (v_call rfl (ok_shown_fraction A B) (hr.mono (by show _ <= 5 + n; omega)) lk_Number_shown_shown_fraction A.D_shown_fraction.m A.D_shown_fraction.F.kp A.D_shown_fraction.b passes_fn (va_Attribute (v_fld rfl (A.fld (by decide)) (v_var (i := 0) rfl (Or.inl lk_Number_shown_self))) va_nil))))
    | ent =>
      exact fn_V (A.F_shown .ent) sc_Entry_shown (b_Entry_shown A.c n) CS.len nice_Entry_shown fun cdv A_ outer s H E hr => have hu := hr.units
        vs_cons (vs_if (vt_not (vt_tru rfl (v_fld rfl (A.fld (by decide)) (v_var (i := 0) rfl (Or.inl lk_Entry_shown_self))))) (vs_one (vs_ret (v_fld rfl (A.fld (by decide)) (v_var (i := 0) rfl (Or.inl lk_Entry_shown_self))))) (vs_nil))
          (vs_cons (vs_set (i := 1) sc_Entry_shown.nd rfl (Or.inl lk_Entry_shown_name) (v_fld rfl (A.fld (by decide)) (v_var (i := 0) rfl (Or.inl lk_Entry_shown_self))))
          (vs_cons (vs_set (i := 2) sc_Entry_shown.nd rfl (Or.inl lk_Entry_shown_keys) (v_mtS rfl PySem.F.slot_str_join PySem.F.type_str_join mt_joinT (v_str) (va_Attribute (v_fld rfl (A.fld (by decide)) (v_var (i := 0) rfl (Or.inl lk_Entry_shown_self))) va_nil)))
          (vs_one (vs_ret (v_join (vj_cons (v_fm (v_var (i := 1) rfl (Or.inl lk_Entry_shown_name))) (vj_cons (v_str) (vj_cons (v_fm (v_var (i := 2) rfl (Or.inl lk_Entry_shown_keys))) (vj_cons (v_str) (vj_nil))))))))))
    | neg =>
      exact fn_V (A.F_shown .neg) sc_Negative_shown (b_Negative_shown A.c n) CS.len nice_Negative_shown fun cdv A_ outer s H E hr => have hu := hr.units
        vs_cons (vs_set (i := 1) sc_Negative_shown.nd rfl (Or.inl lk_Negative_shown_one) (v_meth0 (methV_of (fun k => ih k) A.M_shown A.cl A.b_shown hr passes_fn) (v_fld rfl (A.fld (by decide)) (v_var (i := 0) rfl (Or.inl lk_Negative_shown_self)))))
          (vs_one (vs_ret (v_join (vj_cons (v_str) (vj_cons (v_fm (v_var (i := 1) rfl (Or.inl lk_Negative_shown_one))) (vj_cons (v_str) (vj_nil)))))))
    | bin b =>
      exact fn_V (A.F_shown (.bin b)) sc_Joined_shown (b_Joined_shown A.c n) CS.len nice_Joined_shown fun cdv A_ outer s H E hr => have hu := hr.units
        vs_cons (vs_set (i := 1) sc_Joined_shown.nd rfl (Or.inl lk_Joined_shown_one) (v_meth0 (methV_of (fun k => ih k) A.M_shown A.cl A.b_shown hr passes_fn) (v_fld rfl (A.fld (by decide)) (v_var (i := 0) rfl (Or.inl lk_Joined_shown_self)))))
          (vs_cons (vs_set (i := 2) sc_Joined_shown.nd rfl (Or.inl lk_Joined_shown_mark) (v_fld rfl (A.fld (by decide)) (v_var (i := 0) rfl (Or.inl lk_Joined_shown_self))))
          (vs_cons (vs_set (i := 3) sc_Joined_shown.nd rfl (Or.inl lk_Joined_shown_other) (v_meth0 (methV_of (fun k => ih k) A.M_shown A.cl A.b_shown hr passes_fn) (v_fld rfl (A.fld (by decide)) (v_var (i := 0) rfl (Or.inl lk_Joined_shown_self)))))
          (vs_one (vs_ret (v_join (vj_cons (v_str) (vj_cons (v_fm (v_var (i := 1) rfl (Or.inl lk_Joined_shown_one))) (vj_cons (v_str) (vj_cons (v_fm (v_var (i := 2) rfl (Or.inl lk_Joined_shown_mark))) (vj_cons (v_str) (vj_cons (v_fm (v_var (i := 3) rfl (Or.inl lk_Joined_shown_other))) (vj_cons (v_str) (vj_nil)))))))))))))
    | sum =>
      exact fn_V (A.F_shown .sum) sc_Sum_shown (b_Sum_shown A.c n) CS.len nice_Sum_shown fun cdv A_ outer s H E hr => have hu := hr.units
        vs_cons (vs_set (i := 1) sc_Sum_shown.nd rfl (Or.inl lk_Sum_shown_binder) (v_fld rfl (A.fld (by decide)) (v_var (i := 0) rfl (Or.inl lk_Sum_shown_self))))
          (vs_cons (vs_set (i := 2) sc_Sum_shown.nd rfl (Or.inl lk_Sum_shown_group) (v_fld rfl (A.fld (by decide)) (v_var (i := 0) rfl (Or.inl lk_Sum_shown_self))))
          (vs_cons (vs_set (i := 3) sc_Sum_shown.nd rfl (Or.inl lk_Sum_shown_one) (v_meth0 (methV_of (fun k => ih k) A.M_shown A.cl A.b_shown hr passes_fn) (v_fld rfl (A.fld (by decide)) (v_var (i := 0) rfl (Or.inl lk_Sum_shown_self)))))
          (vs_one (vs_ret (v_join (vj_cons (v_str) (vj_cons (v_fm (v_var (i := 1) rfl (Or.inl lk_Sum_shown_binder))) (vj_cons (v_str) (vj_cons (v_fm (v_var (i := 2) rfl (Or.inl lk_Sum_shown_group))) (vj_cons (v_str) (vj_cons (v_fm (v_var (i := 3) rfl (Or.inl lk_Sum_shown_one))) (vj_cons (v_str) (vj_nil)))))))))))))
end
end Pw
set_option Elab.async false
set_option linter.all false
set_option maxRecDepth 100000
set_option maxHeartbeats 4000000
namespace Pw
open PySem L2
seal PE PT PW PA PS PSs PG PGs PI PIf PO PJ
section
variable {P : Program} {w : World} {K : PySem.W.Frag} {mg : Str -> Option Value} {base : Heap} {f : Addr} {fd : FuncData}
def b_l_at : Sv :=
  vSeq (vIfS (vCmp wLt (vVar 1) (vFn wLen [vVar 0])) (vRet (vOp wIx (vVar 0) (vVar 1))) (vNext))
  (vRet (vC (.int 0)))
theorem few_sm {n : Int} (h : n.natAbs < 2 ^ 62) : Few n := by
  unfold Few
  rcases Nat.eq_zero_or_pos n.natAbs with e | e
  · rw [e]; decide
  · exact Nat.lt_of_lt_of_le ((Nat.log2_lt (Nat.ne_of_gt e)).mpr h) (by decide)
theorem big_log {n : Int} (h : n.natAbs < BIG) : n.natAbs.log2 < 9000 := by
  rcases Nat.eq_zero_or_pos n.natAbs with e | e
  · rw [e]; decide
  · exact Nat.lt_of_lt_of_le ((Nat.log2_lt (Nat.ne_of_gt e)).mpr h) (by decide)
theorem big_BM {n : Nat} (h : n < BIG) : n < BM := lt_BMi (k := 8000) h (by decide)
theorem fmod_sub (x y : Int) : x - x.fdiv y * y = x.fmod y := by rw [Int.fmod_def, Int.mul_comm]
abbrev FewA (ns : List Int) : Prop := ∀ i ∈ ns, Few i
def C_l_at : Ct := fun ts P => ∃ (ns : List Int) (i : Int), ts = [.scr (ns.map Tv.int), .int i] /\ FewA ns /\ 0 <= i /\ ∀ c : Int, Few c -> P (.ok (.va (.int c)))
theorem sc_l_at : FnScope ["_law_script", "_law_k"] ["_law_script", "_law_k"] (defScope s_l_at) := ⟨rfl, rfl, rfl, by decide +kernel, rfl, by decide +kernel, by decide +kernel⟩
theorem lk_l_at__law_script : Lk s_l_at "_law_script" .local := by decide +kernel
theorem lk_l_at__law_k : Lk s_l_at "_law_k" .local := by decide +kernel
theorem lk_l_at_len : Lk s_l_at "len" .globalImplicit := by decide +kernel
theorem len_l_at : ∀ ts Q, C_l_at ts Q -> ts.length = 2 := fun ts Q ⟨_, _, e, _⟩ => by rw [e]; rfl
theorem nice_l_at : ∀ ts Q, C_l_at ts Q -> bodyC 2 b_l_at ts Q := by
  rintro _ Q ⟨ns, i, rfl, hf, h0, q⟩
  refine ite_go (fun c => ?_) fun c => q 0 (few_sm (by decide))
  refine ix_mem h0 (of_decide_eq_true c) fun t ht => ?_
  obtain ⟨n, hn, rfl⟩ := List.mem_map.mp ht
  exact q n (hf n hn)
theorem ok_l_at (A : AllD K mg) (B : Blt mg) : FnOk P w K mg base (CXF P w) 1 A.f_l_at A.d_l_at ["_law_script", "_law_k"] (spV K C_l_at) :=
  fn_V A.D_l_at.F sc_l_at b_l_at len_l_at nice_l_at fun cdv A_ outer s H E hr => have hu := hr.units
  vs_cons (vs_if (vt_cmp o_lt (v_var (i := 1) rfl (Or.inl lk_l_at__law_k)) (v_fnB (f_len rfl) lk_l_at_len B.len bt_len (va_Name (v_var (i := 0) rfl (Or.inl lk_l_at__law_script)) va_nil)) (nomark _)) (vs_one (vs_ret (v_ix (o_ix rfl) (v_var (i := 0) rfl (Or.inl lk_l_at__law_script)) (v_var (i := 1) rfl (Or.inl lk_l_at__law_k)) (fun _ _ => rfl)))) (vs_nil))
  (vs_one (vs_ret (v_int)))
def b_l_mixed : Sv :=
  vSeq (vSet 2 (vOp wAdd (vOp wAdd (vVar 0) (vOp wMul (vC (.int 7919)) (vVar 1))) (vC (.int 3))))
  (vRet (vUn (wModC 2147483647) (vOp wMul (vUn (wModC 2147483647) (vOp wMulG (vVar 2) (vVar 2))) (vC (.int 48271)))))
def C_l_mixed : Ct := fun ts P => ∃ c i : Int, ts = [.int c, .int i] /\ Few c /\ (0 <= i /\ i <= 1000) /\ ∀ m : Int, 0 <= m -> m < 2147483647 -> P (.ok (.va (.int m)))
theorem sc_l_mixed : FnScope ["_law_cell", "_law_k", "_law_number"] ["_law_cell", "_law_k"] (defScope s_l_mixed) := ⟨rfl, rfl, rfl, by decide +kernel, rfl, by decide +kernel, by decide +kernel⟩
theorem lk_l_mixed__law_cell : Lk s_l_mixed "_law_cell" .local := by decide +kernel
theorem lk_l_mixed__law_k : Lk s_l_mixed "_law_k" .local := by decide +kernel
theorem lk_l_mixed__law_number : Lk s_l_mixed "_law_number" .local := by decide +kernel
theorem len_l_mixed : ∀ ts Q, C_l_mixed ts Q -> ts.length = 2 := fun ts Q ⟨_, _, e, _⟩ => by rw [e]; rfl
theorem few_m {m : Int} (h0 : 0 <= m) (h1 : m < 2147483647) : Few m := few_sm (by omega)
theorem nice_l_mixed : ∀ ts Q, C_l_mixed ts Q -> bodyC 3 b_l_mixed ts Q := by
  rintro _ Q ⟨c, i, rfl, hc, ⟨h0, h1⟩, q⟩
  have hb : ∃ z : Nat, z <= 1048580 /\ (c + 7919 * i + 3).natAbs < 2 ^ z := by
    rw [Int.add_assoc]
    exact few_add hc (by omega)
  refine ⟨⟨small_BM (by decide), small_BM (by omega)⟩, ?_⟩
  show (∃ z : Nat, z <= 1048580 /\ (c + 7919 * i + 3).natAbs < 2 ^ z /\ (c + 7919 * i + 3).natAbs < 2 ^ z) /\ _
  generalize c + 7919 * i + 3 = n at hb ⊢
  have a1 := Int.emod_nonneg (n * n) (show (2147483647 : Int) ≠ 0 by decide)
  have a2 := Int.emod_lt_of_pos (n * n) (show (0 : Int) < 2147483647 by decide)
  refine ⟨hb.elim fun z h => ⟨z, h.1, h.2, h.2⟩, ⟨small_BM (by omega), small_BM (by decide)⟩, q _ (Int.emod_nonneg _ (by decide)) (Int.emod_lt_of_pos _ (by decide))⟩
theorem ok_l_mixed (A : AllD K mg) (B : Blt mg) : FnOk P w K mg base (CXF P w) 1 A.f_l_mixed A.d_l_mixed ["_law_cell", "_law_k"] (spV K C_l_mixed) :=
  fn_V A.D_l_mixed.F sc_l_mixed b_l_mixed len_l_mixed nice_l_mixed fun cdv A_ outer s H E hr => have hu := hr.units
  vs_cons (vs_set (i := 2) sc_l_mixed.nd rfl (Or.inl lk_l_mixed__law_number) (v_op (o_add rfl) (v_op (o_add rfl) (v_var (i := 0) rfl (Or.inl lk_l_mixed__law_cell)) (v_op o_mul (v_int) (v_var (i := 1) rfl (Or.inl lk_l_mixed__law_k)))) (v_int)))
  (vs_one (vs_ret (v_modC (v_op o_mul (v_modC (v_op o_mulG (v_var (i := 2) rfl (Or.inl lk_l_mixed__law_number)) (v_var (i := 2) rfl (Or.inl lk_l_mixed__law_number)))) (v_int)))))
def b_l_reserved : Sv :=
  vSeq (vSet 0 (vLst [vC (.str "set"), vC (.str "table"), vC (.str "unknown"), vC (.str "over"), vC (.str "whole"), vC (.str "from"), vC (.str "to"), vC (.str "row"), vC (.str "each"), vC (.str "in")]))
  (vRet (vOp wAdd (vVar 0) (vLst [vC (.str "sum"), vC (.str "least"), vC (.str "most")])))
def resT : List Str := ["set", "table", "unknown", "over", "whole", "from", "to", "row", "each", "in", "sum", "least", "most"]
def C_l_reserved : Ct := fun ts P => ts = [] /\ P (.ok (.va (.lst (resT.map Tv.str))))
theorem sc_l_reserved : FnScope ["_law_some"] [] (defScope s_l_reserved) := ⟨rfl, rfl, rfl, by decide +kernel, rfl, by decide +kernel, by decide +kernel⟩
theorem lk_l_reserved__law_some : Lk s_l_reserved "_law_some" .local := by decide +kernel
theorem len_l_reserved : ∀ ts Q, C_l_reserved ts Q -> ts.length = 0 := fun ts Q ⟨e, _⟩ => by rw [e]; rfl
theorem nice_l_reserved : ∀ ts Q, C_l_reserved ts Q -> bodyC 1 b_l_reserved ts Q := by
  rintro _ Q ⟨rfl, q⟩
  exact ⟨few_line' (by decide), q⟩
theorem ok_l_reserved (A : AllD K mg) (B : Blt mg) : FnOk P w K mg base (CXF P w) 1 A.f_l_reserved A.d_l_reserved [] (spV K C_l_reserved) :=
  fn_V A.D_l_reserved.F sc_l_reserved b_l_reserved len_l_reserved nice_l_reserved fun cdv A_ outer s H E hr => have hu := hr.units
  vs_cons (vs_set (i := 0) sc_l_reserved.nd rfl (Or.inl lk_l_reserved__law_some) (v_lst (va_Constant (v_str) (va_Constant (v_str) (va_Constant (v_str) (va_Constant (v_str) (va_Constant (v_str) (va_Constant (v_str) (va_Constant (v_str) (va_Constant (v_str) (va_Constant (v_str) (va_Constant (v_str) va_nil))))))))))))
  (vs_one (vs_ret (v_op (o_add rfl) (v_var (i := 0) rfl (Or.inl lk_l_reserved__law_some)) (v_lst (va_Constant (v_str) (va_Constant (v_str) (va_Constant (v_str) va_nil)))))))
def b_l_fraction_4 : Sv := vRet (vTup [vOp wDivB (vVar 2) (vVar 3), vOp wDivB (vVar 1) (vVar 3)])
def b_l_fraction_3s : Sv := vWhile (vCmp wGt (vVar 4) (vC (.int 0))) (vPar 3 4 (vVar 4) (vOp wSub (vVar 3) (vOp wMul (vOp wDivB (vVar 3) (vVar 4)) (vVar 4))))
def b_l_fraction_3 : Sv := vSeq b_l_fraction_3s b_l_fraction_4
def b_l_fraction_2s : Sv := vPar 3 4 (vVar 2) (vVar 1)
def b_l_fraction_2 : Sv := vSeq b_l_fraction_2s b_l_fraction_3
def b_l_fraction_1s : Sv := vSet 2 (vOp wModP (vUn (wDivC 6) (vVar 0)) (vOp wIx (vLst [vC (.int 10), vC (.int 1000), vOp wPow (vC (.int 10)) (vC (.int 9))]) (vUn (wModC 3) (vUn (wDivC 4000) (vVar 0)))))
def b_l_fraction_1 : Sv := vSeq b_l_fraction_1s b_l_fraction_2
def b_l_fraction_0s : Sv := vSet 1 (vOp wIx (vLst [vC (.int 1), vC (.int 1), vC (.int 2), vC (.int 3), vC (.int 12), vC (.int 999)]) (vUn (wModC 6) (vVar 0)))
def b_l_fraction : Sv :=
  vSeq b_l_fraction_0s b_l_fraction_1
def C_l_fraction : Ct := fun ts P => ∃ c : Int, ts = [.int c] /\ ∀ a, Gd 40 a -> P (.ok (.va (encF a)))
theorem sc_l_fraction : FnScope ["_law_cell", "_law_bottom", "_law_top", "_law_one", "_law_other"] ["_law_cell"] (defScope s_l_fraction) := ⟨rfl, rfl, rfl, by decide +kernel, rfl, by decide +kernel, by decide +kernel⟩
theorem lk_l_fraction__law_cell : Lk s_l_fraction "_law_cell" .local := by decide +kernel
theorem lk_l_fraction__law_bottom : Lk s_l_fraction "_law_bottom" .local := by decide +kernel
theorem lk_l_fraction__law_top : Lk s_l_fraction "_law_top" .local := by decide +kernel
theorem lk_l_fraction__law_one : Lk s_l_fraction "_law_one" .local := by decide +kernel
theorem lk_l_fraction__law_other : Lk s_l_fraction "_law_other" .local := by decide +kernel
theorem len_l_fraction : ∀ ts Q, C_l_fraction ts Q -> ts.length = 1 := fun ts Q ⟨_, e, _⟩ => by rw [e]; rfl
theorem pick_int {l : List Int} {t : Tv} (h : t ∈ l.map Tv.int) {p : Int -> Prop} (hp : ∀ i ∈ l, p i) : ∃ i, t = .int i /\ p i := by
  obtain ⟨i, hi, e⟩ := List.mem_map.mp h
  exact ⟨i, e.symm, hp i hi⟩
theorem nice_l_fraction : ∀ ts Q, C_l_fraction ts Q -> bodyC 5 b_l_fraction ts Q := by
  rintro _ Q ⟨c, rfl, q⟩
  refine ix_mem (l := [1, 1, 2, 3, 12, 999].map Tv.int) (by omega) (by show c % 6 < 6; omega) fun t ht => ?_
  obtain ⟨b, rfl, b0, b1⟩ := pick_int ht (p := fun i => 0 < i /\ i <= 999) (by decide)
  refine ⟨⟨by decide, by decide, by decide⟩, ix_mem (l := [10, 1000, 10 ^ (9 : Int).toNat].map Tv.int) (by omega) (by show c / 4000 % 3 < 3; omega) fun t ht => ?_⟩
  obtain ⟨j, rfl, j0, j1⟩ := pick_int ht (p := fun i => 0 < i /\ i <= 1000000000) (by decide)
  refine ⟨j0, ?_⟩
  have t0 := Int.emod_nonneg (c / 6) (show j ≠ 0 by omega)
  have t1 := Int.emod_lt_of_pos (c / 6) j0
  show b_l_fraction_2 [.va (.int c), .va (.int b), .va (.int (c / 6 % j)), .un, .un] _
  generalize c / 6 % j = top at t0 t1 ⊢
  have bt : top.natAbs < BIG := lt_big (k := 40) (by omega) (by decide)
  have bb : b.natAbs < BIG := lt_big (k := 40) (by omega) (by decide)
  refine ⟨fun n ρ => ∃ x y : Int, ρ = [.va (.int c), .va (.int b), .va (.int top), .va (.int x), .va (.int y)] /\ 0 <= x /\ 0 <= y /\ x.natAbs < BIG /\ y.natAbs < BIG /\ gd x y = gd top b /\ n = y.toNat, ⟨_, top, b, rfl, t0, by omega, bt, bb, rfl, rfl⟩, ?_⟩
  rintro n ρ ⟨x, y, rfl, hx, hy, bx, by', e, rfl⟩
  refine ite_go1 (fun c => ?_) fun c => ?_
  · have hy0 : 0 < y := of_decide_eq_true c
    have h1 := Int.fmod_nonneg_of_pos x hy0
    have h2 := Int.fmod_lt_of_pos x hy0
    have hq : (x.fdiv y).natAbs < BM := by
      rw [Int.fdiv_eq_ediv_of_nonneg _ hy]
      exact Nat.lt_of_le_of_lt (Int.natAbs_ediv_le_natAbs x y) (big_BM bx)
    refine ⟨⟨by omega, big_log by'⟩, ⟨hq, big_BM by'⟩, (x.fmod y).toNat, by omega, y, x.fmod y, ?_, hy, h1, by', by omega, ?_, rfl⟩
    · rw [← fmod_sub]; rfl
    · rw [gd_step hx hy0, e]
  · have hy0 : y = 0 := by have := of_decide_eq_false c; omega
    subst hy0
    rw [gd_zero hx] at e
    subst e
    have hp := gd_pos (a := top) b0
    have hl := gd_log (t := top) b0 bb
    have q := q _ (mk_gd (k := 40) (t := top) b0 (by omega) (by omega))
    rw [← low_mk b0] at q
    exact ⟨⟨by omega, hl⟩, ⟨by omega, hl⟩, q⟩
theorem ok_l_fraction (A : AllD K mg) (B : Blt mg) : FnOk P w K mg base (CXF P w) 1 A.f_l_fraction A.d_l_fraction ["_law_cell"] (spV K C_l_fraction) :=
  fn_V A.D_l_fraction.F sc_l_fraction b_l_fraction len_l_fraction nice_l_fraction fun cdv A_ outer s H E hr => have hu := hr.units
  vs_cons (vs_set (i := 1) sc_l_fraction.nd rfl (Or.inl lk_l_fraction__law_bottom) (v_ix (o_ix rfl) (v_lst (va_Constant (v_int) (va_Constant (v_int) (va_Constant (v_int) (va_Constant (v_int) (va_Constant (v_int) (va_Constant (v_int) va_nil))))))) (v_modC (v_var (i := 0) rfl (Or.inl lk_l_fraction__law_cell))) (fun _ _ => rfl)))
  (vs_cons (vs_set (i := 2) sc_l_fraction.nd rfl (Or.inl lk_l_fraction__law_top) (v_op o_modP (v_divC (v_var (i := 0) rfl (Or.inl lk_l_fraction__law_cell))) (v_ix (o_ix rfl) (v_lst (va_Constant (v_int) (va_Constant (v_int) (va_BinOp (v_op o_pow (v_int) (v_int)) va_nil)))) (v_modC (v_divC (v_var (i := 0) rfl (Or.inl lk_l_fraction__law_cell)))) (fun _ _ => rfl))))
  (vs_cons (vs_par (i := 3) (j := 4) rfl sc_l_fraction.nd rfl rfl (by decide) lk_l_fraction__law_one lk_l_fraction__law_other (va_Name (v_var (i := 2) rfl (Or.inl lk_l_fraction__law_top)) (va_Name (v_var (i := 1) rfl (Or.inl lk_l_fraction__law_bottom)) va_nil)) rfl)
  (vs_cons (vs_while pown_fn (vt_cmp o_gt (v_var (i := 4) rfl (Or.inl lk_l_fraction__law_other)) (v_int) (nomark _)) (vs_one (vs_par (i := 3) (j := 4) rfl sc_l_fraction.nd rfl rfl (by decide) lk_l_fraction__law_one lk_l_fraction__law_other (va_Name (v_var (i := 4) rfl (Or.inl lk_l_fraction__law_other)) (va_BinOp (v_op o_sub (v_var (i := 3) rfl (Or.inl lk_l_fraction__law_one)) (v_op o_mul (v_op o_divB (v_var (i := 3) rfl (Or.inl lk_l_fraction__law_one)) (v_var (i := 4) rfl (Or.inl lk_l_fraction__law_other))) (v_var (i := 4) rfl (Or.inl lk_l_fraction__law_other)))) va_nil)) rfl)))
  (vs_one (vs_ret (v_tup (va_BinOp (v_op o_divB (v_var (i := 2) rfl (Or.inl lk_l_fraction__law_top)) (v_var (i := 3) rfl (Or.inl lk_l_fraction__law_one))) (va_BinOp (v_op o_divB (v_var (i := 1) rfl (Or.inl lk_l_fraction__law_bottom)) (v_var (i := 3) rfl (Or.inl lk_l_fraction__law_one))) va_nil))))))))
end
end Pw
set_option Elab.async false
set_option linter.all false
set_option maxRecDepth 100000
set_option maxHeartbeats 4000000
namespace Pw
open PySem L2
seal PE PT PW PA PS PSs PG PGs PI PIf PO PJ
section
variable {P : Program} {w : World} {K : PySem.W.Frag} {mg : Str -> Option Value} {base : Heap} {f : Addr} {fd : FuncData}
def b_l_pool_a2 : Sv := vApp 4 (vOp wAdd (vOp wIx (vLst [vC (.str "any"), vVar 6]) (vFn wInt [vOp wNotIn (vVar 6) (vCall C_l_reserved [])])) (vOp wIx (vLst [vC (.str ""), vC (.str "x")]) (vFn wInt [vAndV (vInO 4 (vVar 6)) (vOp wLt (vFn wLen [vVar 6]) (vC (.int 8)))])))
def b_l_pool_a1s : Sv := vSet 6 (vOp wAdd (vVar 6) (vSlSN (vVar 2) (vVar 3)))
def b_l_pool_a1 : Sv := vSeq b_l_pool_a1s b_l_pool_a2
def b_l_pool_a0s : Sv := vSet 6 (vOp wAdd (vSlNS (vVar 2) (vVar 3)) (vOp wIx (vVar 1) (vUn (wModC 26) (vOp wAdd (vUn (wDivC 1872) (vVar 0)) (vOp wMul (vC (.int 3)) (vVar 5))))))
def b_l_pool_a0 : Sv := vSeq b_l_pool_a0s b_l_pool_a1
def b_l_pool_5 : Sv := vFrz 4 (vRet (vVar 4))
def b_l_pool_4s : Sv := vFor (vRng (vC (.int 6))) (gV 5) (b_l_pool_a0)
def b_l_pool_4 : Sv := vSeq b_l_pool_4s b_l_pool_5
def b_l_pool_3s : Sv := vNewL 4 []
def b_l_pool_3 : Sv := vSeq b_l_pool_3s b_l_pool_4
def b_l_pool_2s : Sv := vSet 3 (vOp wModP (vUn (wDivC 208) (vVar 0)) (vOp wAdd (vFn wLen [vVar 2]) (vC (.int 1))))
def b_l_pool_2 : Sv := vSeq b_l_pool_2s b_l_pool_3
def b_l_pool_1s : Sv := vSet 2 (vMtS wJn (vC (.str "")) [vComp 1 [1, 0] (vRng (vUn (wModC 8) (vUn (wDivC 26) (vVar 0)))) (gV 0) (vYes) (vOp wIx (vVar 1) (vUn (wModC 26) (vOp wAdd (vVar 2) (vOp wMul (vC (.int 7)) (vVar 0)))))])
def b_l_pool_1 : Sv := vSeq b_l_pool_1s b_l_pool_2
def b_l_pool_0s : Sv := vSet 1 (vC (.str "abcdefghijklmnopqrstuvwxyz"))
def b_l_pool : Sv :=
  vSeq b_l_pool_0s b_l_pool_1
abbrev PoolOk (ns : List Str) : Prop := ns.length = 6 /\ ∀ x ∈ ns, x.length <= 20
def C_l_pool : Ct := fun ts P => ∃ c : Int, ts = [.int c] /\ ∀ ns, PoolOk ns -> P (.ok (.va (.lst (ns.map Tv.str))))
theorem sc_l_pool : FnScope ["_law_cell", "_law_letters", "_law_alike", "_law_at_here", "_law_found", "_law_k", "_law_name"] ["_law_cell"] (defScope s_l_pool) := ⟨rfl, rfl, rfl, by decide +kernel, rfl, by decide +kernel, by decide +kernel⟩
theorem lk_l_pool__law_cell : Lk s_l_pool "_law_cell" .cell := by decide +kernel
theorem lk_l_pool__law_letters : Lk s_l_pool "_law_letters" .cell := by decide +kernel
theorem lk_l_pool__law_alike : Lk s_l_pool "_law_alike" .local := by decide +kernel
theorem lk_l_pool__law_at_here : Lk s_l_pool "_law_at_here" .local := by decide +kernel
theorem lk_l_pool__law_found : Lk s_l_pool "_law_found" .local := by decide +kernel
theorem lk_l_pool__law_k : Lk s_l_pool "_law_k" .local := by decide +kernel
theorem lk_l_pool__law_name : Lk s_l_pool "_law_name" .local := by decide +kernel
theorem lk_l_pool__law_reserved : Lk s_l_pool "_law_reserved" .globalImplicit := by decide +kernel
theorem lk_l_pool_int : Lk s_l_pool "int" .globalImplicit := by decide +kernel
theorem lk_l_pool_len : Lk s_l_pool "len" .globalImplicit := by decide +kernel
theorem lk_l_pool_range : Lk s_l_pool "range" .globalImplicit := by decide +kernel
theorem len_l_pool : ∀ ts Q, C_l_pool ts Q -> ts.length = 1 := fun ts Q ⟨_, e, _⟩ => by rw [e]; rfl
theorem letterR {i : Int} {z : Str} {k : Nat -> Prop} (hz : z.length = 26) (h0 : 0 <= i) (h1 : i < 26) (h : ∀ n, k n) : z.length <= sizeLine /\ optK (atI z.cps.toList i) k := by
  refine ⟨few_line' (by omega), ?_⟩
  have hl : z.cps.toList.length = 26 := by rw [Array.length_toList]; exact hz
  obtain ⟨t, e, _⟩ := atI_in (l := z.cps.toList) h0 (by rw [hl]; exact h1)
  exact optK_mk e (h _)
theorem paired_r {α β : Type} {G : α -> β -> Prop} {xs : List α} {ys : List β} (h : Paired G xs ys) : ∀ y ∈ ys, ∃ x, G x y := by
  induction h with
  | nil => intro y hy; cases hy
  | cons g _ ih =>
    intro y hy
    rcases List.mem_cons.mp hy with e | e
    · subst e; exact ⟨_, g⟩
    · exact ih y e
theorem sum_one : ∀ {l : List Str}, (∀ y ∈ l, y.length = 1) -> (l.map (·.length)).sum = l.length
  | [], _ => rfl
  | y :: l, h => by
    have h1 := h y List.mem_cons_self
    have h2 := sum_one (l := l) fun x hx => h x (List.mem_cons_of_mem _ hx)
    rw [List.map_cons, List.sum_cons, List.length_cons, h1, h2]; omega
theorem two_at {a b : Tv} {c : Bool} {k : Tv -> Prop} (h1 : k a) (h2 : k b) : optK (atI [a, b] (b2I c)) k := by
  cases c
  · exact optK_mk (t := a) rfl h1
  · exact optK_mk (t := b) rfl h2
theorem nice_l_pool : ∀ ts Q, C_l_pool ts Q -> bodyC 7 b_l_pool ts Q := by
  rintro _ Q ⟨c, rfl, q⟩
  have key : ∀ z : Str, z.length = 26 -> b_l_pool_1 [.va (.int c), .va (.str z), .un, .un, .un, .un, .un] (bodyK Q) := by
    intro z hz
    refine ⟨⟨by show _ <= c / 26 % 8; omega, by show c / 26 % 8 < _; omega⟩, few_line (by rw [rng_len]; show (c / 26 % 8).toNat <= _; omega), compW_any Tv.str (fun _ y => y.length = 1) (fun x hx Ky Kn hk => ?_) fun ys hp => ?_⟩
    · obtain ⟨k, hk', rfl⟩ := rng_mem hx
      have hk2 : k < (c / 26 % 8).toNat := hk'
      refine ⟨_, rfl, rfl, ⟨small_BM (by decide), small_BM (by omega)⟩, ?_⟩
      exact letterR (i := (c + 7 * (k : Int)) % 26) hz (Int.emod_nonneg _ (by decide)) (Int.emod_lt_of_pos _ (by decide)) fun y => ⟨rfl, hk ⟨#[y]⟩ rfl⟩
    · have h1 : ∀ y ∈ ys, y.length = 1 := by
        intro y hy
        obtain ⟨x, g⟩ := paired_r hp y hy
        exact g
      have hn : ys.length = (c / 26 % 8).toNat := by rw [← hp.length, rng_len]
      have hs := sum_one h1
      have e0 : (("" : Str)).length = 0 := rfl
      have ha := glued_len "" ys
      rw [hs, e0] at ha
      refine ⟨ys, rfl, by rw [hs, e0]; omega, ?_⟩
      have hb : (Txt.join "" ys).length <= 8 := by omega
      show b_l_pool_2 [.va (.int c), .va (.str z), .va (.str (Txt.join "" ys)), .un, .un, .un, .un] (bodyK Q)
      generalize Txt.join "" ys = al at hb
      refine ⟨few_line' (by omega), by show (0 : Int) < al.length + 1; omega, ?_⟩
      show b_l_pool_3 [.va (.int c), .va (.str z), .va (.str al), .va (.int (c / 208 % (al.length + 1))), .un, .un, .un] (bodyK Q)
      generalize c / 208 % ((al.length : Int) + 1) = at0
      intro D
      refine ⟨⟨by decide, by decide⟩, forW_by (fun i ρ => ∃ (fs : List Str) (s1 s2 : Sl), ρ = [.va (.int c), .va (.str z), .va (.str al), .va (.int at0), .ow D (fs.map Tv.str), s1, s2] /\ fs.length = i /\ ∀ x ∈ fs, x.length <= 20) ⟨[], _, _, rfl, rfl, fun _ h => by cases h⟩ (fun i x ρ hx ⟨fs, s1, s2, e, hl, hf⟩ Kn hk => ?_) fun ρ ⟨fs, s1, s2, e, hl, hf⟩ => ?_⟩
      · subst e
        obtain ⟨hi, rfl⟩ := rng_get hx
        have hi6 : i < 6 := hi
        have l1 := Txt.slice_le al none (some at0)
        have l2 := Txt.slice_le al (some at0) none
        refine ⟨_, rfl, few_line' (by omega), ⟨small_BM (by decide), small_BM (by omega)⟩, ?_⟩
        refine letterR (i := (c / 1872 + 3 * (i : Int)) % 26) hz (Int.emod_nonneg _ (by decide)) (Int.emod_lt_of_pos _ (by decide)) fun y0 => ?_
        have hy : (⟨#[y0]⟩ : Str).length = 1 := rfl
        generalize (⟨#[y0]⟩ : Str) = y at hy ⊢
        refine ⟨few_line' (by omega), few_line' (by omega), few_line' (by rw [app_len]; omega), ?_⟩
        have hn : (Txt.slice al none (some at0) ++ y ++ Txt.slice al (some at0) none).length <= 17 := by rw [app_len, app_len]; omega
        show b_l_pool_a2 [.va (.int c), .va (.str z), .va (.str al), .va (.int at0), .ow D (fs.map Tv.str), .va (.int (i : Int)), .va (.str (Txt.slice al none (some at0) ++ y ++ Txt.slice al (some at0) none))] _
        generalize Txt.slice al none (some at0) ++ y ++ Txt.slice al (some at0) none = nm at hn
        have fin : ∀ a b : Str, a.length <= 17 -> b.length <= 1 -> a.length + b.length <= sizeLine /\ (fs.map Tv.str).length < sizeLine /\ Kn [.va (.int c), .va (.str z), .va (.str al), .va (.int at0), .ow D (fs.map Tv.str ++ [.str (a ++ b)]), .va (.int (i : Int)), .va (.str nm)] := fun a b h1 h2 => ⟨few_line' (by omega), few_line (by rw [List.length_map]; omega), hk _ ⟨fs ++ [a ++ b], _, _, by rw [List.map_append]; rfl, by rw [List.length_append, hl]; rfl, fun x hx => by
          rcases List.mem_append.mp hx with h | h
          · exact hf x h
          · rw [List.mem_singleton.mp h, app_len]; omega⟩⟩
        refine ⟨rfl, resT, rfl, two_at ?_ ?_⟩
        all_goals
          refine ⟨fs, rfl, ?_⟩
          cases fs.any (· == nm)
          · exact fin _ "" (by first | exact hn | decide) (by decide)
          · refine ⟨few_line' (by omega), two_at ?_ ?_⟩
            · exact fin _ "" (by first | exact hn | decide) (by decide)
            · exact fin _ "x" (by first | exact hn | decide) (by decide)
      · subst e
        exact q fs ⟨hl, hf⟩
  exact key _ rfl
theorem ok_l_pool (A : AllD K mg) (B : Blt mg) : FnOk P w K mg base (CXF P w) 2 A.f_l_pool A.d_l_pool ["_law_cell"] (spV K C_l_pool) :=
  fn_V A.D_l_pool.F sc_l_pool b_l_pool len_l_pool nice_l_pool fun cdv A_ outer s H E hr => have hu := hr.units
  vs_cons (vs_set (i := 1) sc_l_pool.nd rfl (Or.inr lk_l_pool__law_letters) (v_str))
  (vs_cons (vs_set (i := 2) sc_l_pool.nd rfl (Or.inl lk_l_pool__law_alike) (v_mtS rfl PySem.F.slot_str_join PySem.F.type_str_join mt_joinV (v_str) (va_ListComp (v_comp rfl (frees_of ["_law_k"] [("_law_letters", 1), ("_law_cell", 0)] ["_law_cell", "_law_letters", "_law_alike", "_law_at_here", "_law_found", "_law_k", "_law_name"] (by decide +kernel)) (visC s_l_pool (by decide +kernel)) (by decide +kernel) rfl (by decide +kernel) (fun y hy => PySem.mem_of_lookup hy) rfl (tg_name 0) (keeps_name (by decide)) noOw_name (vi_rng lk_l_pool_range B.range (va_BinOp (v_modC (v_divC (v_var (i := 0) rfl (Or.inr (Or.inl lk_l_pool__law_cell))))) va_nil)) (fun cl C s H fp pins => pg_name (i := 0) (show (["_law_k", "_law_letters", "_law_cell"] : List Str).Nodup by decide +kernel) rfl (Or.inl (c_loc (by decide +kernel))) (.inr (c_loc (by decide +kernel)))) (fun cl C s H fp pins => vif_nil) (fun cl C s H fp pins => v_ix (o_ix rfl) (v_var (i := 1) rfl (c_free (by decide +kernel))) (v_modC (v_op (o_add rfl) (v_var (i := 2) rfl (c_free (by decide +kernel))) (v_op o_mul (v_int) (v_var (i := 0) rfl (c_vloc (by decide +kernel)))))) (fun _ _ => rfl))) va_nil)))
  (vs_cons (vs_set (i := 3) sc_l_pool.nd rfl (Or.inl lk_l_pool__law_at_here) (v_op o_modP (v_divC (v_var (i := 0) rfl (Or.inr (Or.inl lk_l_pool__law_cell)))) (v_op (o_add rfl) (v_fnB (f_len rfl) lk_l_pool_len B.len bt_len (va_Name (v_var (i := 2) rfl (Or.inl lk_l_pool__law_alike)) va_nil)) (v_int))))
  (vs_cons (vs_newL (i := 4) sc_l_pool.nd rfl (Or.inl lk_l_pool__law_found) va_nil)
  (vs_cons (vs_for pown_fn rfl (vi_rng lk_l_pool_range B.range (va_Constant (v_int) va_nil)) (pg_name (i := 5) sc_l_pool.nd rfl (Or.inl lk_l_pool__law_k) (.inl rfl)) (tg_name 5) (vs_cons (vs_set (i := 6) sc_l_pool.nd rfl (Or.inl lk_l_pool__law_name) (v_op (o_add rfl) (v_slNS rfl (v_var (i := 2) rfl (Or.inl lk_l_pool__law_alike)) (v_var (i := 3) rfl (Or.inl lk_l_pool__law_at_here))) (v_ix (o_ix rfl) (v_var (i := 1) rfl (Or.inr (Or.inl lk_l_pool__law_letters))) (v_modC (v_op (o_add rfl) (v_divC (v_var (i := 0) rfl (Or.inr (Or.inl lk_l_pool__law_cell)))) (v_op o_mul (v_int) (v_var (i := 5) rfl (Or.inl lk_l_pool__law_k))))) (fun _ _ => rfl))))
  (vs_cons (vs_set (i := 6) sc_l_pool.nd rfl (Or.inl lk_l_pool__law_name) (v_op (o_add rfl) (v_var (i := 6) rfl (Or.inl lk_l_pool__law_name)) (v_slSN rfl (v_var (i := 2) rfl (Or.inl lk_l_pool__law_alike)) (v_var (i := 3) rfl (Or.inl lk_l_pool__law_at_here)))))
  (vs_one (vs_app (i := 4) rfl rfl (Or.inl lk_l_pool__law_found) (v_op (o_add rfl) (v_ix (o_ix rfl) (v_lst (va_Constant (v_str) (va_Name (v_var (i := 6) rfl (Or.inl lk_l_pool__law_name)) va_nil))) (v_fnT f_int lk_l_pool_int B.int bt_int (va_Compare (v_cmp (o_notin rfl) (v_var (i := 6) rfl (Or.inl lk_l_pool__law_name)) (v_call0 rfl (ok_l_reserved A B) (hr.mono (by decide)) lk_l_pool__law_reserved A.D_l_reserved.m A.D_l_reserved.F.kp A.D_l_reserved.b passes_fn) (by with_unfolding_all rfl)) va_nil)) (fun _ _ => rfl)) (v_ix (o_ix rfl) (v_lst (va_Constant (v_str) (va_Constant (v_str) va_nil))) (v_fnT f_int lk_l_pool_int B.int bt_int (va_BoolOp (v_and (v_inO (i := 4) rfl rfl (Or.inl lk_l_pool__law_found) (v_var (i := 6) rfl (Or.inl lk_l_pool__law_name))) (v_one (v_cmp o_lt (v_fnB (f_len rfl) lk_l_pool_len B.len bt_len (va_Name (v_var (i := 6) rfl (Or.inl lk_l_pool__law_name)) va_nil)) (v_int) (nomark _)))) va_nil)) (fun _ _ => rfl))))))))
  (vs_one (vs_frz 4 (vs_ret (v_var (i := 4) rfl (Or.inl lk_l_pool__law_found)))))))))
end
end Pw
set_option Elab.async false
set_option linter.all false
set_option maxRecDepth 100000
set_option maxHeartbeats 4000000
namespace Pw
open PySem L2
seal PE PT PW PA PS PSs PG PGs PI PIf PO PJ
section
variable {P : Program} {w : World} {K : PySem.W.Frag} {mg : Str -> Option Value} {base : Heap} {f : Addr} {fd : FuncData}
def b_l_tree_a1 (Cr : Ct) : Sv := vRet (vTup [vC (.str "entry"), vOp wIx (vVar 3) (vUn (wModC 6) (vUn (wDivC 2) (vVar 5))), vFn wTuple [vComp 1 [3, 5] (vRng (vUn (wModC 3) (vUn (wDivC 432) (vVar 5)))) (gV 0) (vYes) (vOp wIx (vVar 1) (vUn (wModC 6) (vOp wDivB (vVar 2) (vOp wIx (vLst [vC (.int 12), vC (.int 72)]) (vVar 0)))))]])
def b_l_tree_a0s (Cr : Ct) : Sv := vIfS (vCmp wEq (vUn (wModC 2) (vVar 5)) (vC (.int 0))) (vRet (vTup [vC (.str "number"), vCall C_l_fraction [vUn (wDivC 2) (vVar 5)]])) (vNext)
def b_l_tree_a0 (Cr : Ct) : Sv := vSeq (b_l_tree_a0s Cr) (b_l_tree_a1 Cr)
def b_l_tree_7 (Cr : Ct) : Sv := vRet (vTup [vOp wIx (vLst [vC (.str "plus"), vC (.str "minus"), vC (.str "times")]) (vUn (wModC 3) (vVar 4)), vVar 6, vVar 7])
def b_l_tree_6s (Cr : Ct) : Sv := vSet 7 (vCall Cr [vCall C_l_mixed [vVar 0, vC (.int 4)], vOp wSub (vVar 1) (vC (.int 1)), vVar 2, vVar 3])
def b_l_tree_6 (Cr : Ct) : Sv := vSeq (b_l_tree_6s Cr) (b_l_tree_7 Cr)
def b_l_tree_5s (Cr : Ct) : Sv := vIfS (vCmp wEq (vVar 4) (vC (.int 4))) (vRet (vTup [vC (.str "sum"), vOp wIx (vVar 3) (vUn (wModC 6) (vVar 5)), vOp wIx (vVar 3) (vUn (wModC 6) (vUn (wDivC 6) (vVar 5))), vVar 6])) (vNext)
def b_l_tree_5 (Cr : Ct) : Sv := vSeq (b_l_tree_5s Cr) (b_l_tree_6 Cr)
def b_l_tree_4s (Cr : Ct) : Sv := vIfS (vCmp wEq (vVar 4) (vC (.int 3))) (vRet (vTup [vC (.str "negative"), vVar 6])) (vNext)
def b_l_tree_4 (Cr : Ct) : Sv := vSeq (b_l_tree_4s Cr) (b_l_tree_5 Cr)
def b_l_tree_3s (Cr : Ct) : Sv := vSet 6 (vCall Cr [vCall C_l_mixed [vVar 0, vC (.int 3)], vOp wSub (vVar 1) (vC (.int 1)), vOp wSub (vVar 2) (vFn wInt [vOp wEq (vVar 4) (vC (.int 4))]), vVar 3])
def b_l_tree_3 (Cr : Ct) : Sv := vSeq (b_l_tree_3s Cr) (b_l_tree_4 Cr)
def b_l_tree_2s (Cr : Ct) : Sv := vIfS (vOr (vCmp wEq (vVar 1) (vC (.int 0))) (vOr (vCmp wLt (vVar 4) (vC (.int 3))) (vAnd (vCmp wEq (vVar 4) (vC (.int 4))) (vCmp wEq (vVar 2) (vC (.int 0)))))) ((b_l_tree_a0 Cr)) (vNext)
def b_l_tree_2 (Cr : Ct) : Sv := vSeq (b_l_tree_2s Cr) (b_l_tree_3 Cr)
def b_l_tree_1s (Cr : Ct) : Sv := vSet 5 (vUn (wDivC 7) (vCall C_l_mixed [vVar 0, vC (.int 2)]))
def b_l_tree_1 (Cr : Ct) : Sv := vSeq (b_l_tree_1s Cr) (b_l_tree_2 Cr)
def b_l_tree_0s (Cr : Ct) : Sv := vSet 4 (vUn (wModC 10) (vUn (wDivC 7) (vCall C_l_mixed [vVar 0, vC (.int 1)])))
def b_l_tree (Cr : Ct) : Sv :=
  vSeq (b_l_tree_0s Cr) (b_l_tree_1 Cr)
def C_l_tree : Nat -> Ct
  | 0 => fun _ _ => False
  | n + 1 => fun ts P => ∃ (c d s : Int) (pool : List Str), ts = [.int c, .int d, .int s, .lst (pool.map Tv.str)] /\ Few c /\ 0 <= d /\ d <= n /\ PoolOk pool /\ ∀ t, (dp t : Int) <= d + 1 -> Tok t -> P (.ok (.va (tel t)))
theorem sc_l_tree : FnScope ["_law_cell", "_law_deep", "_law_sums", "_law_pool_here", "_law_kind", "_law_more", "_law_one", "_law_other"] ["_law_cell", "_law_deep", "_law_sums", "_law_pool_here"] (defScope s_l_tree) := ⟨rfl, rfl, rfl, by decide +kernel, rfl, by decide +kernel, by decide +kernel⟩
theorem lk_l_tree__law_cell : Lk s_l_tree "_law_cell" .local := by decide +kernel
theorem lk_l_tree__law_deep : Lk s_l_tree "_law_deep" .local := by decide +kernel
theorem lk_l_tree__law_sums : Lk s_l_tree "_law_sums" .local := by decide +kernel
theorem lk_l_tree__law_pool_here : Lk s_l_tree "_law_pool_here" .cell := by decide +kernel
theorem lk_l_tree__law_kind : Lk s_l_tree "_law_kind" .local := by decide +kernel
theorem lk_l_tree__law_more : Lk s_l_tree "_law_more" .cell := by decide +kernel
theorem lk_l_tree__law_one : Lk s_l_tree "_law_one" .local := by decide +kernel
theorem lk_l_tree__law_other : Lk s_l_tree "_law_other" .local := by decide +kernel
theorem lk_l_tree__law_fraction : Lk s_l_tree "_law_fraction" .globalImplicit := by decide +kernel
theorem lk_l_tree__law_mixed : Lk s_l_tree "_law_mixed" .globalImplicit := by decide +kernel
theorem lk_l_tree__law_tree : Lk s_l_tree "_law_tree" .globalImplicit := by decide +kernel
theorem lk_l_tree_int : Lk s_l_tree "int" .globalImplicit := by decide +kernel
theorem lk_l_tree_range : Lk s_l_tree "range" .globalImplicit := by decide +kernel
theorem lk_l_tree_tuple : Lk s_l_tree "tuple" .globalImplicit := by decide +kernel
theorem len_l_tree (n : Nat) : ∀ ts Q, C_l_tree (n + 1) ts Q -> ts.length = 4 := fun ts Q ⟨_, _, _, _, e, _⟩ => by rw [e]; rfl
theorem pick {pool : List Str} (hp : PoolOk pool) {i : Int} {k : Tv -> Prop} (h0 : 0 <= i) (h1 : i < 6) (h : ∀ x ∈ pool, k (.str x)) : optK (atI (pool.map Tv.str) i) k := ix_mem h0 (by rw [List.length_map, hp.1]; exact h1) fun t ht => by
  obtain ⟨x, hx, rfl⟩ := List.mem_map.mp ht
  exact h x hx
theorem three_at {a b c : Tv} {i : Int} {k : Tv -> Prop} (h0 : 0 <= i) (h1 : i < 3) (ha : k a) (hb : k b) (hc : k c) : optK (atI [a, b, c] i) k := ix_mem h0 h1 fun t ht => by
  rcases List.mem_cons.mp ht with e | ht
  · subst e; exact ha
  rcases List.mem_cons.mp ht with e | ht
  · subst e; exact hb
  rw [List.mem_singleton.mp ht]; exact hc
theorem sn20 {x : Str} (h : x.length <= 20) : Sn x := Nat.le_trans h (by decide)
theorem leaf_go {c d s kk : Int} {pool : List Str} {m : Int} {Cr : Ct} {K' : Fl -> En -> Prop} (hp : PoolOk pool) (m0 : 0 <= m) (q : ∀ t, dp t <= 1 -> Tok t -> K' (.rt (.va (tel t))) [.va (.int c), .va (.int d), .va (.int s), .va (.lst (pool.map Tv.str)), .va (.int kk), .va (.int m), .un, .un]) :
    b_l_tree_a0 Cr [.va (.int c), .va (.int d), .va (.int s), .va (.lst (pool.map Tv.str)), .va (.int kk), .va (.int m), .un, .un] K' := by
  refine ite_go (fun e => ⟨m / 2, rfl, fun a ga => q (.num a) (Nat.le_refl _) ga⟩) fun e => ?_
  refine pick hp (Int.emod_nonneg _ (by decide)) (Int.emod_lt_of_pos _ (by decide)) fun x hx => ?_
  have r0 : 0 <= m / 432 % 3 := Int.emod_nonneg _ (by decide)
  have r1 : m / 432 % 3 < 3 := Int.emod_lt_of_pos _ (by decide)
  refine ⟨⟨by omega, by omega⟩, few_line (by rw [rng_len]; omega), compW_any Tv.str (fun _ y => y.length <= 20) (fun z hz Ky Kn hk => ?_) fun ys hy => ?_⟩
  · obtain ⟨k, hk', rfl⟩ := rng_mem hz
    have hk2 : k < 2 := by omega
    have go : ∀ j : Int, 0 < j /\ j <= 72 -> (j ≠ 0 /\ j.natAbs.log2 < 9000) /\ optK (atI (pool.map Tv.str) (m.fdiv j % 6)) fun t => ([.va (.int k), .va (.lst (pool.map Tv.str)), .va (.int m)] : En) = [.va (.int k), .va (.lst (pool.map Tv.str)), .va (.int m)] /\ Ky t := fun j hj => ⟨⟨by omega, big_log (lt_big (k := 10) (by omega) (by decide))⟩, pick hp (Int.emod_nonneg _ (by decide)) (Int.emod_lt_of_pos _ (by decide)) fun x hx => ⟨rfl, hk x (hp.2 x hx)⟩⟩
    refine ⟨_, rfl, rfl, ?_⟩
    match k, hk2 with
    | 0, _ => exact go 12 (by decide)
    | 1, _ => exact go 72 (by decide)
  · have hl : ys.length <= 10 := by rw [← hy.length, rng_len]; omega
    exact q (.ent x ys) (Nat.le_refl _) ⟨sn20 (hp.2 x hx), hl, fun y hyy => let ⟨_, g⟩ := paired_r hy y hyy; sn20 g⟩
theorem nice_l_tree (n : Nat) : ∀ ts Q, C_l_tree (n + 1) ts Q -> bodyC 8 (b_l_tree (C_l_tree n)) ts Q := by
  rintro ts Q ⟨c, d, s, pool, rfl, hc, d0, dn, hp, q⟩
  refine ⟨c, 1, rfl, hc, ⟨by decide, by decide⟩, fun m1 a1 b1 => ⟨c, 2, rfl, hc, ⟨by decide, by decide⟩, fun m2 a2 b2 => ?_⟩⟩
  show b_l_tree_2 (C_l_tree n) [.va (.int c), .va (.int d), .va (.int s), .va (.lst (pool.map Tv.str)), .va (.int (m1 / 7 % 10)), .va (.int (m2 / 7)), .un, .un] (bodyK Q)
  have m0 : 0 <= m2 / 7 := by omega
  generalize m1 / 7 % 10 = kk
  generalize m2 / 7 = m at m0
  have LEAF : b_l_tree_a0 (C_l_tree n) [.va (.int c), .va (.int d), .va (.int s), .va (.lst (pool.map Tv.str)), .va (.int kk), .va (.int m), .un, .un] (seqK (b_l_tree_3 (C_l_tree n)) (bodyK Q)) := leaf_go hp m0 fun t h o => q t (by omega) o
  have REC : d ≠ 0 -> b_l_tree_3 (C_l_tree n) [.va (.int c), .va (.int d), .va (.int s), .va (.lst (pool.map Tv.str)), .va (.int kk), .va (.int m), .un, .un] (bodyK Q) := by
    intro hd
    obtain ⟨n, rfl⟩ : ∃ k, n = k + 1 := ⟨n - 1, by omega⟩
    refine ⟨c, 3, rfl, hc, ⟨by decide, by decide⟩, fun m3 a3 b3 => ⟨m3, d - 1, _, pool, rfl, few_m a3 b3, by omega, by omega, hp, fun t1 h1 o1 => ?_⟩⟩
    refine ite_go (fun e => q (.neg t1) (by show ((1 + dp t1 : Nat) : Int) <= _; omega) o1) fun e3 => ?_
    refine ite_go (fun e => ?_) fun e4 => ?_
    · refine pick hp (Int.emod_nonneg _ (by decide)) (Int.emod_lt_of_pos _ (by decide)) fun x hx => pick hp (Int.emod_nonneg _ (by decide)) (Int.emod_lt_of_pos _ (by decide)) fun y hy => ?_
      exact q (.sum x y t1) (by show ((1 + dp t1 : Nat) : Int) <= _; omega) ⟨sn20 (hp.2 x hx), sn20 (hp.2 y hy), o1⟩
    · refine ⟨c, 4, rfl, hc, ⟨by decide, by decide⟩, fun m4 a4 b4 => ⟨m4, d - 1, s, pool, rfl, few_m a4 b4, by omega, by omega, hp, fun t2 h2 o2 => ?_⟩⟩
      have hb : ∀ w, ((dp (.bin w t1 t2) : Nat) : Int) <= d + 1 := fun w => by show ((1 + max (dp t1) (dp t2) : Nat) : Int) <= _; omega
      exact three_at (Int.emod_nonneg _ (by decide)) (Int.emod_lt_of_pos _ (by decide)) (q (.bin 0 t1 t2) (hb 0) ⟨o1, o2⟩) (q (.bin 1 t1 t2) (hb 1) ⟨o1, o2⟩) (q (.bin 2 t1 t2) (hb 2) ⟨o1, o2⟩)
  refine ite_go (fun e => LEAF) fun e => ite_go (fun e1 => LEAF) fun e1 => ite_go (fun e2 => ?_) fun e2 => REC (of_decide_eq_false e)
  show (if decide (s = 0) = true then b_l_tree_a0 (C_l_tree n) else vNext) _ _
  exact ite_go (fun e3 => LEAF) fun e3 => REC (of_decide_eq_false e)
theorem ok_l_tree (A : AllD K mg) (B : Blt mg) : ∀ n, FnOk P w K mg base (CXF P w) (3 + n) A.f_l_tree A.d_l_tree ["_law_cell", "_law_deep", "_law_sums", "_law_pool_here"] (spV K (C_l_tree n))
  | 0 => FnOk.none fun _ _ h => h
  | n + 1 => by
    have ih := ok_l_tree A B n
    exact fn_V A.D_l_tree.F sc_l_tree (b_l_tree (C_l_tree n)) (len_l_tree n) (nice_l_tree n) fun cdv A_ outer s H E hr => have hu := hr.units
      vs_cons (vs_set (i := 4) sc_l_tree.nd rfl (Or.inl lk_l_tree__law_kind) (v_modC (v_divC (v_call rfl (ok_l_mixed A B) (hr.mono (by show _ <= 3 + n; omega)) lk_l_tree__law_mixed A.D_l_mixed.m A.D_l_mixed.F.kp A.D_l_mixed.b passes_fn (va_Name (v_var (i := 0) rfl (Or.inl lk_l_tree__law_cell)) (va_Constant (v_int) va_nil))))))
        (vs_cons (vs_set (i := 5) sc_l_tree.nd rfl (Or.inr lk_l_tree__law_more) (v_divC (v_call rfl (ok_l_mixed A B) (hr.mono (by show _ <= 3 + n; omega)) lk_l_tree__law_mixed A.D_l_mixed.m A.D_l_mixed.F.kp A.D_l_mixed.b passes_fn (va_Name (v_var (i := 0) rfl (Or.inl lk_l_tree__law_cell)) (va_Constant (v_int) va_nil)))))
        (vs_cons (vs_if (PW.pt (vw_or (vt_cmp (o_eq rfl hu) (v_var (i := 1) rfl (Or.inl lk_l_tree__law_deep)) (v_int) (nomark _)) (vw_or (vt_cmp o_lt (v_var (i := 4) rfl (Or.inl lk_l_tree__law_kind)) (v_int) (nomark _)) (vw_or1 (PW.pt (vw_and (vt_cmp (o_eq rfl hu) (v_var (i := 4) rfl (Or.inl lk_l_tree__law_kind)) (v_int) (nomark _)) (vw_and1 (vt_cmp (o_eq rfl hu) (v_var (i := 2) rfl (Or.inl lk_l_tree__law_sums)) (v_int) (nomark _))))))))) (vs_cons (vs_if (vt_cmp (o_eq rfl hu) (v_modC (v_var (i := 5) rfl (Or.inr (Or.inl lk_l_tree__law_more)))) (v_int) (nomark _)) (vs_one (vs_ret (v_tup (hz := Nat.le_of_ble_eq_true rfl) (va_Constant (v_str) (va_Call (v_call rfl (ok_l_fraction A B) (hr.mono (by show _ <= 3 + n; omega)) lk_l_tree__law_fraction A.D_l_fraction.m A.D_l_fraction.F.kp A.D_l_fraction.b passes_fn (va_BinOp (v_divC (v_var (i := 5) rfl (Or.inr (Or.inl lk_l_tree__law_more)))) va_nil)) va_nil))))) (vs_nil))
        (vs_one (vs_ret (v_tup (hz := Nat.le_of_ble_eq_true rfl) (va_Constant (v_str) (va_Subscript (v_ix (o_ix rfl) (v_var (i := 3) rfl (Or.inr (Or.inl lk_l_tree__law_pool_here))) (v_modC (v_divC (v_var (i := 5) rfl (Or.inr (Or.inl lk_l_tree__law_more))))) (fun _ _ => rfl)) (va_Call (v_fnT (f_tuple rfl) lk_l_tree_tuple B.tuple bt_tuple (va_ListComp (v_comp rfl (frees_of ["_law_k"] [("_law_pool_here", 3), ("_law_more", 5)] ["_law_cell", "_law_deep", "_law_sums", "_law_pool_here", "_law_kind", "_law_more", "_law_one", "_law_other"] (by decide +kernel)) (visC s_l_tree (by decide +kernel)) (by decide +kernel) rfl (by decide +kernel) (fun y hy => PySem.mem_of_lookup hy) rfl (tg_name 0) (keeps_name (by decide)) noOw_name (vi_rng lk_l_tree_range B.range (va_BinOp (v_modC (v_divC (v_var (i := 5) rfl (Or.inr (Or.inl lk_l_tree__law_more))))) va_nil)) (fun cl C s H fp pins => pg_name (i := 0) (show (["_law_k", "_law_pool_here", "_law_more"] : List Str).Nodup by decide +kernel) rfl (Or.inl (c_loc (by decide +kernel))) (.inr (c_loc (by decide +kernel)))) (fun cl C s H fp pins => vif_nil) (fun cl C s H fp pins => v_ix (o_ix rfl) (v_var (i := 1) rfl (c_free (by decide +kernel))) (v_modC (v_op o_divB (v_var (i := 2) rfl (c_free (by decide +kernel))) (v_ix (o_ix rfl) (v_lst (hz := Nat.le_of_ble_eq_true rfl) (va_Constant (v_int) (va_Constant (v_int) va_nil))) (v_var (i := 0) rfl (c_vloc (by decide +kernel))) (fun _ _ => rfl)))) (fun _ _ => rfl))) va_nil)) va_nil))))))) (vs_nil))
        (vs_cons (vs_set (i := 6) sc_l_tree.nd rfl (Or.inl lk_l_tree__law_one) (v_call rfl ih hr lk_l_tree__law_tree A.D_l_tree.m A.D_l_tree.F.kp A.D_l_tree.b passes_fn (va_Call (v_call rfl (ok_l_mixed A B) (hr.mono (by show _ <= 3 + n; omega)) lk_l_tree__law_mixed A.D_l_mixed.m A.D_l_mixed.F.kp A.D_l_mixed.b passes_fn (va_Name (v_var (i := 0) rfl (Or.inl lk_l_tree__law_cell)) (va_Constant (v_int) va_nil))) (va_BinOp (v_op o_sub (v_var (i := 1) rfl (Or.inl lk_l_tree__law_deep)) (v_int)) (va_BinOp (v_op o_sub (v_var (i := 2) rfl (Or.inl lk_l_tree__law_sums)) (v_fnT f_int lk_l_tree_int B.int bt_int (va_Compare (v_cmp (o_eq rfl hu) (v_var (i := 4) rfl (Or.inl lk_l_tree__law_kind)) (v_int) (nomark _)) va_nil))) (va_Name (v_var (i := 3) rfl (Or.inr (Or.inl lk_l_tree__law_pool_here))) va_nil))))))
        (vs_cons (vs_if (vt_cmp (o_eq rfl hu) (v_var (i := 4) rfl (Or.inl lk_l_tree__law_kind)) (v_int) (nomark _)) (vs_one (vs_ret (v_tup (hz := Nat.le_of_ble_eq_true rfl) (va_Constant (v_str) (va_Name (v_var (i := 6) rfl (Or.inl lk_l_tree__law_one)) va_nil))))) (vs_nil))
        (vs_cons (vs_if (vt_cmp (o_eq rfl hu) (v_var (i := 4) rfl (Or.inl lk_l_tree__law_kind)) (v_int) (nomark _)) (vs_one (vs_ret (v_tup (hz := Nat.le_of_ble_eq_true rfl) (va_Constant (v_str) (va_Subscript (v_ix (o_ix rfl) (v_var (i := 3) rfl (Or.inr (Or.inl lk_l_tree__law_pool_here))) (v_modC (v_var (i := 5) rfl (Or.inr (Or.inl lk_l_tree__law_more)))) (fun _ _ => rfl)) (va_Subscript (v_ix (o_ix rfl) (v_var (i := 3) rfl (Or.inr (Or.inl lk_l_tree__law_pool_here))) (v_modC (v_divC (v_var (i := 5) rfl (Or.inr (Or.inl lk_l_tree__law_more))))) (fun _ _ => rfl)) (va_Name (v_var (i := 6) rfl (Or.inl lk_l_tree__law_one)) va_nil))))))) (vs_nil))
        (vs_cons (vs_set (i := 7) sc_l_tree.nd rfl (Or.inl lk_l_tree__law_other) (v_call rfl ih hr lk_l_tree__law_tree A.D_l_tree.m A.D_l_tree.F.kp A.D_l_tree.b passes_fn (va_Call (v_call rfl (ok_l_mixed A B) (hr.mono (by show _ <= 3 + n; omega)) lk_l_tree__law_mixed A.D_l_mixed.m A.D_l_mixed.F.kp A.D_l_mixed.b passes_fn (va_Name (v_var (i := 0) rfl (Or.inl lk_l_tree__law_cell)) (va_Constant (v_int) va_nil))) (va_BinOp (v_op o_sub (v_var (i := 1) rfl (Or.inl lk_l_tree__law_deep)) (v_int)) (va_Name (v_var (i := 2) rfl (Or.inl lk_l_tree__law_sums)) (va_Name (v_var (i := 3) rfl (Or.inr (Or.inl lk_l_tree__law_pool_here))) va_nil))))))
        (vs_one (vs_ret (v_tup (hz := Nat.le_of_ble_eq_true rfl) (va_Subscript (v_ix (o_ix rfl) (v_lst (hz := Nat.le_of_ble_eq_true rfl) (va_Constant (v_str) (va_Constant (v_str) (va_Constant (v_str) va_nil)))) (v_modC (v_var (i := 4) rfl (Or.inl lk_l_tree__law_kind))) (fun _ _ => rfl)) (va_Name (v_var (i := 6) rfl (Or.inl lk_l_tree__law_one)) (va_Name (v_var (i := 7) rfl (Or.inl lk_l_tree__law_other)) va_nil))))))))))))
end
end Pw
set_option Elab.async false
set_option linter.all false
set_option maxRecDepth 100000
set_option maxHeartbeats 4000000
namespace Pw
open PySem L2
seal PE PT PW PA PS PSs PG PGs PI PIf PO PJ
section
variable {P : Program} {w : World} {K : PySem.W.Frag} {mg : Str -> Option Value} {base : Heap} {f : Addr} {fd : FuncData}
def b_l_less_4 (Cr : Ct) : Sv := vFrz 2 (vRet (vFn wTuple [vOp wAdd (vLst [vOp wIx (vVar 0) (vC (.int 0))]) (vVar 2)]))
def b_l_less_3s (Cr : Ct) : Sv := vFor (vEnumT (vSlSN (vVar 0) (vC (.int 1)))) (gT [3, 4]) (vApp 2 (vIf (vTest truT (vFn wIsi [vVar 4, vC (.ty "tuple")])) (vCall Cr [vVar 4, vCall C_l_mixed [vVar 1, vOp wAdd (vC (.int 9)) (vVar 3)]]) (vVar 4)))
def b_l_less_3 (Cr : Ct) : Sv := vSeq (b_l_less_3s Cr) (b_l_less_4 Cr)
def b_l_less_2s (Cr : Ct) : Sv := vNewL 2 []
def b_l_less_2 (Cr : Ct) : Sv := vSeq (b_l_less_2s Cr) (b_l_less_3 Cr)
def b_l_less_1s (Cr : Ct) : Sv := vIfS (vCmp wEq (vOp wIx (vVar 0) (vC (.int 0))) (vC (.str "entry"))) (vRet (vVar 0)) (vNext)
def b_l_less_1 (Cr : Ct) : Sv := vSeq (b_l_less_1s Cr) (b_l_less_2 Cr)
def b_l_less_0s (Cr : Ct) : Sv := vIfS (vCmp wEq (vOp wIx (vVar 0) (vC (.int 0))) (vC (.str "number"))) (vRet (vTup [vC (.str "number"), vTup [vOp wMul (vOp wIx (vLst [vC (.int 1), vUn wNeg (vC (.int 1))]) (vUn (wModC 2) (vVar 1))) (vOp wIx (vOp wIx (vVar 0) (vC (.int 1))) (vC (.int 0))), vOp wIx (vOp wIx (vVar 0) (vC (.int 1))) (vC (.int 1))]])) (vNext)
def b_l_less (Cr : Ct) : Sv :=
  vSeq (b_l_less_0s Cr) (b_l_less_1 Cr)
def C_l_less : Nat -> Ct
  | 0 => fun _ _ => False
  | n + 1 => fun ts P => ∃ (t : Trm) (c : Int), ts = [tel t, .int c] /\ dp t <= n + 1 /\ Tok t /\ Few c /\ ∀ t', dp t' = dp t -> Tok t' -> P (.ok (.va (tel t')))
theorem sc_l_less : FnScope ["_law_tree_here", "_law_cell", "_law_parts_here", "_law_k", "_law_part"] ["_law_tree_here", "_law_cell"] (defScope s_l_less) := ⟨rfl, rfl, rfl, by decide +kernel, rfl, by decide +kernel, by decide +kernel⟩
theorem lk_l_less__law_tree_here : Lk s_l_less "_law_tree_here" .local := by decide +kernel
theorem lk_l_less__law_cell : Lk s_l_less "_law_cell" .local := by decide +kernel
theorem lk_l_less__law_parts_here : Lk s_l_less "_law_parts_here" .local := by decide +kernel
theorem lk_l_less__law_k : Lk s_l_less "_law_k" .local := by decide +kernel
theorem lk_l_less__law_part : Lk s_l_less "_law_part" .local := by decide +kernel
theorem lk_l_less__law_less : Lk s_l_less "_law_less" .globalImplicit := by decide +kernel
theorem lk_l_less__law_mixed : Lk s_l_less "_law_mixed" .globalImplicit := by decide +kernel
theorem lk_l_less_enumerate : Lk s_l_less "enumerate" .globalImplicit := by decide +kernel
theorem lk_l_less_isinstance : Lk s_l_less "isinstance" .globalImplicit := by decide +kernel
theorem lk_l_less_tuple : Lk s_l_less "tuple" .globalImplicit := by decide +kernel
theorem len_l_less (n : Nat) : ∀ ts Q, C_l_less (n + 1) ts Q -> ts.length = 2 := fun ts Q ⟨_, _, e, _⟩ => by rw [e]; rfl
theorem wd_ne (w : Fin 3) : wordB w ≠ "number" /\ wordB w ≠ "entry" /\ wordB w ≠ "negative" /\ wordB w ≠ "sum" := by
  match w with
  | 0 => decide
  | 1 => decide
  | 2 => decide
theorem gd_flip {a : Fq} {s : Int} (h : Gd 40 a) (hs : s = 1 ∨ s = -1) : Gd 40 (s * a.1, a.2) := by
  rcases hs with rfl | rfl
  · rw [Int.one_mul]; exact h
  · refine ⟨⟨h.1.1, ?_⟩, ?_, h.2.2⟩
    · have := h.1.2
      show gd (-1 * a.1) a.2 = 1
      rw [show -1 * a.1 = -a.1 by omega]
      unfold gd at this ⊢
      rw [Int.neg_gcd]
      exact this
    · have := h.2.1
      show (-1 * a.1).natAbs < 2 ^ 40
      rw [show -1 * a.1 = -a.1 by omega, Int.natAbs_neg]
      exact this
theorem no_all {n : Nat} (h : 0 < n) : ¬ (HT.sIx n 0 (some 1) = 0 /\ HT.sIx n n none = n) := fun ⟨h1, _⟩ => by
  unfold HT.sIx at h1
  simp at h1
  omega
theorem nice_l_less (n : Nat) : ∀ ts Q, C_l_less (n + 1) ts Q -> bodyC 5 (b_l_less (C_l_less n)) ts Q := by
  rintro ts Q ⟨t, c, rfl, hd, ok, hc, q⟩
  have REC : ∀ (s : Trm) (k : Int) (K' : Ans Sl -> Prop), dp s <= n -> Tok s -> 0 <= k -> k <= 1000 -> (∀ s', dp s' = dp s -> Tok s' -> K' (.ok (.va (tel s')))) -> C_l_mixed [.int c, .int k] fun a => match a with
      | .ok (.va m) => C_l_less n [tel s, m] K'
      | _ => False := fun s k K' h o k0 k1 z => ⟨c, k, rfl, hc, ⟨k0, k1⟩, fun m m0 m1 => by
    obtain ⟨n, rfl⟩ : ∃ j, n = j + 1 := ⟨n - 1, by have := dp_pos s; omega⟩
    exact ⟨s, m, rfl, h, o, few_m m0 m1, z⟩⟩
  have lp : ∀ (a : Tv) (l : List Tv), l.length <= 4 -> ([a] : List Tv).length + l.length <= sizeLine := fun a l h => few_line' (by rw [List.length_singleton]; omega)
  cases t with
  | num a =>
    refine ix_mem (l := [1, -1].map Tv.int) (Int.emod_nonneg _ (by decide)) (Int.emod_lt_of_pos _ (by decide)) fun t ht => ?_
    obtain ⟨s, rfl, hs⟩ := pick_int ht (p := fun i => i = 1 ∨ i = -1) (by decide)
    exact ⟨⟨small_BM (by omega), (ok.m (by decide)).1⟩, q (.num (s * a.1, a.2)) rfl (gd_flip ok hs)⟩
  | ent x ks =>
    exact q (.ent x ks) rfl ok
  | neg t =>
    have h1 : 1 + dp t <= n + 1 := hd
    intro D
    refine ⟨no_all (Nat.succ_pos _), ?_⟩
    refine ⟨_, rfl, ?_⟩
    refine REC t 9 _ (by omega) ok (by decide) (by decide) fun s' hd' ok' => ?_
    refine ⟨few_line (Nat.le_of_ble_eq_true rfl), lp _ _ (Nat.le_of_ble_eq_true rfl), q (.neg s') ?_ ok'⟩
    show 1 + dp s' = 1 + dp t
    omega
  | bin w a b =>
    have h1 : 1 + max (dp a) (dp b) <= n + 1 := hd
    refine ite_go (fun e => ?_) fun e => ?_
    · exact absurd (of_decide_eq_true e) (wd_ne w).1
    refine ite_go (fun e => ?_) fun e => ?_
    · exact absurd (of_decide_eq_true e) (wd_ne w).2.1
    intro D
    refine ⟨no_all (Nat.succ_pos _), ?_⟩
    refine ⟨_, rfl, ?_⟩
    refine REC a 9 _ (by omega) ok.1 (by decide) (by decide) fun a' ha' oa' => ?_
    refine ⟨few_line (Nat.le_of_ble_eq_true rfl), _, rfl, ?_⟩
    refine REC b 10 _ (by omega) ok.2 (by decide) (by decide) fun b' hb' ob' => ?_
    refine ⟨few_line (Nat.le_of_ble_eq_true rfl), lp _ _ (Nat.le_of_ble_eq_true rfl), q (.bin w a' b') ?_ ⟨oa', ob'⟩⟩
    show 1 + max (dp a') (dp b') = 1 + max (dp a) (dp b)
    omega
  | sum b g t =>
    have h1 : 1 + dp t <= n + 1 := hd
    intro D
    refine ⟨no_all (Nat.succ_pos _), ?_⟩
    refine ⟨_, rfl, few_line (Nat.le_of_ble_eq_true rfl), _, rfl, few_line (Nat.le_of_ble_eq_true rfl), _, rfl, ?_⟩
    refine REC t 11 _ (by omega) ok.2.2 (by decide) (by decide) fun s' hd' ok' => ?_
    refine ⟨few_line (Nat.le_of_ble_eq_true rfl), lp _ _ (Nat.le_of_ble_eq_true rfl), q (.sum b g s') ?_ ⟨ok.1, ok.2.1, ok'⟩⟩
    show 1 + dp s' = 1 + dp t
    omega
theorem ok_l_less (A : AllD K mg) (B : Blt mg) : ∀ n, FnOk P w K mg base (CXF P w) (3 + n) A.f_l_less A.d_l_less ["_law_tree_here", "_law_cell"] (spV K (C_l_less n))
  | 0 => FnOk.none fun _ _ h => h
  | n + 1 => by
    have ih := ok_l_less A B n
    exact fn_V A.D_l_less.F sc_l_less (b_l_less (C_l_less n)) (len_l_less n) (nice_l_less n) fun cdv A_ outer s H E hr => have hu := hr.units
      vs_cons (vs_if (vt_cmp (o_eq rfl hu) (v_ix (o_ix rfl) (v_var (i := 0) rfl (Or.inl lk_l_less__law_tree_here)) (v_int) (fun _ _ => rfl)) (v_str) (nomark _)) (vs_one (vs_ret (v_tup (hz := Nat.le_of_ble_eq_true rfl) (va_Constant (v_str) (va_Tuple (v_tup (hz := Nat.le_of_ble_eq_true rfl) (va_BinOp (v_op o_mul (v_ix (o_ix rfl) (v_lst (hz := Nat.le_of_ble_eq_true rfl) (va_Constant (v_int) (va_UnaryOp (v_un o_neg (v_int)) va_nil))) (v_modC (v_var (i := 1) rfl (Or.inl lk_l_less__law_cell))) (fun _ _ => rfl)) (v_ix (o_ix rfl) (v_ix (o_ix rfl) (v_var (i := 0) rfl (Or.inl lk_l_less__law_tree_here)) (v_int) (fun _ _ => rfl)) (v_int) (fun _ _ => rfl))) (va_Subscript (v_ix (o_ix rfl) (v_ix (o_ix rfl) (v_var (i := 0) rfl (Or.inl lk_l_less__law_tree_here)) (v_int) (fun _ _ => rfl)) (v_int) (fun _ _ => rfl)) va_nil))) va_nil))))) (vs_nil))
        (vs_cons (vs_if (vt_cmp (o_eq rfl hu) (v_ix (o_ix rfl) (v_var (i := 0) rfl (Or.inl lk_l_less__law_tree_here)) (v_int) (fun _ _ => rfl)) (v_str) (nomark _)) (vs_one (vs_ret (v_var (i := 0) rfl (Or.inl lk_l_less__law_tree_here)))) (vs_nil))
        (vs_cons (vs_newL (i := 2) sc_l_less.nd rfl (Or.inl lk_l_less__law_parts_here) va_nil)
        (vs_cons (vs_for pown_fn rfl (vi_enumT rfl lk_l_less_enumerate B.enumerate (va_Subscript (v_slSN rfl (v_var (i := 0) rfl (Or.inl lk_l_less__law_tree_here)) (v_int)) va_nil)) (pg_tupK rfl rfl (vgs_cons (i := 3) sc_l_less.nd rfl (Or.inl lk_l_less__law_k) (.inl rfl) (vgs_cons (i := 4) sc_l_less.nd rfl (Or.inl lk_l_less__law_part) (.inl rfl) (vgs_nil)))) (tg_tup rfl) (vs_one (vs_app (i := 2) rfl rfl (Or.inl lk_l_less__law_parts_here) (v_ifE (vt_tru rfl (v_fnB (f_isi rfl) lk_l_less_isinstance B.isinstance bt_isinstance (va_Name (v_var (i := 4) rfl (Or.inl lk_l_less__law_part)) (va_Name (v_ty lk_l_less_tuple B.tuple bt_tuple) va_nil)))) (v_call rfl ih hr lk_l_less__law_less A.D_l_less.m A.D_l_less.F.kp A.D_l_less.b passes_fn (va_Name (v_var (i := 4) rfl (Or.inl lk_l_less__law_part)) (va_Call (v_call rfl (ok_l_mixed A B) (hr.mono (by show _ <= 3 + n; omega)) lk_l_less__law_mixed A.D_l_mixed.m A.D_l_mixed.F.kp A.D_l_mixed.b passes_fn (va_Name (v_var (i := 1) rfl (Or.inl lk_l_less__law_cell)) (va_BinOp (v_op (o_add rfl) (v_int) (v_var (i := 3) rfl (Or.inl lk_l_less__law_k))) va_nil))) va_nil))) (v_var (i := 4) rfl (Or.inl lk_l_less__law_part))))))
        (vs_one (vs_frz 2 (vs_ret (v_fnT (f_tuple rfl) lk_l_less_tuple B.tuple bt_tuple (va_BinOp (v_op (o_add rfl) (v_lst (hz := Nat.le_of_ble_eq_true rfl) (va_Subscript (v_ix (o_ix rfl) (v_var (i := 0) rfl (Or.inl lk_l_less__law_tree_here)) (v_int) (fun _ _ => rfl)) va_nil)) (v_var (i := 2) rfl (Or.inl lk_l_less__law_parts_here))) va_nil))))))))
end
end Pw
set_option Elab.async false
set_option linter.all false
set_option maxRecDepth 100000
set_option maxHeartbeats 4000000
namespace Pw
open PySem L2
seal PE PT PW PA PS PSs PG PGs PI PIf PO PJ
section
variable {P : Program} {w : World} {K : PySem.W.Frag} {mg : Str -> Option Value} {base : Heap} {f : Addr} {fd : FuncData}
def C_l_made (c : Kd -> Addr) : Nat -> Ct
  | 0 => fun _ _ => False
  | n + 1 => fun ts P => ∃ t : Trm, ts = [tel t] /\ dp t <= n + 1 /\ P (.ok (.va (enc c t)))
theorem len_l_made {c : Kd -> Addr} (n : Nat) : ∀ ts Q, C_l_made c (n + 1) ts Q -> ts.length = 1 := fun ts Q ⟨_, e, _⟩ => by rw [e]; rfl
def b_l_made_7 (cc : Kd -> Addr) (n : Nat) : Sv := vRet (vIf (vCmp wEq (vOp wIx (vVar 0) (vC (.int 0))) (vC (.str "minus"))) (vNew (cc (.bin 1)) ["word", "mark", "one", "other"] W_Minus [vVar 1, vVar 2]) (vNew (cc (.bin 2)) ["word", "mark", "one", "other"] W_Times [vVar 1, vVar 2]))
def b_l_made_6s (cc : Kd -> Addr) (n : Nat) : Sv := vIfS (vCmp wEq (vOp wIx (vVar 0) (vC (.int 0))) (vC (.str "plus"))) (vRet (vNew (cc (.bin 0)) ["word", "mark", "one", "other"] W_Plus [vVar 1, vVar 2])) (vNext)
def b_l_made_6 (cc : Kd -> Addr) (n : Nat) : Sv := vSeq (b_l_made_6s cc n) (b_l_made_7 cc n)
def b_l_made_5s (cc : Kd -> Addr) (n : Nat) : Sv := vSet 2 (vCall (C_l_made cc n) [vOp wIx (vVar 0) (vC (.int 2))])
def b_l_made_5 (cc : Kd -> Addr) (n : Nat) : Sv := vSeq (b_l_made_5s cc n) (b_l_made_6 cc n)
def b_l_made_4s (cc : Kd -> Addr) (n : Nat) : Sv := vSet 1 (vCall (C_l_made cc n) [vOp wIx (vVar 0) (vC (.int 1))])
def b_l_made_4 (cc : Kd -> Addr) (n : Nat) : Sv := vSeq (b_l_made_4s cc n) (b_l_made_5 cc n)
def b_l_made_3s (cc : Kd -> Addr) (n : Nat) : Sv := vIfS (vCmp wEq (vOp wIx (vVar 0) (vC (.int 0))) (vC (.str "sum"))) (vRet (vNew (cc .sum) ["binder", "group", "one"] W_Sum [vOp wIx (vVar 0) (vC (.int 1)), vOp wIx (vVar 0) (vC (.int 2)), vCall (C_l_made cc n) [vOp wIx (vVar 0) (vC (.int 3))]])) (vNext)
def b_l_made_3 (cc : Kd -> Addr) (n : Nat) : Sv := vSeq (b_l_made_3s cc n) (b_l_made_4 cc n)
def b_l_made_2s (cc : Kd -> Addr) (n : Nat) : Sv := vIfS (vCmp wEq (vOp wIx (vVar 0) (vC (.int 0))) (vC (.str "negative"))) (vRet (vNew (cc .neg) ["one"] W_Negative [vCall (C_l_made cc n) [vOp wIx (vVar 0) (vC (.int 1))]])) (vNext)
def b_l_made_2 (cc : Kd -> Addr) (n : Nat) : Sv := vSeq (b_l_made_2s cc n) (b_l_made_3 cc n)
def b_l_made_1s (cc : Kd -> Addr) (n : Nat) : Sv := vIfS (vCmp wEq (vOp wIx (vVar 0) (vC (.int 0))) (vC (.str "entry"))) (vRet (vNew (cc .ent) ["name", "places"] W_Entry [vOp wIx (vVar 0) (vC (.int 1)), vOp wIx (vVar 0) (vC (.int 2))])) (vNext)
def b_l_made_1 (cc : Kd -> Addr) (n : Nat) : Sv := vSeq (b_l_made_1s cc n) (b_l_made_2 cc n)
def b_l_made_0s (cc : Kd -> Addr) (n : Nat) : Sv := vIfS (vCmp wEq (vOp wIx (vVar 0) (vC (.int 0))) (vC (.str "number"))) (vRet (vNew (cc .num) ["worth"] W_Number [vOp wIx (vVar 0) (vC (.int 1))])) (vNext)
def b_l_made (cc : Kd -> Addr) (n : Nat) : Sv :=
  vSeq (b_l_made_0s cc n) (b_l_made_1 cc n)
theorem sc_l_made : FnScope ["_law_tree_here", "_law_one", "_law_other"] ["_law_tree_here"] (defScope s_l_made) := ⟨rfl, rfl, rfl, by decide +kernel, rfl, by decide +kernel, by decide +kernel⟩
theorem lk_l_made__law_tree_here : Lk s_l_made "_law_tree_here" .local := by decide +kernel
theorem lk_l_made__law_one : Lk s_l_made "_law_one" .local := by decide +kernel
theorem lk_l_made__law_other : Lk s_l_made "_law_other" .local := by decide +kernel
theorem lk_l_made_Entry : Lk s_l_made "Entry" .globalImplicit := by decide +kernel
theorem lk_l_made_Minus : Lk s_l_made "Minus" .globalImplicit := by decide +kernel
theorem lk_l_made_Negative : Lk s_l_made "Negative" .globalImplicit := by decide +kernel
theorem lk_l_made_Number : Lk s_l_made "Number" .globalImplicit := by decide +kernel
theorem lk_l_made_Plus : Lk s_l_made "Plus" .globalImplicit := by decide +kernel
theorem lk_l_made_Sum : Lk s_l_made "Sum" .globalImplicit := by decide +kernel
theorem lk_l_made_Times : Lk s_l_made "Times" .globalImplicit := by decide +kernel
theorem lk_l_made__law_made : Lk s_l_made "_law_made" .globalImplicit := by decide +kernel
theorem nice_l_made {c : Kd -> Addr} (n : Nat) : ∀ ts Q, C_l_made c (n + 1) ts Q -> bodyC 3 (b_l_made c n) ts Q := by
  rintro ts Q ⟨t, rfl, hd, q⟩
  have REC : ∀ (s : Trm) (K' : Ans Sl -> Prop), dp s <= n -> K' (.ok (.va (enc c s))) -> C_l_made c n [tel s] K' := fun s K' h z => by
    obtain ⟨n, rfl⟩ : ∃ j, n = j + 1 := ⟨n - 1, by have := dp_pos s; omega⟩
    exact ⟨s, rfl, h, z⟩
  cases t with
  | num a => exact ⟨_, rfl, q⟩
  | ent x ks => exact ⟨_, ks, rfl, q⟩
  | neg t => exact REC t _ (by have : 1 + dp t <= n + 1 := hd; omega) ⟨_, rfl, q⟩
  | sum b g t => exact REC t _ (by have : 1 + dp t <= n + 1 := hd; omega) ⟨_, _, _, rfl, q⟩
  | bin w a b =>
    have h1 : 1 + max (dp a) (dp b) <= n + 1 := hd
    match w with
    | 0 => exact REC a _ (by omega) (REC b _ (by omega) ⟨_, _, rfl, q⟩)
    | 1 => exact REC a _ (by omega) (REC b _ (by omega) ⟨_, _, rfl, q⟩)
    | 2 => exact REC a _ (by omega) (REC b _ (by omega) ⟨_, _, rfl, q⟩)
theorem ok_l_made (A : AllD K mg) (B : Blt mg) : ∀ n, FnOk P w K mg base (CXF P w) (3 + n) A.f_l_made A.d_l_made ["_law_tree_here"] (spV K (C_l_made A.c n))
  | 0 => FnOk.none fun _ _ h => h
  | n + 1 => by
    have ih := ok_l_made A B n
    exact fn_V A.D_l_made.F sc_l_made (b_l_made A.c n) (len_l_made n) (nice_l_made n) fun cdv A_ outer s H E hr => have hu := hr.units
      vs_cons (vs_if (vt_cmp (o_eq rfl hu) (v_ix (o_ix rfl) (v_var (i := 0) rfl (Or.inl lk_l_made__law_tree_here)) (v_int) (fun _ _ => rfl)) (v_str) (nomark _)) (vs_one (vs_ret (v_new rfl (A.mkI .num) (ok_ini_Number A) (hr.mono (by show _ <= 3 + n; omega)) lk_l_made_Number A.m_Number (A.bi .num) (va_Subscript (v_ix (o_ix rfl) (v_var (i := 0) rfl (Or.inl lk_l_made__law_tree_here)) (v_int) (fun _ _ => rfl)) va_nil)))) (vs_nil))
        (vs_cons (vs_if (vt_cmp (o_eq rfl hu) (v_ix (o_ix rfl) (v_var (i := 0) rfl (Or.inl lk_l_made__law_tree_here)) (v_int) (fun _ _ => rfl)) (v_str) (nomark _)) (vs_one (vs_ret (v_new rfl (A.mkI .ent) (ok_ini_Entry A B) (hr.mono (by show _ <= 3 + n; omega)) lk_l_made_Entry A.m_Entry (A.bi .ent) (va_Subscript (v_ix (o_ix rfl) (v_var (i := 0) rfl (Or.inl lk_l_made__law_tree_here)) (v_int) (fun _ _ => rfl)) (va_Subscript (v_ix (o_ix rfl) (v_var (i := 0) rfl (Or.inl lk_l_made__law_tree_here)) (v_int) (fun _ _ => rfl)) va_nil))))) (vs_nil))
        (vs_cons (vs_if (vt_cmp (o_eq rfl hu) (v_ix (o_ix rfl) (v_var (i := 0) rfl (Or.inl lk_l_made__law_tree_here)) (v_int) (fun _ _ => rfl)) (v_str) (nomark _)) (vs_one (vs_ret (v_new rfl (A.mkI .neg) (ok_ini_Negative A) (hr.mono (by show _ <= 3 + n; omega)) lk_l_made_Negative A.m_Negative (A.bi .neg) (va_Call (v_call rfl (ih) (hr.mono (by show _ <= 3 + n; omega)) lk_l_made__law_made A.D_l_made.m A.D_l_made.F.kp A.D_l_made.b passes_fn (va_Subscript (v_ix (o_ix rfl) (v_var (i := 0) rfl (Or.inl lk_l_made__law_tree_here)) (v_int) (fun _ _ => rfl)) va_nil)) va_nil)))) (vs_nil))
        (vs_cons (vs_if (vt_cmp (o_eq rfl hu) (v_ix (o_ix rfl) (v_var (i := 0) rfl (Or.inl lk_l_made__law_tree_here)) (v_int) (fun _ _ => rfl)) (v_str) (nomark _)) (vs_one (vs_ret (v_new rfl (A.mkI .sum) (ok_ini_Sum A) (hr.mono (by show _ <= 3 + n; omega)) lk_l_made_Sum A.m_Sum (A.bi .sum) (va_Subscript (v_ix (o_ix rfl) (v_var (i := 0) rfl (Or.inl lk_l_made__law_tree_here)) (v_int) (fun _ _ => rfl)) (va_Subscript (v_ix (o_ix rfl) (v_var (i := 0) rfl (Or.inl lk_l_made__law_tree_here)) (v_int) (fun _ _ => rfl)) (va_Call (v_call rfl (ih) (hr.mono (by show _ <= 3 + n; omega)) lk_l_made__law_made A.D_l_made.m A.D_l_made.F.kp A.D_l_made.b passes_fn (va_Subscript (v_ix (o_ix rfl) (v_var (i := 0) rfl (Or.inl lk_l_made__law_tree_here)) (v_int) (fun _ _ => rfl)) va_nil)) va_nil)))))) (vs_nil))
        (vs_cons (vs_set (i := 1) sc_l_made.nd rfl (Or.inl lk_l_made__law_one) (v_call rfl (ih) (hr.mono (by show _ <= 3 + n; omega)) lk_l_made__law_made A.D_l_made.m A.D_l_made.F.kp A.D_l_made.b passes_fn (va_Subscript (v_ix (o_ix rfl) (v_var (i := 0) rfl (Or.inl lk_l_made__law_tree_here)) (v_int) (fun _ _ => rfl)) va_nil)))
        (vs_cons (vs_set (i := 2) sc_l_made.nd rfl (Or.inl lk_l_made__law_other) (v_call rfl (ih) (hr.mono (by show _ <= 3 + n; omega)) lk_l_made__law_made A.D_l_made.m A.D_l_made.F.kp A.D_l_made.b passes_fn (va_Subscript (v_ix (o_ix rfl) (v_var (i := 0) rfl (Or.inl lk_l_made__law_tree_here)) (v_int) (fun _ _ => rfl)) va_nil)))
        (vs_cons (vs_if (vt_cmp (o_eq rfl hu) (v_ix (o_ix rfl) (v_var (i := 0) rfl (Or.inl lk_l_made__law_tree_here)) (v_int) (fun _ _ => rfl)) (v_str) (nomark _)) (vs_one (vs_ret (v_new rfl (A.mkI (.bin 0)) (ok_ini_Plus A) (hr.mono (by show _ <= 3 + n; omega)) lk_l_made_Plus A.m_Plus (A.bi (.bin 0)) (va_Name (v_var (i := 1) rfl (Or.inl lk_l_made__law_one)) (va_Name (v_var (i := 2) rfl (Or.inl lk_l_made__law_other)) va_nil))))) (vs_nil))
        (vs_one (vs_ret (v_ifE (vt_cmp (o_eq rfl hu) (v_ix (o_ix rfl) (v_var (i := 0) rfl (Or.inl lk_l_made__law_tree_here)) (v_int) (fun _ _ => rfl)) (v_str) (nomark _)) (v_new rfl (A.mkI (.bin 1)) (ok_ini_Minus A) (hr.mono (by show _ <= 3 + n; omega)) lk_l_made_Minus A.m_Minus (A.bi (.bin 1)) (va_Name (v_var (i := 1) rfl (Or.inl lk_l_made__law_one)) (va_Name (v_var (i := 2) rfl (Or.inl lk_l_made__law_other)) va_nil))) (v_new rfl (A.mkI (.bin 2)) (ok_ini_Times A) (hr.mono (by show _ <= 3 + n; omega)) lk_l_made_Times A.m_Times (A.bi (.bin 2)) (va_Name (v_var (i := 1) rfl (Or.inl lk_l_made__law_one)) (va_Name (v_var (i := 2) rfl (Or.inl lk_l_made__law_other)) va_nil))))))))))))
end
end Pw
set_option Elab.async false
set_option linter.all false
set_option maxRecDepth 100000
set_option maxHeartbeats 4000000
namespace Pw
open PySem L2
seal PE PT PW PA PS PSs PG PGs PI PIf PO PJ
section
variable {P : Program} {w : World} {K : PySem.W.Frag} {mg : Str -> Option Value} {base : Heap} {f : Addr} {fd : FuncData}
def b_l_parts : Sv :=
  vSeq (vIfS (vCmp wIn (vOp wIx (vVar 0) (vC (.int 0))) (vTup [vC (.str "number"), vC (.str "entry")])) (vRet (vLst [])) (vNext))
  (vRet (vComp 1 [] (vSeqI (vSlSN (vVar 0) (vC (.int 1)))) (gV 0) (vTest truT (vFn wIsi [vVar 0, vC (.ty "tuple")])) (vVar 0)))
def C_l_parts : Ct := fun ts P => ∃ t, ts = [tel t] /\ P (.ok (.va (.lst ((prt t).map tel))))
theorem sc_l_parts : FnScope ["_law_tree_here"] ["_law_tree_here"] (defScope s_l_parts) := ⟨rfl, rfl, rfl, by decide +kernel, rfl, by decide +kernel, by decide +kernel⟩
theorem lk_l_parts__law_tree_here : Lk s_l_parts "_law_tree_here" .local := by decide +kernel
theorem len_l_parts : ∀ ts Q, C_l_parts ts Q -> ts.length = 1 := fun ts Q ⟨_, e, _⟩ => by rw [e]; rfl
theorem nice_l_parts : ∀ ts Q, C_l_parts ts Q -> bodyC 1 b_l_parts ts Q := by
  rintro ts Q ⟨t, rfl, q⟩
  cases t with
  | num a => exact ⟨["number", "entry"], rfl, q⟩
  | ent x ks => exact ⟨["number", "entry"], rfl, q⟩
  | neg t => exact ⟨["number", "entry"], rfl, no_all (Nat.succ_pos _), few_line (Nat.le_of_ble_eq_true rfl), _, rfl, rfl, rfl, q⟩
  | sum b g t => exact ⟨["number", "entry"], rfl, no_all (Nat.succ_pos _), few_line (Nat.le_of_ble_eq_true rfl), _, rfl, rfl, _, rfl, rfl, _, rfl, rfl, rfl, q⟩
  | bin w a b =>
    match w with
    | 0 => exact ⟨["number", "entry"], rfl, no_all (Nat.succ_pos _), few_line (Nat.le_of_ble_eq_true rfl), _, rfl, rfl, rfl, _, rfl, rfl, rfl, q⟩
    | 1 => exact ⟨["number", "entry"], rfl, no_all (Nat.succ_pos _), few_line (Nat.le_of_ble_eq_true rfl), _, rfl, rfl, rfl, _, rfl, rfl, rfl, q⟩
    | 2 => exact ⟨["number", "entry"], rfl, no_all (Nat.succ_pos _), few_line (Nat.le_of_ble_eq_true rfl), _, rfl, rfl, rfl, _, rfl, rfl, rfl, q⟩
theorem ok_l_parts (A : AllD K mg) (B : Blt mg) : FnOk P w K mg base (CXF P w) 1 A.f_l_parts A.d_l_parts ["_law_tree_here"] (spV K C_l_parts) :=
  fn_V A.D_l_parts.F sc_l_parts b_l_parts len_l_parts nice_l_parts fun cdv A_ outer s H E hr => have hu := hr.units
  vs_cons (vs_if (vt_cmp (o_in rfl) (v_ix (o_ix rfl) (v_var (i := 0) rfl (Or.inl lk_l_parts__law_tree_here)) (v_int) (fun _ _ => rfl)) (v_tup (va_Constant (v_str) (va_Constant (v_str) va_nil))) (by with_unfolding_all rfl)) (vs_one (vs_ret (v_lst va_nil))) (vs_nil))
  (vs_one (vs_ret (v_comp rfl (frees_of ["_law_part"] [] ["_law_tree_here"] (by decide +kernel)) (noFree rfl) (by decide +kernel) rfl (by decide +kernel) (fun y hy => PySem.mem_of_lookup hy) rfl (tg_name 0) (keeps_name (by decide)) noOw_name (vi_seq rfl (v_slSN rfl (v_var (i := 0) rfl (Or.inl lk_l_parts__law_tree_here)) (v_int))) (fun cl C s H fp pins => pg_name (i := 0) (show (["_law_part"] : List Str).Nodup by decide +kernel) rfl (Or.inl (c_loc (by decide +kernel))) (.inr (c_loc (by decide +kernel)))) (fun cl C s H fp pins => vif_one (vt_tru rfl (v_fnB (f_isi rfl) (c_gl (by decide +kernel)) B.isinstance bt_isinstance (va_Name (v_var (i := 0) rfl (c_vloc (by decide +kernel))) (va_Name (v_ty (c_gl (by decide +kernel)) B.tuple bt_tuple) va_nil))))) (fun cl C s H fp pins => v_var (i := 0) rfl (c_vloc (by decide +kernel))))))
def b_l_number_text_t : Sv := vRet (vIf (vCmp wLt (vOp wIx (vVar 0) (vC (.int 0))) (vC (.int 0))) (vOp wAdd (vOp wAdd (vC (.str "(- ")) (vVar 1)) (vC (.str ")"))) (vVar 1))
def b_l_number_text : Sv := vSeq (vSet 1 (vOp wAdd (vFn wStr [vFn wAbs [vOp wIx (vVar 0) (vC (.int 0))]]) (vOp wIx (vLst [vOp wAdd (vC (.str "/")) (vFn wStr [vOp wIx (vVar 0) (vC (.int 1))]), vC (.str "")]) (vFn wInt [vOp wEq (vOp wIx (vVar 0) (vC (.int 1))) (vC (.int 1))])))) b_l_number_text_t
def C_l_number_text : Ct := fun ts P => ∃ a, ts = [encF a] /\ Fb 40 a /\ P (.ok (.va (.str (shN a))))
theorem sc_l_number_text : FnScope ["_law_one", "_law_text"] ["_law_one"] (defScope s_l_number_text) := ⟨rfl, rfl, rfl, by decide +kernel, rfl, by decide +kernel, by decide +kernel⟩
theorem lk_l_number_text__law_one : Lk s_l_number_text "_law_one" .local := by decide +kernel
theorem lk_l_number_text__law_text : Lk s_l_number_text "_law_text" .local := by decide +kernel
theorem lk_l_number_text_abs : Lk s_l_number_text "abs" .globalImplicit := by decide +kernel
theorem lk_l_number_text_int : Lk s_l_number_text "int" .globalImplicit := by decide +kernel
theorem lk_l_number_text_str : Lk s_l_number_text "str" .globalImplicit := by decide +kernel
theorem len_l_number_text : ∀ ts Q, C_l_number_text ts Q -> ts.length = 1 := fun ts Q ⟨_, e, _⟩ => by rw [e]; rfl
theorem app_empty (a : Str) : a ++ "" = a := by rw [show ("" : Str) = T [] from rfl, T_of a, T_app, List.append_nil]
theorem nt_eq (x y : Int) : iT x ++ (if y = 1 then ("" : Str) else "/" ++ iT y) = nT (x, y) := by
  unfold nT
  dsimp only
  split
  · exact app_empty _
  · rw [str_app_assoc]
theorem nice_l_number_text : ∀ ts Q, C_l_number_text ts Q -> bodyC 2 b_l_number_text ts Q := by
  rintro ts Q ⟨a, rfl, fa, q⟩
  have aB : (absI a.1).natAbs = a.1.natAbs := by unfold absI; split <;> omega
  have fx : (absI a.1).natAbs < 2 ^ 40 := by rw [aB]; exact fa.1
  have l1 := iT_len fx
  have l2 := iT_len fa.2
  have e0 : (("/" : Str)).length = 1 := rfl
  have e1 : (("(- " : Str)).length = 3 := rfl
  have e2 : ((")" : Str)).length = 1 := rfl
  refine ⟨log_lt fx (by decide), log_lt fa.2 (by decide), few_line' (by show (("/" : Str)).length + (iT a.2).length <= _; omega), ?_⟩
  have ix : ∀ k : Tv -> Prop, k (.str (if a.2 = 1 then ("" : Str) else "/" ++ iT a.2)) -> optK (atI [.str ("/" ++ iT a.2), .str ""] (b2I (decide (a.2 = 1)))) k := fun k h => by
    by_cases e : a.2 = 1
    · rw [if_pos e] at h; rw [decide_eq_true e]; exact h
    · rw [if_neg e] at h; rw [decide_eq_false e]; exact h
  refine ix _ ?_
  have hz : (if a.2 = 1 then ("" : Str) else "/" ++ iT a.2).length <= 43 := by
    split
    · exact Nat.zero_le _
    · rw [app_len]; omega
  refine ⟨few_line' (by show (iT (absI a.1)).length + _ <= _; omega), ?_⟩
  show b_l_number_text_t [.va (encF a), .va (.str (iT (absI a.1) ++ (if a.2 = 1 then ("" : Str) else "/" ++ iT a.2)))] (bodyK Q)
  rw [nt_eq]
  have hn := nT_len (a := (absI a.1, a.2)) ⟨fx, fa.2⟩
  unfold shN at q
  refine ite_go (fun e => ?_) fun e => ?_
  · have hneg : a.1 < 0 := of_decide_eq_true e
    rw [if_pos hneg] at q
    have ea : absI a.1 = -a.1 := by unfold absI; split <;> omega
    rw [ea] at hn ⊢
    exact ⟨few_line' (by omega), few_line' (by rw [app_len]; omega), q⟩
  · have hneg : ¬ a.1 < 0 := of_decide_eq_false e
    rw [if_neg hneg] at q
    have ea : absI a.1 = a.1 := by unfold absI; split <;> omega
    rw [ea]
    exact q
theorem ok_l_number_text (A : AllD K mg) (B : Blt mg) : FnOk P w K mg base (CXF P w) 1 A.f_l_number_text A.d_l_number_text ["_law_one"] (spV K C_l_number_text) :=
  fn_V A.D_l_number_text.F sc_l_number_text b_l_number_text len_l_number_text nice_l_number_text fun cdv A_ outer s H E hr => have hu := hr.units
  vs_cons (vs_set (i := 1) sc_l_number_text.nd rfl (Or.inl lk_l_number_text__law_text) (v_op (o_add rfl) (v_fnT f_str lk_l_number_text_str B.str bt_str (va_Call (v_fnB f_abs lk_l_number_text_abs B.abs bt_abs (va_Subscript (v_ix (o_ix rfl) (v_var (i := 0) rfl (Or.inl lk_l_number_text__law_one)) (v_int) (fun _ _ => rfl)) va_nil)) va_nil)) (v_ix (o_ix rfl) (v_lst (va_BinOp (v_op (o_add rfl) (v_str) (v_fnT f_str lk_l_number_text_str B.str bt_str (va_Subscript (v_ix (o_ix rfl) (v_var (i := 0) rfl (Or.inl lk_l_number_text__law_one)) (v_int) (fun _ _ => rfl)) va_nil))) (va_Constant (v_str) va_nil))) (v_fnT f_int lk_l_number_text_int B.int bt_int (va_Compare (v_cmp (o_eq rfl hu) (v_ix (o_ix rfl) (v_var (i := 0) rfl (Or.inl lk_l_number_text__law_one)) (v_int) (fun _ _ => rfl)) (v_int) (nomark _)) va_nil)) (fun _ _ => rfl))))
  (vs_one (vs_ret (v_ifE (vt_cmp o_lt (v_ix (o_ix rfl) (v_var (i := 0) rfl (Or.inl lk_l_number_text__law_one)) (v_int) (fun _ _ => rfl)) (v_int) (nomark _)) (v_op (o_add rfl) (v_op (o_add rfl) (v_str) (v_var (i := 1) rfl (Or.inl lk_l_number_text__law_text))) (v_str)) (v_var (i := 1) rfl (Or.inl lk_l_number_text__law_text)))))
end
end Pw
set_option Elab.async false
set_option linter.all false
set_option maxRecDepth 100000
set_option maxHeartbeats 4000000
namespace Pw
open PySem L2
seal PE PT PW PA PS PSs PG PGs PI PIf PO PJ
section
variable {P : Program} {w : World} {K : PySem.W.Frag} {mg : Str -> Option Value} {base : Heap} {f : Addr} {fd : FuncData}
def b_l_shown_5 (Cr : Ct) : Sv := vRet (vOp wAdd (vOp wAdd (vOp wAdd (vOp wAdd (vC (.str "(")) (vOp wIx (vVar 1) (vC (.int 0)))) (vOp wDIx (vC (.dic (([("plus", " + "), ("minus", " - "), ("times", " * ")] : List (Str × Str)).map fun e : Str × Str => Sum.inr e.1) (([("plus", " + "), ("minus", " - "), ("times", " * ")] : List (Str × Str)).map fun e : Str × Str => .str e.2))) (vOp wIx (vVar 0) (vC (.int 0))))) (vOp wIx (vVar 1) (vC (.int 1)))) (vC (.str ")")))
def b_l_shown_4s (Cr : Ct) : Sv := vIfS (vCmp wEq (vOp wIx (vVar 0) (vC (.int 0))) (vC (.str "negative"))) (vRet (vOp wAdd (vOp wAdd (vC (.str "(- ")) (vOp wIx (vVar 1) (vC (.int 0)))) (vC (.str ")")))) (vNext)
def b_l_shown_4 (Cr : Ct) : Sv := vSeq (b_l_shown_4s Cr) (b_l_shown_5 Cr)
def b_l_shown_3s (Cr : Ct) : Sv := vIfS (vCmp wEq (vOp wIx (vVar 0) (vC (.int 0))) (vC (.str "sum"))) (vRet (vOp wAdd (vOp wAdd (vOp wAdd (vOp wAdd (vOp wAdd (vOp wAdd (vC (.str "sum(")) (vOp wIx (vVar 0) (vC (.int 1)))) (vC (.str " in "))) (vOp wIx (vVar 0) (vC (.int 2)))) (vC (.str ", "))) (vOp wIx (vVar 1) (vC (.int 0)))) (vC (.str ")")))) (vNext)
def b_l_shown_3 (Cr : Ct) : Sv := vSeq (b_l_shown_3s Cr) (b_l_shown_4 Cr)
def b_l_shown_2s (Cr : Ct) : Sv := vSet 1 (vComp 1 [] (vSeqI (vCall C_l_parts [vVar 0])) (gV 0) (vYes) (vCall Cr [vVar 0]))
def b_l_shown_2 (Cr : Ct) : Sv := vSeq (b_l_shown_2s Cr) (b_l_shown_3 Cr)
def b_l_shown_1s (Cr : Ct) : Sv := vIfS (vCmp wEq (vOp wIx (vVar 0) (vC (.int 0))) (vC (.str "entry"))) (vRet (vOp wAdd (vOp wIx (vVar 0) (vC (.int 1))) (vOp wIx (vLst [vC (.str ""), vOp wAdd (vOp wAdd (vC (.str "(")) (vMtS wJn (vC (.str ", ")) [vFn wList [vOp wIx (vVar 0) (vC (.int 2))]])) (vC (.str ")"))]) (vFn wInt [vOp wNe (vOp wIx (vVar 0) (vC (.int 2))) (vTup [])])))) (vNext)
def b_l_shown_1 (Cr : Ct) : Sv := vSeq (b_l_shown_1s Cr) (b_l_shown_2 Cr)
def b_l_shown_0s (Cr : Ct) : Sv := vIfS (vCmp wEq (vOp wIx (vVar 0) (vC (.int 0))) (vC (.str "number"))) (vRet (vCall C_l_number_text [vOp wIx (vVar 0) (vC (.int 1))])) (vNext)
def b_l_shown (Cr : Ct) : Sv :=
  vSeq (b_l_shown_0s Cr) (b_l_shown_1 Cr)
def C_l_shown : Nat -> Ct
  | 0 => fun _ _ => False
  | n + 1 => fun ts P => ∃ t : Trm, ts = [tel t] /\ dp t <= n + 1 /\ dp t <= 6 /\ Tok t /\ P (.ok (.va (.str (shw t))))
theorem sc_l_shown : FnScope ["_law_tree_here", "_law_parts_here"] ["_law_tree_here"] (defScope s_l_shown) := ⟨rfl, rfl, rfl, by decide +kernel, rfl, by decide +kernel, by decide +kernel⟩
theorem lk_l_shown__law_tree_here : Lk s_l_shown "_law_tree_here" .local := by decide +kernel
theorem lk_l_shown__law_parts_here : Lk s_l_shown "_law_parts_here" .local := by decide +kernel
theorem lk_l_shown__law_number_text : Lk s_l_shown "_law_number_text" .globalImplicit := by decide +kernel
theorem lk_l_shown__law_parts : Lk s_l_shown "_law_parts" .globalImplicit := by decide +kernel
theorem lk_l_shown_int : Lk s_l_shown "int" .globalImplicit := by decide +kernel
theorem lk_l_shown_list : Lk s_l_shown "list" .globalImplicit := by decide +kernel
theorem len_l_shown (n : Nat) : ∀ ts Q, C_l_shown (n + 1) ts Q -> ts.length = 1 := fun ts Q ⟨_, e, _⟩ => by rw [e]; rfl
theorem mark3 (x y : Str) (w : Fin 3) : "(" ++ x ++ (match w with | 0 => (" + " : Str) | 1 => " - " | 2 => " * ") ++ y ++ ")" = "(" ++ x ++ " " ++ markB w ++ " " ++ y ++ ")" := by
  have e : ∀ z : Str, z ++ (match w with | 0 => (" + " : Str) | 1 => " - " | 2 => " * ") = z ++ " " ++ markB w ++ " " := fun z => by
    rw [str_app_assoc, str_app_assoc]
    match w with
    | 0 => rfl
    | 1 => rfl
    | 2 => rfl
  rw [e]
theorem nice_l_shown (n : Nat) : ∀ ts Q, C_l_shown (n + 1) ts Q -> bodyC 2 (b_l_shown (C_l_shown n)) ts Q := by
  rintro ts Q ⟨t, rfl, hd, h6, ok, q⟩
  have e0 : (("(- " : Str)).length = 3 := rfl
  have e1 : ((")" : Str)).length = 1 := rfl
  have e2 : (("(" : Str)).length = 1 := rfl
  have e3 : ((" " : Str)).length = 1 := rfl
  have e4 : (("sum(" : Str)).length = 4 := rfl
  have e5 : ((" in " : Str)).length = 4 := rfl
  have e6 : ((", " : Str)).length = 2 := rfl
  have e7 : (("" : Str)).length = 0 := rfl
  have REC : ∀ (s : Trm) (K' : Ans Sl -> Prop), dp s <= n -> dp s <= 6 -> Tok s -> K' (.ok (.va (.str (shw s)))) -> C_l_shown n [tel s] K' := fun s K' h h6 o z => by
    obtain ⟨n, rfl⟩ : ∃ j, n = j + 1 := ⟨n - 1, by have := dp_pos s; omega⟩
    exact ⟨s, rfl, h, h6, o, z⟩
  have PARTS : ∀ (K' : List Tv -> Prop), K' ((prt t).map fun s => .str (shw s)) -> compW (gV 0) vYes (vCall (C_l_shown n) [vVar 0]) [.un] ((prt t).map tel) [] K' := fun K' h =>
    compW_enc tel (fun s => Tv.str (shw s)) (fun s hs Ky Kn hk => ⟨_, rfl, rfl, REC s _ (by have := prt_dp hs; omega) (by have := prt_dp hs; omega) (prt_ok ok hs) ⟨rfl, hk⟩⟩) h
  have hl : ((prt t).map tel).length < sizeLine := few_line (by rw [List.length_map]; have := prt_few t; omega)
  cases t with
  | num a => exact ⟨a, rfl, ok.2, q⟩
  | ent x ks =>
    have h0 : x.length <= 100 := ok.1
    have h1 := glued_len ", " ks
    have h2 := join_few ok.2.1 ok.2.2
    cases ks with
    | nil => exact ⟨[], rfl, by omega, few_line' (by omega), few_line' (by rw [app_len]; omega), .inr (.inr ⟨rfl, few_line' (by rw [e7]; omega), by rw [app_empty]; exact q⟩)⟩
    | cons k ks =>
      refine ⟨k :: ks, rfl, by omega, few_line' (by omega), few_line' (by rw [app_len]; omega), .inr (.inr ⟨rfl, few_line' (by rw [app_len, app_len]; omega), ?_⟩)⟩
      rw [← str_app_assoc, ← str_app_assoc]
      exact q
  | neg t =>
    have h2 : 1 + dp t <= 6 := h6
    have hz := shw_few (t := t) ok (by omega)
    exact ⟨.neg t, rfl, hl, PARTS _ ⟨few_line' (by omega), few_line' (by rw [app_len]; omega), q⟩⟩
  | sum b g t =>
    have h2 : 1 + dp t <= 6 := h6
    have hz := shw_few (t := t) ok.2.2 (by omega)
    have hb : b.length <= 100 := ok.1
    have hg : g.length <= 100 := ok.2.1
    exact ⟨.sum b g t, rfl, hl, PARTS _ ⟨few_line' (by omega), few_line' (by simp only [app_len]; omega), few_line' (by simp only [app_len]; omega), few_line' (by simp only [app_len]; omega), few_line' (by simp only [app_len]; omega), few_line' (by simp only [app_len]; omega), q⟩⟩
  | bin w a b =>
    have h2 : 1 + max (dp a) (dp b) <= 6 := h6
    have la := shw_len ok.1
    have lb := shw_len ok.2
    have pa : 2 ^ dp a <= 2 ^ 5 := Nat.pow_le_pow_right (by decide) (by omega)
    have pb : 2 ^ dp b <= 2 ^ 5 := Nat.pow_le_pow_right (by decide) (by omega)
    have p5 : (2 : Nat) ^ 5 = 32 := rfl
    have q : Q (.ok (.va (.str ("(" ++ shw a ++ " " ++ markB w ++ " " ++ shw b ++ ")")))) := q
    rw [← mark3] at q
    have f1 : ((" + " : Str)).length = 3 := rfl
    have f2 : ((" - " : Str)).length = 3 := rfl
    have f3 : ((" * " : Str)).length = 3 := rfl
    match w with
    | 0 => exact ⟨.bin 0 a b, rfl, hl, PARTS _ ⟨few_line' (by omega), few_line' (by simp only [app_len]; omega), few_line' (by simp only [app_len]; omega), few_line' (by simp only [app_len]; omega), q⟩⟩
    | 1 => exact ⟨.bin 1 a b, rfl, hl, PARTS _ ⟨few_line' (by omega), few_line' (by simp only [app_len]; omega), few_line' (by simp only [app_len]; omega), few_line' (by simp only [app_len]; omega), q⟩⟩
    | 2 => exact ⟨.bin 2 a b, rfl, hl, PARTS _ ⟨few_line' (by omega), few_line' (by simp only [app_len]; omega), few_line' (by simp only [app_len]; omega), few_line' (by simp only [app_len]; omega), q⟩⟩
theorem ok_l_shown (A : AllD K mg) (B : Blt mg) : ∀ n, FnOk P w K mg base (CXF P w) (3 + n) A.f_l_shown A.d_l_shown ["_law_tree_here"] (spV K (C_l_shown n))
  | 0 => FnOk.none fun _ _ h => h
  | n + 1 => by
    have ih := ok_l_shown A B n
    exact fn_V A.D_l_shown.F sc_l_shown (b_l_shown (C_l_shown n)) (len_l_shown n) (nice_l_shown n) fun cdv A_ outer s H E hr => have hu := hr.units
      vs_cons (vs_if (vt_cmp (o_eq rfl hu) (v_ix (o_ix rfl) (v_var (i := 0) rfl (Or.inl lk_l_shown__law_tree_here)) (v_int) (fun _ _ => rfl)) (v_str) (nomark _)) (vs_one (vs_ret (v_call rfl (ok_l_number_text A B) (hr.mono (by show _ <= 3 + n; omega)) lk_l_shown__law_number_text A.D_l_number_text.m A.D_l_number_text.F.kp A.D_l_number_text.b passes_fn (va_Subscript (v_ix (o_ix rfl) (v_var (i := 0) rfl (Or.inl lk_l_shown__law_tree_here)) (v_int) (fun _ _ => rfl)) va_nil)))) (vs_nil))
        (vs_cons (vs_if (vt_cmp (o_eq rfl hu) (v_ix (o_ix rfl) (v_var (i := 0) rfl (Or.inl lk_l_shown__law_tree_here)) (v_int) (fun _ _ => rfl)) (v_str) (nomark _)) (vs_one (vs_ret (v_op (o_add rfl) (v_ix (o_ix rfl) (v_var (i := 0) rfl (Or.inl lk_l_shown__law_tree_here)) (v_int) (fun _ _ => rfl)) (v_ix (o_ix rfl) (v_lst (hz := Nat.le_of_ble_eq_true rfl) (va_Constant (v_str) (va_BinOp (v_op (o_add rfl) (v_op (o_add rfl) (v_str) (v_mtS rfl PySem.F.slot_str_join PySem.F.type_str_join mt_joinV (v_str) (va_Call (v_fnT (f_list rfl) lk_l_shown_list B.list bt_list (va_Subscript (v_ix (o_ix rfl) (v_var (i := 0) rfl (Or.inl lk_l_shown__law_tree_here)) (v_int) (fun _ _ => rfl)) va_nil)) va_nil))) (v_str)) va_nil))) (v_fnT f_int lk_l_shown_int B.int bt_int (va_Compare (v_cmp (o_ne rfl hu) (v_ix (o_ix rfl) (v_var (i := 0) rfl (Or.inl lk_l_shown__law_tree_here)) (v_int) (fun _ _ => rfl)) (v_tup va_nil) (nomark _)) va_nil)) (fun _ _ => rfl))))) (vs_nil))
        (vs_cons (vs_setc (i0 := 1) sc_l_shown.nd rfl lk_l_shown__law_parts_here rfl (frees_of ["_law_part"] [] ["_law_tree_here", "_law_parts_here"] (by decide +kernel)) (noFree rfl) (by decide +kernel) rfl (by decide +kernel) (fun y hy => PySem.mem_of_lookup hy) rfl (tg_name 0) (keeps_name (by decide)) noOw_name (vi_seq rfl (v_call rfl (ok_l_parts A B) (hr.mono (by show _ <= 3 + n; omega)) lk_l_shown__law_parts A.D_l_parts.m A.D_l_parts.F.kp A.D_l_parts.b passes_fn (va_Name (v_var (i := 0) rfl (Or.inl lk_l_shown__law_tree_here)) va_nil))) (fun cl C s H fp pins => pg_name (i := 0) (show (["_law_part"] : List Str).Nodup by decide +kernel) rfl (Or.inl (c_loc (by decide +kernel))) (.inr (c_loc (by decide +kernel)))) (fun cl C s H fp pins => vif_nil) (fun cl C s H fp pins => v_call rfl ih hr (c_gl (by decide +kernel)) A.D_l_shown.m A.D_l_shown.F.kp A.D_l_shown.b passE0 (va_Name (v_var (i := 0) rfl (c_vloc (by decide +kernel))) va_nil)))
        (vs_cons (vs_if (vt_cmp (o_eq rfl hu) (v_ix (o_ix rfl) (v_var (i := 0) rfl (Or.inl lk_l_shown__law_tree_here)) (v_int) (fun _ _ => rfl)) (v_str) (nomark _)) (vs_one (vs_ret (v_op (o_add rfl) (v_op (o_add rfl) (v_op (o_add rfl) (v_op (o_add rfl) (v_op (o_add rfl) (v_op (o_add rfl) (v_str) (v_ix (o_ix rfl) (v_var (i := 0) rfl (Or.inl lk_l_shown__law_tree_here)) (v_int) (fun _ _ => rfl))) (v_str)) (v_ix (o_ix rfl) (v_var (i := 0) rfl (Or.inl lk_l_shown__law_tree_here)) (v_int) (fun _ _ => rfl))) (v_str)) (v_ix (o_ix rfl) (v_var (i := 1) rfl (Or.inl lk_l_shown__law_parts_here)) (v_int) (fun _ _ => rfl))) (v_str)))) (vs_nil))
        (vs_cons (vs_if (vt_cmp (o_eq rfl hu) (v_ix (o_ix rfl) (v_var (i := 0) rfl (Or.inl lk_l_shown__law_tree_here)) (v_int) (fun _ _ => rfl)) (v_str) (nomark _)) (vs_one (vs_ret (v_op (o_add rfl) (v_op (o_add rfl) (v_str) (v_ix (o_ix rfl) (v_var (i := 1) rfl (Or.inl lk_l_shown__law_parts_here)) (v_int) (fun _ _ => rfl))) (v_str)))) (vs_nil))
        (vs_one (vs_ret (v_op (o_add rfl) (v_op (o_add rfl) (v_op (o_add rfl) (v_op (o_add rfl) (v_str) (v_ix (o_ix rfl) (v_var (i := 1) rfl (Or.inl lk_l_shown__law_parts_here)) (v_int) (fun _ _ => rfl))) (v_dix (hu1 hu) (v_disp (kvs := ([("plus", " + "), ("minus", " - "), ("times", " * ")] : List (Str × Str))) (pps_cons pe_str pe_str (pps_cons pe_str pe_str (pps_cons pe_str pe_str (pps_nil)))) (by decide +kernel) (by decide) (h15 := Nat.le_of_ble_eq_true rfl)) (v_ix (o_ix rfl) (v_var (i := 0) rfl (Or.inl lk_l_shown__law_tree_here)) (v_int) (fun _ _ => rfl)) (fun _ _ => rfl))) (v_ix (o_ix rfl) (v_var (i := 1) rfl (Or.inl lk_l_shown__law_parts_here)) (v_int) (fun _ _ => rfl))) (v_str))))))))
end
end Pw
set_option Elab.async false
set_option linter.all false
set_option maxRecDepth 100000
set_option maxHeartbeats 4000000
namespace Pw
open PySem L2
seal PE PT PW PA PS PSs PG PGs PI PIf PO PJ
section
variable {P : Program} {w : World} {K : PySem.W.Frag} {mg : Str -> Option Value} {base : Heap} {f : Addr} {fd : FuncData}
def b_l_put_3 (Cr : Ct) : Sv := vRet (vFn wTuple [vOp wAdd (vLst [vOp wIx (vVar 0) (vC (.int 0))]) (vComp 1 [1, 2] (vSeqI (vSlSN (vVar 0) (vC (.int 1)))) (gV 0) (vYes) (vCall Cr [vVar 0, vVar 1, vVar 2]))])
def b_l_put_2s (Cr : Ct) : Sv := vIfS (vCmp wEq (vOp wIx (vVar 0) (vC (.int 0))) (vC (.str "sum"))) (vRet (vTup [vC (.str "sum"), vOp wIx (vVar 0) (vC (.int 1)), vOp wIx (vVar 0) (vC (.int 2)), vCall Cr [vOp wIx (vVar 0) (vC (.int 3)), vVar 1, vVar 2]])) (vNext)
def b_l_put_2 (Cr : Ct) : Sv := vSeq (b_l_put_2s Cr) (b_l_put_3 Cr)
def b_l_put_1s (Cr : Ct) : Sv := vIfS (vCmp wEq (vOp wIx (vVar 0) (vC (.int 0))) (vC (.str "entry"))) (vRet (vTup [vC (.str "entry"), vOp wIx (vVar 0) (vC (.int 1)), vFn wTuple [vComp 1 [2, 1] (vSeqI (vOp wIx (vVar 0) (vC (.int 2)))) (gV 0) (vYes) (vOp wIx (vLst [vVar 0, vVar 1]) (vFn wInt [vOp wEq (vVar 0) (vVar 2)]))]])) (vNext)
def b_l_put_1 (Cr : Ct) : Sv := vSeq (b_l_put_1s Cr) (b_l_put_2 Cr)
def b_l_put_0s (Cr : Ct) : Sv := vIfS (vOr (vCmp wEq (vOp wIx (vVar 0) (vC (.int 0))) (vC (.str "number"))) (vAnd (vCmp wEq (vOp wIx (vVar 0) (vC (.int 0))) (vC (.str "sum"))) (vCmp wEq (vOp wIx (vVar 0) (vC (.int 1))) (vVar 1)))) (vRet (vVar 0)) (vNext)
def b_l_put (Cr : Ct) : Sv :=
  vSeq (b_l_put_0s Cr) (b_l_put_1 Cr)
def C_l_put : Nat -> Ct
  | 0 => fun _ _ => False
  | n + 1 => fun ts P => ∃ (t : Trm) (b m : Str), ts = [tel t, .str b, .str m] /\ dp t <= n + 1 /\ Tok t /\ P (.ok (.va (tel (putT b m t))))
theorem sc_l_put : FnScope ["_law_tree_here", "_law_binder", "_law_member"] ["_law_tree_here", "_law_binder", "_law_member"] (defScope s_l_put) := ⟨rfl, rfl, rfl, by decide +kernel, rfl, by decide +kernel, by decide +kernel⟩
theorem lk_l_put__law_tree_here : Lk s_l_put "_law_tree_here" .local := by decide +kernel
theorem lk_l_put__law_binder : Lk s_l_put "_law_binder" .cell := by decide +kernel
theorem lk_l_put__law_member : Lk s_l_put "_law_member" .cell := by decide +kernel
theorem lk_l_put__law_put : Lk s_l_put "_law_put" .globalImplicit := by decide +kernel
theorem lk_l_put_tuple : Lk s_l_put "tuple" .globalImplicit := by decide +kernel
theorem len_l_put (n : Nat) : ∀ ts Q, C_l_put (n + 1) ts Q -> ts.length = 3 := fun ts Q ⟨_, _, _, e, _⟩ => by rw [e]; rfl
theorem nice_l_put (n : Nat) : ∀ ts Q, C_l_put (n + 1) ts Q -> bodyC 3 (b_l_put (C_l_put n)) ts Q := by
  rintro ts Q ⟨t, b, m, rfl, hd, ok, q⟩
  have REC : ∀ (s : Trm) (K' : Ans Sl -> Prop), dp s <= n -> Tok s -> K' (.ok (.va (tel (putT b m s)))) -> C_l_put n [tel s, .str b, .str m] K' := fun s K' h o z => by
    obtain ⟨n, rfl⟩ : ∃ j, n = j + 1 := ⟨n - 1, by have := dp_pos s; omega⟩
    exact ⟨s, b, m, rfl, h, o, z⟩
  have lp : ∀ (a : Tv) (l : List Tv), l.length <= 4 -> ([a] : List Tv).length + l.length <= sizeLine := fun a l h => few_line' (by rw [List.length_singleton]; omega)
  cases t with
  | num a => exact q
  | ent x ks =>
    refine ⟨put_few ok.2.1, compW_enc (α := Str) Tv.str (fun k => Tv.str (if k = b then m else k)) (fun k hk' Ky Kn h => ⟨_, rfl, rfl, ?_⟩) ?_⟩
    · have ix : ∀ κ : Tv -> Prop, κ (.str (if k = b then m else k)) -> optK (atI [.str k, .str m] (b2I (decide (k = b)))) κ := fun κ z => by
        by_cases e : k = b
        · rw [if_pos e] at z; rw [decide_eq_true e]; exact z
        · rw [if_neg e] at z; rw [decide_eq_false e]; exact z
      exact ix _ ⟨rfl, h⟩
    · have e : ks.map (fun k => Tv.str (if k = b then m else k)) = (putK b m ks).map Tv.str := by unfold putK; rw [List.map_map]; rfl
      rw [e]
      exact q
  | neg t =>
    have h1 : 1 + dp t <= n + 1 := hd
    exact ⟨no_all (Nat.succ_pos _), few_line (Nat.le_of_ble_eq_true rfl), _, rfl, rfl, REC t _ (by omega) ok ⟨rfl, lp _ _ (Nat.le_of_ble_eq_true rfl), q⟩⟩
  | sum d g t =>
    have h1 : 1 + dp t <= n + 1 := hd
    have q : Q (.ok (.va (tel (if b = d then .sum d g t else .sum d g (putT b m t))))) := q
    refine ite_go (fun e => ?_) fun e => ?_
    · have hb : d = b := by
        by_cases z : d = b
        · exact z
        · exfalso
          have : (decide (d = b)) = true := e
          exact z (of_decide_eq_true this)
      rw [if_pos hb.symm] at q
      exact q
    · have hb : ¬ b = d := fun z => by
        have : (decide (d = b)) = false := e
        exact absurd z.symm (of_decide_eq_false this)
      rw [if_neg hb] at q
      exact REC t _ (by omega) ok.2.2 q
  | bin w x y =>
    have h1 : 1 + max (dp x) (dp y) <= n + 1 := hd
    match w with
    | 0 => exact ⟨no_all (Nat.succ_pos _), few_line (Nat.le_of_ble_eq_true rfl), _, rfl, rfl, REC x _ (by omega) ok.1 ⟨rfl, _, rfl, rfl, REC y _ (by omega) ok.2 ⟨rfl, lp _ _ (Nat.le_of_ble_eq_true rfl), q⟩⟩⟩
    | 1 => exact ⟨no_all (Nat.succ_pos _), few_line (Nat.le_of_ble_eq_true rfl), _, rfl, rfl, REC x _ (by omega) ok.1 ⟨rfl, _, rfl, rfl, REC y _ (by omega) ok.2 ⟨rfl, lp _ _ (Nat.le_of_ble_eq_true rfl), q⟩⟩⟩
    | 2 => exact ⟨no_all (Nat.succ_pos _), few_line (Nat.le_of_ble_eq_true rfl), _, rfl, rfl, REC x _ (by omega) ok.1 ⟨rfl, _, rfl, rfl, REC y _ (by omega) ok.2 ⟨rfl, lp _ _ (Nat.le_of_ble_eq_true rfl), q⟩⟩⟩
theorem ok_l_put (A : AllD K mg) (B : Blt mg) : ∀ n, FnOk P w K mg base (CXF P w) (2 + n) A.f_l_put A.d_l_put ["_law_tree_here", "_law_binder", "_law_member"] (spV K (C_l_put n))
  | 0 => FnOk.none fun _ _ h => h
  | n + 1 => by
    have ih := ok_l_put A B n
    exact fn_V A.D_l_put.F sc_l_put (b_l_put (C_l_put n)) (len_l_put n) (nice_l_put n) fun cdv A_ outer s H E hr => have hu := hr.units
      vs_cons (vs_if (PW.pt (vw_or (vt_cmp (o_eq rfl hu) (v_ix (o_ix rfl) (v_var (i := 0) rfl (Or.inl lk_l_put__law_tree_here)) (v_int) (fun _ _ => rfl)) (v_str) (nomark _)) (vw_or1 (PW.pt (vw_and (vt_cmp (o_eq rfl hu) (v_ix (o_ix rfl) (v_var (i := 0) rfl (Or.inl lk_l_put__law_tree_here)) (v_int) (fun _ _ => rfl)) (v_str) (nomark _)) (vw_and1 (vt_cmp (o_eq rfl hu) (v_ix (o_ix rfl) (v_var (i := 0) rfl (Or.inl lk_l_put__law_tree_here)) (v_int) (fun _ _ => rfl)) (v_var (i := 1) rfl (Or.inr (Or.inl lk_l_put__law_binder))) (nomark _)))))))) (vs_one (vs_ret (v_var (i := 0) rfl (Or.inl lk_l_put__law_tree_here)))) (vs_nil))
        (vs_cons (vs_if (vt_cmp (o_eq rfl hu) (v_ix (o_ix rfl) (v_var (i := 0) rfl (Or.inl lk_l_put__law_tree_here)) (v_int) (fun _ _ => rfl)) (v_str) (nomark _)) (vs_one (vs_ret (v_tup (hz := Nat.le_of_ble_eq_true rfl) (va_Constant (v_str) (va_Subscript (v_ix (o_ix rfl) (v_var (i := 0) rfl (Or.inl lk_l_put__law_tree_here)) (v_int) (fun _ _ => rfl)) (va_Call (v_fnT (f_tuple rfl) lk_l_put_tuple B.tuple bt_tuple (va_ListComp (v_comp rfl (frees_of ["_law_key"] [("_law_member", 2), ("_law_binder", 1)] ["_law_tree_here", "_law_binder", "_law_member"] (by decide +kernel)) (visC s_l_put (by decide +kernel)) (by decide +kernel) rfl (by decide +kernel) (fun y hy => PySem.mem_of_lookup hy) rfl (tg_name 0) (keeps_name (by decide)) noOw_name (vi_seq rfl (v_ix (o_ix rfl) (v_var (i := 0) rfl (Or.inl lk_l_put__law_tree_here)) (v_int) (fun _ _ => rfl))) (fun cl C s H fp pins => pg_name (i := 0) (show (["_law_key", "_law_member", "_law_binder"] : List Str).Nodup by decide +kernel) rfl (Or.inl (c_loc (by decide +kernel))) (.inr (c_loc (by decide +kernel)))) (fun cl C s H fp pins => vif_nil) (fun cl C s H fp pins => v_ix (o_ix rfl) (v_lst (hz := Nat.le_of_ble_eq_true rfl) (va_Name (v_var (i := 0) rfl (c_vloc (by decide +kernel))) (va_Name (v_var (i := 1) rfl (c_free (by decide +kernel))) va_nil))) (v_fnT f_int (c_gl (by decide +kernel)) B.int bt_int (va_Compare (v_cmp (o_eq rfl hu) (v_var (i := 0) rfl (c_vloc (by decide +kernel))) (v_var (i := 2) rfl (c_free (by decide +kernel))) (nomark _)) va_nil)) (fun _ _ => rfl))) va_nil)) va_nil)))))) (vs_nil))
        (vs_cons (vs_if (vt_cmp (o_eq rfl hu) (v_ix (o_ix rfl) (v_var (i := 0) rfl (Or.inl lk_l_put__law_tree_here)) (v_int) (fun _ _ => rfl)) (v_str) (nomark _)) (vs_one (vs_ret (v_tup (hz := Nat.le_of_ble_eq_true rfl) (va_Constant (v_str) (va_Subscript (v_ix (o_ix rfl) (v_var (i := 0) rfl (Or.inl lk_l_put__law_tree_here)) (v_int) (fun _ _ => rfl)) (va_Subscript (v_ix (o_ix rfl) (v_var (i := 0) rfl (Or.inl lk_l_put__law_tree_here)) (v_int) (fun _ _ => rfl)) (va_Call (v_call rfl ih hr lk_l_put__law_put A.D_l_put.m A.D_l_put.F.kp A.D_l_put.b passes_fn (va_Subscript (v_ix (o_ix rfl) (v_var (i := 0) rfl (Or.inl lk_l_put__law_tree_here)) (v_int) (fun _ _ => rfl)) (va_Name (v_var (i := 1) rfl (Or.inr (Or.inl lk_l_put__law_binder))) (va_Name (v_var (i := 2) rfl (Or.inr (Or.inl lk_l_put__law_member))) va_nil)))) va_nil))))))) (vs_nil))
        (vs_one (vs_ret (v_fnT (f_tuple rfl) lk_l_put_tuple B.tuple bt_tuple (va_BinOp (v_op (o_add rfl) (v_lst (hz := Nat.le_of_ble_eq_true rfl) (va_Subscript (v_ix (o_ix rfl) (v_var (i := 0) rfl (Or.inl lk_l_put__law_tree_here)) (v_int) (fun _ _ => rfl)) va_nil)) (v_comp rfl (frees_of ["_law_part"] [("_law_binder", 1), ("_law_member", 2)] ["_law_tree_here", "_law_binder", "_law_member"] (by decide +kernel)) (visC s_l_put (by decide +kernel)) (by decide +kernel) rfl (by decide +kernel) (fun y hy => PySem.mem_of_lookup hy) rfl (tg_name 0) (keeps_name (by decide)) noOw_name (vi_seq rfl (v_slSN rfl (v_var (i := 0) rfl (Or.inl lk_l_put__law_tree_here)) (v_int))) (fun cl C s H fp pins => pg_name (i := 0) (show (["_law_part", "_law_binder", "_law_member"] : List Str).Nodup by decide +kernel) rfl (Or.inl (c_loc (by decide +kernel))) (.inr (c_loc (by decide +kernel)))) (fun cl C s H fp pins => vif_nil) (fun cl C s H fp pins => v_call rfl ih hr (c_gl (by decide +kernel)) A.D_l_put.m A.D_l_put.F.kp A.D_l_put.b passE0 (va_Name (v_var (i := 0) rfl (c_vloc (by decide +kernel))) (va_Name (v_var (i := 1) rfl (c_free (by decide +kernel))) (va_Name (v_var (i := 2) rfl (c_free (by decide +kernel))) va_nil)))))) va_nil))))))
def b_l_entries_3 (Cr : Ct) : Sv := vRet (vVar 1)
def b_l_entries_2s (Cr : Ct) : Sv := vFor (vSeqI (vCall C_l_parts [vVar 0])) (gV 2) (vSet 1 (vOp wAdd (vVar 1) (vCall Cr [vVar 2])))
def b_l_entries_2 (Cr : Ct) : Sv := vSeq (b_l_entries_2s Cr) (b_l_entries_3 Cr)
def b_l_entries_1s (Cr : Ct) : Sv := vSet 1 (vLst [])
def b_l_entries_1 (Cr : Ct) : Sv := vSeq (b_l_entries_1s Cr) (b_l_entries_2 Cr)
def b_l_entries_0s (Cr : Ct) : Sv := vIfS (vCmp wEq (vOp wIx (vVar 0) (vC (.int 0))) (vC (.str "entry"))) (vRet (vLst [vTup [vOp wIx (vVar 0) (vC (.int 1)), vOp wIx (vVar 0) (vC (.int 2))]])) (vNext)
def b_l_entries (Cr : Ct) : Sv :=
  vSeq (b_l_entries_0s Cr) (b_l_entries_1 Cr)
def C_l_entries : Nat -> Ct
  | 0 => fun _ _ => False
  | n + 1 => fun ts P => ∃ t : Trm, ts = [tel t] /\ dp t <= n + 1 /\ dp t <= 16 /\ P (.ok (.va (.lst (ents t))))
theorem sc_l_entries : FnScope ["_law_tree_here", "_law_found", "_law_part"] ["_law_tree_here"] (defScope s_l_entries) := ⟨rfl, rfl, rfl, by decide +kernel, rfl, by decide +kernel, by decide +kernel⟩
theorem lk_l_entries__law_tree_here : Lk s_l_entries "_law_tree_here" .local := by decide +kernel
theorem lk_l_entries__law_found : Lk s_l_entries "_law_found" .local := by decide +kernel
theorem lk_l_entries__law_part : Lk s_l_entries "_law_part" .local := by decide +kernel
theorem lk_l_entries__law_entries : Lk s_l_entries "_law_entries" .globalImplicit := by decide +kernel
theorem lk_l_entries__law_parts : Lk s_l_entries "_law_parts" .globalImplicit := by decide +kernel
theorem len_l_entries (n : Nat) : ∀ ts Q, C_l_entries (n + 1) ts Q -> ts.length = 1 := fun ts Q ⟨_, e, _⟩ => by rw [e]; rfl
theorem nice_l_entries (n : Nat) : ∀ ts Q, C_l_entries (n + 1) ts Q -> bodyC 3 (b_l_entries (C_l_entries n)) ts Q := by
  rintro ts Q ⟨t, rfl, hd, h16, q⟩
  have REC : ∀ (s : Trm) (K' : Ans Sl -> Prop), dp s <= n -> dp s <= 16 -> K' (.ok (.va (.lst (ents s)))) -> C_l_entries n [tel s] K' := fun s K' h o z => by
    obtain ⟨n, rfl⟩ : ∃ j, n = j + 1 := ⟨n - 1, by have := dp_pos s; omega⟩
    exact ⟨s, rfl, h, o, z⟩
  cases t with
  | num a => exact ⟨.num a, rfl, q⟩
  | ent x ks => exact q
  | neg t =>
    have h1 : 1 + dp t <= n + 1 := hd
    have h2 : 1 + dp t <= 16 := h16
    have hz := ents_few (t := t) (by omega)
    exact ⟨.neg t, rfl, _, rfl, REC t _ (by omega) (by omega) ⟨few_line' (by rw [List.length_nil]; omega), q⟩⟩
  | sum b g t =>
    have h1 : 1 + dp t <= n + 1 := hd
    have h2 : 1 + dp t <= 16 := h16
    have hz := ents_few (t := t) (by omega)
    exact ⟨.sum b g t, rfl, _, rfl, REC t _ (by omega) (by omega) ⟨few_line' (by rw [List.length_nil]; omega), q⟩⟩
  | bin w a b =>
    have h1 : 1 + max (dp a) (dp b) <= n + 1 := hd
    have h2 : 1 + max (dp a) (dp b) <= 16 := h16
    have ha := ents_few (t := a) (by omega)
    have hb : (ents b).length <= 2 ^ dp b := ents_len b
    have hb2 : 2 ^ dp b <= 2 ^ 15 := Nat.pow_le_pow_right (by decide) (by omega)
    match w with
    | 0 => exact ⟨.bin 0 a b, rfl, _, rfl, REC a _ (by omega) (by omega) ⟨few_line' (by rw [List.length_nil]; omega), _, rfl, REC b _ (by omega) (by omega) ⟨few_line' (by rw [List.nil_append]; omega), q⟩⟩⟩
    | 1 => exact ⟨.bin 1 a b, rfl, _, rfl, REC a _ (by omega) (by omega) ⟨few_line' (by rw [List.length_nil]; omega), _, rfl, REC b _ (by omega) (by omega) ⟨few_line' (by rw [List.nil_append]; omega), q⟩⟩⟩
    | 2 => exact ⟨.bin 2 a b, rfl, _, rfl, REC a _ (by omega) (by omega) ⟨few_line' (by rw [List.length_nil]; omega), _, rfl, REC b _ (by omega) (by omega) ⟨few_line' (by rw [List.nil_append]; omega), q⟩⟩⟩
theorem ok_l_entries (A : AllD K mg) (B : Blt mg) : ∀ n, FnOk P w K mg base (CXF P w) (3 + n) A.f_l_entries A.d_l_entries ["_law_tree_here"] (spV K (C_l_entries n))
  | 0 => FnOk.none fun _ _ h => h
  | n + 1 => by
    have ih := ok_l_entries A B n
    exact fn_V A.D_l_entries.F sc_l_entries (b_l_entries (C_l_entries n)) (len_l_entries n) (nice_l_entries n) fun cdv A_ outer s H E hr => have hu := hr.units
      vs_cons (vs_if (vt_cmp (o_eq rfl hu) (v_ix (o_ix rfl) (v_var (i := 0) rfl (Or.inl lk_l_entries__law_tree_here)) (v_int) (fun _ _ => rfl)) (v_str) (nomark _)) (vs_one (vs_ret (v_lst (hz := Nat.le_of_ble_eq_true rfl) (va_Tuple (v_tup (hz := Nat.le_of_ble_eq_true rfl) (va_Subscript (v_ix (o_ix rfl) (v_var (i := 0) rfl (Or.inl lk_l_entries__law_tree_here)) (v_int) (fun _ _ => rfl)) (va_Subscript (v_ix (o_ix rfl) (v_var (i := 0) rfl (Or.inl lk_l_entries__law_tree_here)) (v_int) (fun _ _ => rfl)) va_nil))) va_nil)))) (vs_nil))
        (vs_cons (vs_set (i := 1) sc_l_entries.nd rfl (Or.inl lk_l_entries__law_found) (v_lst va_nil))
        (vs_cons (vs_for pown_fn rfl (vi_seq rfl (v_call rfl (ok_l_parts A B) (hr.mono (by show _ <= 3 + n; omega)) lk_l_entries__law_parts A.D_l_parts.m A.D_l_parts.F.kp A.D_l_parts.b passes_fn (va_Name (v_var (i := 0) rfl (Or.inl lk_l_entries__law_tree_here)) va_nil))) (pg_name (i := 2) sc_l_entries.nd rfl (Or.inl lk_l_entries__law_part) (.inl rfl)) (tg_name 2) (vs_one (vs_set (i := 1) sc_l_entries.nd rfl (Or.inl lk_l_entries__law_found) (v_op (o_add rfl) (v_var (i := 1) rfl (Or.inl lk_l_entries__law_found)) (v_call rfl ih hr lk_l_entries__law_entries A.D_l_entries.m A.D_l_entries.F.kp A.D_l_entries.b passes_fn (va_Name (v_var (i := 2) rfl (Or.inl lk_l_entries__law_part)) va_nil))))))
        (vs_one (vs_ret (v_var (i := 1) rfl (Or.inl lk_l_entries__law_found))))))
def wMaxL : List Tv -> (Tv -> Prop) -> Prop
  | [.lst l], k => ∃ ns : List Int, l = ns.map Tv.int /\ 0 < ns.length /\ ∀ M, M ∈ ns -> (∀ a, a ∈ ns -> a <= M) -> k (.int M)
  | _, _ => False
theorem f_maxL {X : Cx} {K : PySem.W.Frag} (hK : X.K = K) (hc : X.calm = true) : CallR X (.builtin "max") (rVs K wMaxL) := (call_maxL hK hc).imp fun xs H Q ⟨p, l, P, u, r, w, k⟩ => by
  match l, w with
  | [.lst l], ⟨ns, e, h0, w⟩ =>
    subst e
    obtain ⟨v, rfl, rr⟩ := one_of r
    obtain ⟨c, zs, rfl, s1, q1⟩ := rep_lst.mp rr
    rw [repL_ints_eq q1] at s1
    exact ⟨c, ns, rfl, SqL.of (u.sub 0 _ _ s1), h0, fun M h1 h2 => keep0 u (w M h1 h2) k (rep_int.mpr rfl)⟩
def b_l_depth (Cr : Ct) : Sv :=
  vRet (vOp wAdd (vC (.int 1)) (vFn wMaxL [vOp wAdd (vLst [vC (.int 0)]) (vComp 1 [] (vSeqI (vCall C_l_parts [vVar 0])) (gV 0) (vYes) (vCall Cr [vVar 0]))]))
def C_l_depth : Nat -> Ct
  | 0 => fun _ _ => False
  | n + 1 => fun ts P => ∃ t : Trm, ts = [tel t] /\ dp t <= n + 1 /\ P (.ok (.va (dpV t)))
theorem sc_l_depth : FnScope ["_law_tree_here"] ["_law_tree_here"] (defScope s_l_depth) := ⟨rfl, rfl, rfl, by decide +kernel, rfl, by decide +kernel, by decide +kernel⟩
theorem lk_l_depth__law_tree_here : Lk s_l_depth "_law_tree_here" .local := by decide +kernel
theorem lk_l_depth__law_parts : Lk s_l_depth "_law_parts" .globalImplicit := by decide +kernel
theorem lk_l_depth_max : Lk s_l_depth "max" .globalImplicit := by decide +kernel
theorem len_l_depth (n : Nat) : ∀ ts Q, C_l_depth (n + 1) ts Q -> ts.length = 1 := fun ts Q ⟨_, e, _⟩ => by rw [e]; rfl
theorem max_dp0 {t : Trm} {M : Int} (h1 : M ∈ (0 : Int) :: (prt t).map fun s => (dp s : Int)) (h2 : ∀ a, a ∈ (0 : Int) :: (prt t).map (fun s => (dp s : Int)) -> a <= M) : 1 + M = dp t := by
  refine max_dp ⟨fun e => ?_, fun e => ?_⟩
  · rw [e] at h1; exact List.mem_singleton.mp h1
  · rcases List.mem_cons.mp h1 with z | z
    · obtain ⟨x, hx⟩ := List.exists_mem_of_ne_nil _ e
      have h3 := h2 x (List.mem_cons_of_mem _ hx)
      obtain ⟨s, _, es⟩ := List.mem_map.mp hx
      have := dp_pos s
      omega
    · exact ⟨z, fun a ha => h2 a (List.mem_cons_of_mem _ ha)⟩
theorem nice_l_depth (n : Nat) : ∀ ts Q, C_l_depth (n + 1) ts Q -> bodyC 1 (b_l_depth (C_l_depth n)) ts Q := by
  rintro ts Q ⟨t, rfl, hd, q⟩
  have REC : ∀ (s : Trm) (K' : Ans Sl -> Prop), dp s <= n -> K' (.ok (.va (dpV s))) -> C_l_depth n [tel s] K' := fun s K' h z => by
    obtain ⟨n, rfl⟩ : ∃ j, n = j + 1 := ⟨n - 1, by have := dp_pos s; omega⟩
    exact ⟨s, rfl, h, z⟩
  have hl : ((prt t).map tel).length < sizeLine := few_line (by rw [List.length_map]; have := prt_few t; omega)
  refine ⟨t, rfl, hl, compW_enc tel dpV (fun s hs Ky Kn hk => ⟨_, rfl, rfl, REC s _ (by have := prt_dp hs; omega) ⟨rfl, hk⟩⟩) ⟨few_line' (by rw [List.length_map, List.length_singleton]; have := prt_few t; omega), (0 : Int) :: (prt t).map (fun s => (dp s : Int)), ?_, Nat.succ_pos _, fun M h1 h2 => ?_⟩⟩
  · rw [List.map_cons, List.map_map]; rfl
  · show Q (.ok (.va (.int (1 + M))))
    rw [max_dp0 h1 h2]
    exact q
theorem ok_l_depth (A : AllD K mg) (B : Blt mg) : ∀ n, FnOk P w K mg base (CXF P w) (3 + n) A.f_l_depth A.d_l_depth ["_law_tree_here"] (spV K (C_l_depth n))
  | 0 => FnOk.none fun _ _ h => h
  | n + 1 => by
    have ih := ok_l_depth A B n
    exact fn_V A.D_l_depth.F sc_l_depth (b_l_depth (C_l_depth n)) (len_l_depth n) (nice_l_depth n) fun cdv A_ outer s H E hr => have hu := hr.units
      vs_one (vs_ret (v_op (o_add rfl) (v_int) (v_fnB (f_maxL rfl rfl) lk_l_depth_max B.max bt_max (va_BinOp (v_op (o_add rfl) (v_lst (hz := Nat.le_of_ble_eq_true rfl) (va_Constant (v_int) va_nil)) (v_comp rfl (frees_of ["_law_part"] [] ["_law_tree_here"] (by decide +kernel)) (noFree rfl) (by decide +kernel) rfl (by decide +kernel) (fun y hy => PySem.mem_of_lookup hy) rfl (tg_name 0) (keeps_name (by decide)) noOw_name (vi_seq rfl (v_call rfl (ok_l_parts A B) (hr.mono (by show _ <= 3 + n; omega)) lk_l_depth__law_parts A.D_l_parts.m A.D_l_parts.F.kp A.D_l_parts.b passes_fn (va_Name (v_var (i := 0) rfl (Or.inl lk_l_depth__law_tree_here)) va_nil))) (fun cl C s H fp pins => pg_name (i := 0) (show (["_law_part"] : List Str).Nodup by decide +kernel) rfl (Or.inl (c_loc (by decide +kernel))) (.inr (c_loc (by decide +kernel)))) (fun cl C s H fp pins => vif_nil) (fun cl C s H fp pins => v_call rfl ih hr (c_gl (by decide +kernel)) A.D_l_depth.m A.D_l_depth.F.kp A.D_l_depth.b passE0 (va_Name (v_var (i := 0) rfl (c_vloc (by decide +kernel))) va_nil)))) va_nil))))
end
end Pw
set_option Elab.async false
set_option linter.all false
set_option maxRecDepth 100000
set_option maxHeartbeats 4000000
namespace Pw
open PySem L2
seal PE PT PW PA PS PSs PG PGs PI PIf PO PJ
section
variable {P : Program} {w : World} {K : PySem.W.Frag} {mg : Str -> Option Value} {base : Heap} {f : Addr} {fd : FuncData}
def isiD (c : Kd -> Addr) (n : Addr) : Addr -> Addr -> Bool -> Prop := fun C B b => KdD c C /\ B = n /\ b = true
theorem AllD.isiD (A : AllD K mg) : ∀ C B b, Pw.isiD A.c A.cT C B b -> IsiC K C /\ PySem.W.kitOne K (.ref C) (.ref B) = some b := fun C B b ⟨⟨k, e1⟩, e2, e3⟩ => by subst e1 e2 e3; exact A.isi k
def C_l_good (c : Kd -> Addr) : Ct := fun ts P => ∃ t : Trm, ts = [enc c t, tel t] /\ dp t <= 6 /\ Tok t /\ P (.ok (.va (.bl true)))
theorem len_l_good {c : Kd -> Addr} : ∀ ts Q, C_l_good c ts Q -> ts.length = 2 := fun ts Q ⟨_, e, _⟩ => by rw [e]; rfl
theorem hgt_strs : ∀ (ks : List Str) (n : Nat), hgtL n (ks.map Tv.str) = true
  | [], n => by unfold hgtL; rfl
  | k :: ks, n => by rw [List.map_cons]; unfold hgtL; rw [hgt_strs ks n, Bool.and_true]; cases n <;> rfl
theorem hgt_K (ks : List Str) (n : Nat) : hgt (n + 1) (encK ks) = true := by unfold encK hgt; exact hgt_strs ks n
theorem hgt_str (x : Str) (n : Nat) : hgt n (.str x) = true := by cases n <;> rfl
theorem hgt_F (a : Fq) (n : Nat) : hgt (n + 1) (encF a) = true := by unfold encF hgt hgtL hgtL hgtL hgt; cases n <;> rfl
theorem hgt_up : ∀ {t : Trm} {n : Nat}, dp t <= n -> hgtL n (telL t) = true
  | .num a, n + 1, _ => by show (hgt (n + 1) _ && (hgt (n + 1) _ && true)) = true; rw [hgt_str, hgt_F]; rfl
  | .ent x ks, n + 1, _ => by show (hgt (n + 1) _ && (hgt (n + 1) _ && (hgt (n + 1) _ && true))) = true; rw [hgt_str, hgt_str, hgt_K]; rfl
  | .neg t, n + 1, h => by
    have h1 : 1 + dp t <= n + 1 := h
    show (hgt (n + 1) _ && (hgtL n (telL t) && true)) = true
    rw [hgt_str, hgt_up (t := t) (by omega)]; rfl
  | .sum b g t, n + 1, h => by
    have h1 : 1 + dp t <= n + 1 := h
    show (hgt (n + 1) _ && (hgt (n + 1) _ && (hgt (n + 1) _ && (hgtL n (telL t) && true)))) = true
    rw [hgt_str, hgt_str, hgt_str, hgt_up (t := t) (by omega)]; rfl
  | .bin w a b, n + 1, h => by
    have h1 : 1 + max (dp a) (dp b) <= n + 1 := h
    show (hgt (n + 1) _ && (hgtL n (telL a) && (hgtL n (telL b) && true))) = true
    rw [hgt_str, hgt_up (t := a) (by omega), hgt_up (t := b) (by omega)]; rfl
  | .num a, 0, h => absurd (dp_pos (.num a)) (by omega)
  | .ent x ks, 0, h => absurd (dp_pos (.ent x ks)) (by omega)
  | .neg t, 0, h => absurd (dp_pos (.neg t)) (by omega)
  | .sum b g t, 0, h => absurd (dp_pos (.sum b g t)) (by omega)
  | .bin w a b, 0, h => absurd (dp_pos (.bin w a b)) (by omega)
theorem hgt_app {n : Nat} : ∀ {l m : List Tv}, hgtL n l = true -> hgtL n m = true -> hgtL n (l ++ m) = true
  | [], _, _, h => h
  | t :: l, m, h1, h2 => by
    unfold hgtL at h1
    obtain ⟨a, b⟩ := Bool.and_eq_true_iff.mp h1
    show (hgt n t && hgtL n (l ++ m)) = true
    rw [a, hgt_app b h2]; rfl
theorem hgt_ents : ∀ t : Trm, hgtL 40 (ents t) = true
  | .num _ => by unfold ents hgtL; rfl
  | .ent x ks => by show (hgtL 39 [.str x, encK ks] && true) = true; show ((hgt 39 _ && (hgt 39 _ && true)) && true) = true; rw [hgt_str, hgt_K]; rfl
  | .neg t => hgt_ents t
  | .sum _ _ t => hgt_ents t
  | .bin _ a b => hgt_app (hgt_ents a) (hgt_ents b)
def b_l_good_5 (cc : Kd -> Addr) (n : Nat) : Sv := vRet (vOp wEq (vMeth (DM cc (CE cc 6)) "entries" (vVar 0) []) (vCall (C_l_entries 7) [vVar 1]))
def b_l_good_4s (cc : Kd -> Addr) (n : Nat) : Sv := vApp 2 (vC (.str "x"))
def b_l_good_4 (cc : Kd -> Addr) (n : Nat) : Sv := vSeq (b_l_good_4s cc n) (b_l_good_5 cc n)
def b_l_good_3s (cc : Kd -> Addr) (n : Nat) : Sv := vIfS (vPk 2 (vOr (vTest truT (vFn wIsi [vMeth (DM cc (CM cc dpV 6)) "depth" (vVar 0) [], vC (.ty "bool")])) (vOr (vNot (vTest truT (vFn wIsi [vVar 2, vC (.ty "list")]))) (vCmp wNe (vVar 2) (vCall (C_l_entries 7) [vVar 1]))))) (vRet (vC (.bl false))) (vNext)
def b_l_good_3 (cc : Kd -> Addr) (n : Nat) : Sv := vSeq (b_l_good_3s cc n) (b_l_good_4 cc n)
def b_l_good_2s (cc : Kd -> Addr) (n : Nat) : Sv := vNewM 2 (DM cc (CE cc 6)) "entries" (vVar 0)
def b_l_good_2 (cc : Kd -> Addr) (n : Nat) : Sv := vSeq (b_l_good_2s cc n) (b_l_good_3 cc n)
def b_l_good_1s (cc : Kd -> Addr) (n : Nat) : Sv := vIfS (vOr (vNot (vTest truT (vFn wIsi [vMeth (DM cc (CS cc 6)) "shown" (vVar 0) [], vC (.ty "str")]))) (vOr (vCmp wNe (vMeth (DM cc (CS cc 6)) "shown" (vVar 0) []) (vCall (C_l_shown 7) [vVar 1])) (vCmp wNe (vMeth (DM cc (CM cc dpV 6)) "depth" (vVar 0) []) (vCall (C_l_depth 7) [vVar 1])))) (vRet (vC (.bl false))) (vNext)
def b_l_good_1 (cc : Kd -> Addr) (n : Nat) : Sv := vSeq (b_l_good_1s cc n) (b_l_good_2 cc n)
def b_l_good_0s (cc : Kd -> Addr) (n : Nat) : Sv := vIfS (vOr (vNot (vTest truT (vFn (wIsiO (isiD cc n)) [vVar 0, vC (.cls n)]))) (vOr (vNot (vTest truT (vFn wIsi [vMeth (DM cc (CM cc tel 6)) "told" (vVar 0) [], vC (.ty "tuple")]))) (vCmp wNe (vMeth (DM cc (CM cc tel 6)) "told" (vVar 0) []) (vVar 1)))) (vRet (vC (.bl false))) (vNext)
def b_l_good (cc : Kd -> Addr) (n : Nat) : Sv :=
  vSeq (b_l_good_0s cc n) (b_l_good_1 cc n)
theorem sc_l_good : FnScope ["_law_term", "_law_tree_here", "_law_found"] ["_law_term", "_law_tree_here"] (defScope s_l_good) := ⟨rfl, rfl, rfl, by decide +kernel, rfl, by decide +kernel, by decide +kernel⟩
theorem lk_l_good__law_term : Lk s_l_good "_law_term" .local := by decide +kernel
theorem lk_l_good__law_tree_here : Lk s_l_good "_law_tree_here" .local := by decide +kernel
theorem lk_l_good__law_found : Lk s_l_good "_law_found" .local := by decide +kernel
theorem lk_l_good_Term : Lk s_l_good "Term" .globalImplicit := by decide +kernel
theorem lk_l_good__law_depth : Lk s_l_good "_law_depth" .globalImplicit := by decide +kernel
theorem lk_l_good__law_entries : Lk s_l_good "_law_entries" .globalImplicit := by decide +kernel
theorem lk_l_good__law_shown : Lk s_l_good "_law_shown" .globalImplicit := by decide +kernel
theorem lk_l_good_bool : Lk s_l_good "bool" .globalImplicit := by decide +kernel
theorem lk_l_good_isinstance : Lk s_l_good "isinstance" .globalImplicit := by decide +kernel
theorem lk_l_good_list : Lk s_l_good "list" .globalImplicit := by decide +kernel
theorem lk_l_good_str : Lk s_l_good "str" .globalImplicit := by decide +kernel
theorem lk_l_good_tuple : Lk s_l_good "tuple" .globalImplicit := by decide +kernel
theorem nice_l_good {c : Kd -> Addr} {n : Nat} : ∀ ts Q, C_l_good c ts Q -> bodyC 3 (b_l_good c n) ts Q := by
  rintro ts Q ⟨t, rfl, hd, ok, q⟩
  have ht : hgtL 40 (telL t) = true := hgt_up (by omega)
  have he := hgt_ents t
  have hz := ents_few (t := t) (by omega)
  refine ⟨true, ⟨⟨_, rfl⟩, rfl, rfl⟩, no_meth (by decide) _, _, ⟨_, rfl, rfl⟩, t, rfl, rfl, hd, ok, no_meth (by decide) _, _, ⟨_, rfl, rfl⟩, t, rfl, rfl, hd, ok, .inr (.inl ⟨rfl, ht, ?_⟩)⟩
  refine ⟨no_meth (by decide) _, _, ⟨_, rfl, rfl⟩, t, rfl, rfl, hd, hd, ok, no_meth (by decide) _, _, ⟨_, rfl, rfl⟩, t, rfl, rfl, hd, hd, ok, t, rfl, Nat.le_succ_of_le hd, hd, ok, ?_⟩
  refine ite_go (fun e => ?_) fun _ => ?_
  · exact absurd e (by simp)
  refine ⟨no_meth (by decide) _, _, ⟨_, rfl, rfl⟩, t, rfl, rfl, hd, ok, t, rfl, Nat.le_succ_of_le hd, ?_⟩
  refine ite_go (fun e => ?_) fun _ => ?_
  · exact absurd e (by simp)
  refine ⟨no_meth (by decide) _, _, ⟨_, rfl, rfl⟩, t, rfl, rfl, hd, by omega, ok, fun D => ?_⟩
  refine ⟨no_meth (by decide) _, _, ⟨_, rfl, rfl⟩, t, rfl, rfl, hd, ok, t, rfl, Nat.le_succ_of_le hd, by omega, .inr (.inl ⟨rfl, he, rfl, ?_⟩)⟩
  refine ⟨few_line (by omega), no_meth (by decide) _, _, ⟨_, rfl, rfl⟩, t, rfl, rfl, hd, by omega, ok, fun D2 => ⟨t, rfl, Nat.le_succ_of_le hd, by omega, .inr (.inl ⟨rfl, he, q⟩)⟩⟩
theorem ok_l_good (A : AllD K mg) (B : Blt mg) : FnOk P w K mg base (CXF P w) 12 A.f_l_good A.d_l_good ["_law_term", "_law_tree_here"] (spV K (C_l_good A.c)) :=
  fn_V A.D_l_good.F sc_l_good (b_l_good A.c A.cT) len_l_good nice_l_good fun cdv A_ outer s H E hr => have hu := hr.units
  vs_cons (vs_if (PW.pt (vw_or (vt_not (vt_tru rfl (v_fnB (f_isiO rfl A.isiD) lk_l_good_isinstance B.isinstance bt_isinstance (va_Name (v_var (i := 0) rfl (Or.inl lk_l_good__law_term)) (va_Name (v_glob (v := .ref A.cT) lk_l_good_Term A.m_Term rfl (fun _ => rep_cls.mpr rfl)) va_nil))))) (vw_or (vt_not (vt_tru rfl (v_fnB (f_isi rfl) lk_l_good_isinstance B.isinstance bt_isinstance (va_Call (v_meth0 (methV_of (fun k => ok_told A B 6 k) A.M_told A.cl A.b_told (hr.mono (by decide)) passes_fn) (v_var (i := 0) rfl (Or.inl lk_l_good__law_term))) (va_Name (v_ty lk_l_good_tuple B.tuple bt_tuple) va_nil))))) (vw_or1 (vt_cmp (o_ne rfl hu) (v_meth0 (methV_of (fun k => ok_told A B 6 k) A.M_told A.cl A.b_told (hr.mono (by decide)) passes_fn) (v_var (i := 0) rfl (Or.inl lk_l_good__law_term))) (v_var (i := 1) rfl (Or.inl lk_l_good__law_tree_here)) (nomark _)))))) (vs_one (vs_ret (v_bl))) (vs_nil))
  (vs_cons (vs_if (PW.pt (vw_or (vt_not (vt_tru rfl (v_fnB (f_isi rfl) lk_l_good_isinstance B.isinstance bt_isinstance (va_Call (v_meth0 (methV_of (fun k => ok_shown A B 6 k) A.M_shown A.cl A.b_shown (hr.mono (by decide)) passes_fn) (v_var (i := 0) rfl (Or.inl lk_l_good__law_term))) (va_Name (v_ty lk_l_good_str B.str bt_str) va_nil))))) (vw_or (vt_cmp (o_ne rfl hu) (v_meth0 (methV_of (fun k => ok_shown A B 6 k) A.M_shown A.cl A.b_shown (hr.mono (by decide)) passes_fn) (v_var (i := 0) rfl (Or.inl lk_l_good__law_term))) (v_call rfl (ok_l_shown A B 7) (hr.mono (by decide)) lk_l_good__law_shown A.D_l_shown.m A.D_l_shown.F.kp A.D_l_shown.b passes_fn (va_Name (v_var (i := 1) rfl (Or.inl lk_l_good__law_tree_here)) va_nil)) (nomark _)) (vw_or1 (vt_cmp (o_ne rfl hu) (v_meth0 (methV_of (fun k => ok_depth A B 6 k) A.M_depth A.cl A.b_depth (hr.mono (by decide)) passes_fn) (v_var (i := 0) rfl (Or.inl lk_l_good__law_term))) (v_call rfl (ok_l_depth A B 7) (hr.mono (by decide)) lk_l_good__law_depth A.D_l_depth.m A.D_l_depth.F.kp A.D_l_depth.b passes_fn (va_Name (v_var (i := 1) rfl (Or.inl lk_l_good__law_tree_here)) va_nil)) (nomark _)))))) (vs_one (vs_ret (v_bl))) (vs_nil))
  (vs_cons (vs_newM (i := 2) sc_l_good.nd rfl (Or.inl lk_l_good__law_found) (methV_of (fun k => ok_entries A B 6 k) A.M_entries A.cl A.b_entries (hr.mono (by decide)) passes_fn) (v_var (i := 0) rfl (Or.inl lk_l_good__law_term)))
  (vs_cons (vs_if (vt_pk 2 (PW.pt (vw_or (vt_tru rfl (v_fnB (f_isi rfl) lk_l_good_isinstance B.isinstance bt_isinstance (va_Call (v_meth0 (methV_of (fun k => ok_depth A B 6 k) A.M_depth A.cl A.b_depth (hr.mono (by decide)) passes_fn) (v_var (i := 0) rfl (Or.inl lk_l_good__law_term))) (va_Name (v_ty lk_l_good_bool B.bool bt_bool) va_nil)))) (vw_or (vt_not (vt_tru rfl (v_fnB (f_isi rfl) lk_l_good_isinstance B.isinstance bt_isinstance (va_Name (v_var (i := 2) rfl (Or.inl lk_l_good__law_found)) (va_Name (v_ty lk_l_good_list B.list bt_list) va_nil))))) (vw_or1 (vt_cmp (o_ne rfl hu) (v_var (i := 2) rfl (Or.inl lk_l_good__law_found)) (v_call rfl (ok_l_entries A B 7) (hr.mono (by decide)) lk_l_good__law_entries A.D_l_entries.m A.D_l_entries.F.kp A.D_l_entries.b passes_fn (va_Name (v_var (i := 1) rfl (Or.inl lk_l_good__law_tree_here)) va_nil)) (nomark _))))))) (vs_one (vs_ret (v_bl))) (vs_nil))
  (vs_cons (vs_app (i := 2) rfl rfl (Or.inl lk_l_good__law_found) (v_str))
  (vs_one (vs_ret (v_cmp (o_eq rfl hu) (v_meth0 (methV_of (fun k => ok_entries A B 6 k) A.M_entries A.cl A.b_entries (hr.mono (by decide)) passes_fn) (v_var (i := 0) rfl (Or.inl lk_l_good__law_term))) (v_call rfl (ok_l_entries A B 7) (hr.mono (by decide)) lk_l_good__law_entries A.D_l_entries.m A.D_l_entries.F.kp A.D_l_entries.b passes_fn (va_Name (v_var (i := 1) rfl (Or.inl lk_l_good__law_tree_here)) va_nil)) (nomark _))))))))
end
end Pw
set_option Elab.async false
set_option linter.all false
set_option maxRecDepth 100000
set_option maxHeartbeats 4000000
namespace Pw
open PySem L2
seal PE PT PW PA PS PSs PG PGs PI PIf PO PJ
section
variable {P : Program} {w : World} {K : PySem.W.Frag} {mg : Str -> Option Value} {base : Heap} {f : Addr} {fd : FuncData}
theorem put_dp {b m : Str} : ∀ {t : Trm}, dp (putT b m t) = dp t
  | .num _ => rfl
  | .ent _ _ => rfl
  | .neg t => by show 1 + dp (putT b m t) = 1 + dp t; rw [put_dp]
  | .bin w x y => by show 1 + max (dp (putT b m x)) (dp (putT b m y)) = 1 + max (dp x) (dp y); rw [put_dp, put_dp]
  | .sum d g t => by
    show dp (if b = d then _ else _) = _
    split
    · rfl
    · show 1 + dp (putT b m t) = 1 + dp t; rw [put_dp]
theorem put_ok {b m : Str} (hm : Sn m) : ∀ {t : Trm}, Tok t -> Tok (putT b m t)
  | .num _, h => h
  | .ent x ks, h => ⟨h.1, by show (putK b m ks).length <= 10; unfold putK; rw [List.length_map]; exact h.2.1, fun k hk => by
    obtain ⟨y, hy, rfl⟩ := List.mem_map.mp (show k ∈ ks.map _ from hk)
    split
    · exact hm
    · exact h.2.2 y hy⟩
  | .neg t, h => put_ok (t := t) hm h
  | .bin w x y, h => ⟨put_ok (t := x) hm h.1, put_ok (t := y) hm h.2⟩
  | .sum d g t, h => by
    show Tok (if b = d then _ else _)
    split
    · exact h
    · exact ⟨h.1, h.2.1, put_ok (t := t) hm h.2.2⟩
def C_law (c : Kd -> Addr) : Ct := fun ts P => ∃ ns : List Int, ts = [.scr (ns.map Tv.int)] /\ FewA ns /\ P (.ok (.va (.bl true)))
theorem len_law {c : Kd -> Addr} : ∀ ts Q, C_law c ts Q -> ts.length = 1 := fun ts Q ⟨_, e, _⟩ => by rw [e]; rfl
def b_law_b7 (cc : Kd -> Addr) (n : Nat) : Sv := vIfS (vOr (vNot (vTest truT (vCall (C_l_good cc) [vMeth (DM cc (CP cc 6)) "put" (vVar 9) [vVar 11, vVar 7], vCall (C_l_put 7) [vVar 10, vVar 11, vVar 7]]))) (vNot (vTest truT (vCall (C_l_good cc) [vVar 9, vVar 10])))) (vRet (vC (.bl false))) (vNext)
def b_law_b6s (cc : Kd -> Addr) (n : Nat) : Sv := vSet 11 (vOp wIx (vVar 1) (vUn (wModC 6) (vUn (wDivC 42) (vVar 6))))
def b_law_b6 (cc : Kd -> Addr) (n : Nat) : Sv := vSeq (b_law_b6s cc n) (b_law_b7 cc n)
def b_law_b5s (cc : Kd -> Addr) (n : Nat) : Sv := vIfS (vOr (vNot (vTest truT (vCall (C_l_good cc) [vVar 9, vVar 10]))) (vNot (vTest truT (vCall (C_l_good cc) [vVar 4, vVar 3])))) (vRet (vC (.bl false))) (vNext)
def b_law_b5 (cc : Kd -> Addr) (n : Nat) : Sv := vSeq (b_law_b5s cc n) (b_law_b6 cc n)
def b_law_b4s (cc : Kd -> Addr) (n : Nat) : Sv := vSet 10 (vCall (C_l_put 7) [vVar 3, vVar 7, vVar 8])
def b_law_b4 (cc : Kd -> Addr) (n : Nat) : Sv := vSeq (b_law_b4s cc n) (b_law_b5 cc n)
def b_law_b3s (cc : Kd -> Addr) (n : Nat) : Sv := vSet 9 (vMeth (DM cc (CP cc 6)) "put" (vVar 4) [vVar 7, vVar 8])
def b_law_b3 (cc : Kd -> Addr) (n : Nat) : Sv := vSeq (b_law_b3s cc n) (b_law_b4 cc n)
def b_law_b2s (cc : Kd -> Addr) (n : Nat) : Sv := vSet 8 (vOp wIx (vOp wAdd (vVar 1) (vLst [vC (.str "mon")])) (vUn (wModC 7) (vUn (wDivC 6) (vVar 6))))
def b_law_b2 (cc : Kd -> Addr) (n : Nat) : Sv := vSeq (b_law_b2s cc n) (b_law_b3 cc n)
def b_law_b1s (cc : Kd -> Addr) (n : Nat) : Sv := vSet 7 (vOp wIx (vVar 1) (vUn (wModC 6) (vVar 6)))
def b_law_b1 (cc : Kd -> Addr) (n : Nat) : Sv := vSeq (b_law_b1s cc n) (b_law_b2 cc n)
def b_law_b0s (cc : Kd -> Addr) (n : Nat) : Sv := vSet 6 (vUn (wDivC 7) (vCall C_l_mixed [vCall C_l_at [vVar 0, vOp wAdd (vC (.int 3)) (vVar 5)], vVar 5]))
def b_law_b0 (cc : Kd -> Addr) (n : Nat) : Sv := vSeq (b_law_b0s cc n) (b_law_b1 cc n)
def b_law_6 (cc : Kd -> Addr) (n : Nat) : Sv := vRet (vCall (C_l_good cc) [vVar 4, vVar 3])
def b_law_5s (cc : Kd -> Addr) (n : Nat) : Sv := vFor (vRng (vC (.int 3))) (gV 5) ((b_law_b0 cc n))
def b_law_5 (cc : Kd -> Addr) (n : Nat) : Sv := vSeq (b_law_5s cc n) (b_law_6 cc n)
def b_law_4s (cc : Kd -> Addr) (n : Nat) : Sv := vIfS (vNot (vTest truT (vCall (C_l_good cc) [vVar 4, vVar 3]))) (vRet (vC (.bl false))) (vNext)
def b_law_4 (cc : Kd -> Addr) (n : Nat) : Sv := vSeq (b_law_4s cc n) (b_law_5 cc n)
def b_law_3s (cc : Kd -> Addr) (n : Nat) : Sv := vSet 4 (vCall (C_l_made cc 7) [vVar 3])
def b_law_3 (cc : Kd -> Addr) (n : Nat) : Sv := vSeq (b_law_3s cc n) (b_law_4 cc n)
def b_law_2s (cc : Kd -> Addr) (n : Nat) : Sv := vSet 3 (vCall (C_l_less 7) [vCall (C_l_tree 6) [vVar 2, vOp wAdd (vC (.int 1)) (vUn (wModC 4) (vCall C_l_at [vVar 0, vC (.int 2)])), vC (.int 4), vVar 1], vCall C_l_mixed [vVar 2, vC (.int 2)]])
def b_law_2 (cc : Kd -> Addr) (n : Nat) : Sv := vSeq (b_law_2s cc n) (b_law_3 cc n)
def b_law_1s (cc : Kd -> Addr) (n : Nat) : Sv := vSet 2 (vCall C_l_mixed [vCall C_l_at [vVar 0, vC (.int 1)], vC (.int 1)])
def b_law_1 (cc : Kd -> Addr) (n : Nat) : Sv := vSeq (b_law_1s cc n) (b_law_2 cc n)
def b_law_0s (cc : Kd -> Addr) (n : Nat) : Sv := vSet 1 (vCall C_l_pool [vFn wAbs [vCall C_l_at [vVar 0, vC (.int 0)]]])
def b_law (cc : Kd -> Addr) (n : Nat) : Sv :=
  vSeq (b_law_0s cc n) (b_law_1 cc n)
theorem sc_law : FnScope ["_law_script", "_law_pool_here", "_law_cell", "_law_tree_here", "_law_term", "_law_k", "_law_more", "_law_binder", "_law_member", "_law_fresh", "_law_due", "_law_other"] ["_law_script"] (defScope s_law) := ⟨rfl, rfl, rfl, by decide +kernel, rfl, by decide +kernel, by decide +kernel⟩
theorem lk_law__law_script : Lk s_law "_law_script" .local := by decide +kernel
theorem lk_law__law_pool_here : Lk s_law "_law_pool_here" .local := by decide +kernel
theorem lk_law__law_cell : Lk s_law "_law_cell" .local := by decide +kernel
theorem lk_law__law_tree_here : Lk s_law "_law_tree_here" .local := by decide +kernel
theorem lk_law__law_term : Lk s_law "_law_term" .local := by decide +kernel
theorem lk_law__law_k : Lk s_law "_law_k" .local := by decide +kernel
theorem lk_law__law_more : Lk s_law "_law_more" .local := by decide +kernel
theorem lk_law__law_binder : Lk s_law "_law_binder" .local := by decide +kernel
theorem lk_law__law_member : Lk s_law "_law_member" .local := by decide +kernel
theorem lk_law__law_fresh : Lk s_law "_law_fresh" .local := by decide +kernel
theorem lk_law__law_due : Lk s_law "_law_due" .local := by decide +kernel
theorem lk_law__law_other : Lk s_law "_law_other" .local := by decide +kernel
theorem lk_law__law_at : Lk s_law "_law_at" .globalImplicit := by decide +kernel
theorem lk_law__law_good : Lk s_law "_law_good" .globalImplicit := by decide +kernel
theorem lk_law__law_less : Lk s_law "_law_less" .globalImplicit := by decide +kernel
theorem lk_law__law_made : Lk s_law "_law_made" .globalImplicit := by decide +kernel
theorem lk_law__law_mixed : Lk s_law "_law_mixed" .globalImplicit := by decide +kernel
theorem lk_law__law_pool : Lk s_law "_law_pool" .globalImplicit := by decide +kernel
theorem lk_law__law_put : Lk s_law "_law_put" .globalImplicit := by decide +kernel
theorem lk_law__law_tree : Lk s_law "_law_tree" .globalImplicit := by decide +kernel
theorem lk_law_abs : Lk s_law "abs" .globalImplicit := by decide +kernel
theorem lk_law_range : Lk s_law "range" .globalImplicit := by decide +kernel
theorem nice_law {c : Kd -> Addr} {n : Nat} : ∀ ts Q, C_law c ts Q -> bodyC 12 (b_law c n) ts Q := by
  rintro ts Q ⟨ns, rfl, few, q⟩
  refine ⟨ns, 0, rfl, few, by decide, fun c0 h0 => ⟨_, rfl, fun pool hp => ?_⟩⟩
  refine ⟨ns, 1, rfl, few, by decide, fun c1 h1 => ⟨c1, 1, rfl, h1, ⟨by decide, by decide⟩, fun cell a0 a1 => ?_⟩⟩
  refine ⟨ns, 2, rfl, few, by decide, fun c2 h2 => ?_⟩
  have d0 : 0 <= c2 % 4 := Int.emod_nonneg _ (by decide)
  have d1 : c2 % 4 < 4 := Int.emod_lt_of_pos _ (by decide)
  refine ⟨cell, 1 + c2 % 4, 4, pool, rfl, few_m a0 a1, by omega, by show 1 + c2 % 4 <= ((5 : Nat) : Int); omega, hp, fun t1 hd1 ok1 => ⟨cell, 2, rfl, few_m a0 a1, ⟨by decide, by decide⟩, fun m m0 m1 => ⟨t1, m, rfl, ?_, ok1, few_m m0 m1, fun t hdt ok => ?_⟩⟩⟩
  · show dp t1 <= 7; omega
  have hd : dp t <= 6 := by omega
  have hd7 : dp t <= 7 := by omega
  refine ⟨t, rfl, hd7, t, rfl, hd, ok, ?_⟩
  refine ⟨⟨by decide, by decide⟩, forW_by (fun _ ρ => ∃ s5 s6 s7 s8 s9 s10 s11 : Sl, ρ = [.va (.scr (ns.map Tv.int)), .va (.lst (pool.map Tv.str)), .va (.int cell), .va (tel t), .va (enc c t), s5, s6, s7, s8, s9, s10, s11]) ⟨_, _, _, _, _, _, _, rfl⟩ (fun i x ρ hx ⟨s5, s6, s7, s8, s9, s10, s11, e⟩ Kn hk => ?_) fun ρ ⟨s5, s6, s7, s8, s9, s10, s11, e⟩ => ?_⟩
  · subst e
    obtain ⟨hi, rfl⟩ := rng_get hx
    have hi3 : i < 3 := hi
    refine ⟨_, rfl, ns, _, rfl, few, by omega, fun c3 h3 => ⟨c3, _, rfl, h3, ⟨by omega, by omega⟩, fun m' m0' m1' => ?_⟩⟩
    refine pick hp (Int.emod_nonneg _ (by decide)) (Int.emod_lt_of_pos _ (by decide)) fun b hb => ?_
    have sb : Sn b := sn20 (hp.2 b hb)
    refine ⟨few_line' (by rw [List.length_map, hp.1]; decide), ?_⟩
    have i0 : 0 <= m' / 7 / 6 % 7 := Int.emod_nonneg _ (by decide)
    have i1 : m' / 7 / 6 % 7 < 7 := Int.emod_lt_of_pos _ (by decide)
    have hl7 : ((pool.map Tv.str ++ [Tv.str "mon"]).length : Int) = 7 := by rw [List.length_append, List.length_map, hp.1]; rfl
    refine ix_mem (l := pool.map Tv.str ++ [.str "mon"]) (i := m' / 7 / 6 % 7) i0 (by rw [hl7]; exact i1) fun z hz => ?_
    obtain ⟨mm, rfl, sm⟩ : ∃ mm : Str, z = .str mm /\ Sn mm := by
      rcases List.mem_append.mp hz with h | h
      · obtain ⟨y, hy, rfl⟩ := List.mem_map.mp h
        exact ⟨y, rfl, sn20 (hp.2 y hy)⟩
      · exact ⟨"mon", List.mem_singleton.mp h, Nat.le_of_ble_eq_true rfl⟩
    have hp1 : dp (putT b mm t) <= 6 := by rw [put_dp]; exact hd
    have op1 := put_ok (b := b) sm ok
    refine ⟨no_meth (by decide) _, _, ⟨_, rfl, rfl⟩, t, b, mm, rfl, rfl, hd, ok, t, b, mm, rfl, hd7, ok, putT b mm t, rfl, hp1, op1, t, rfl, hd, ok, ?_⟩
    refine pick hp (Int.emod_nonneg _ (by decide)) (Int.emod_lt_of_pos _ (by decide)) fun o ho => ?_
    have hp2 : dp (putT o b (putT b mm t)) <= 6 := by rw [put_dp]; exact hp1
    exact ⟨no_meth (by decide) _, _, ⟨_, rfl, rfl⟩, putT b mm t, o, b, rfl, rfl, hp1, op1, putT b mm t, o, b, rfl, Nat.le_succ_of_le hp1, op1, putT o b (putT b mm t), rfl, hp2, put_ok sb op1, putT b mm t, rfl, hp1, op1, hk _ ⟨_, _, _, _, _, _, _, rfl⟩⟩
  · subst e
    exact ⟨t, rfl, hd, ok, q⟩
theorem ok_law (A : AllD K mg) (B : Blt mg) : FnOk P w K mg base (CXF P w) 13 A.f_law A.d_law ["_law_script"] (spV K (C_law A.c)) :=
  fn_V A.D_law.F sc_law (b_law A.c A.cT) len_law nice_law fun cdv A_ outer s H E hr => have hu := hr.units
  vs_cons (vs_set (i := 1) sc_law.nd rfl (Or.inl lk_law__law_pool_here) (v_call rfl (ok_l_pool A B) (hr.mono (by decide)) lk_law__law_pool A.D_l_pool.m A.D_l_pool.F.kp A.D_l_pool.b passes_fn (va_Call (v_fnB f_abs lk_law_abs B.abs bt_abs (va_Call (v_call rfl (ok_l_at A B) (hr.mono (by decide)) lk_law__law_at A.D_l_at.m A.D_l_at.F.kp A.D_l_at.b passes_fn (va_Name (v_var (i := 0) rfl (Or.inl lk_law__law_script)) (va_Constant (v_int) va_nil))) va_nil)) va_nil)))
  (vs_cons (vs_set (i := 2) sc_law.nd rfl (Or.inl lk_law__law_cell) (v_call rfl (ok_l_mixed A B) (hr.mono (by decide)) lk_law__law_mixed A.D_l_mixed.m A.D_l_mixed.F.kp A.D_l_mixed.b passes_fn (va_Call (v_call rfl (ok_l_at A B) (hr.mono (by decide)) lk_law__law_at A.D_l_at.m A.D_l_at.F.kp A.D_l_at.b passes_fn (va_Name (v_var (i := 0) rfl (Or.inl lk_law__law_script)) (va_Constant (v_int) va_nil))) (va_Constant (v_int) va_nil))))
  (vs_cons (vs_set (i := 3) sc_law.nd rfl (Or.inl lk_law__law_tree_here) (v_call rfl (ok_l_less A B 7) (hr.mono (by decide)) lk_law__law_less A.D_l_less.m A.D_l_less.F.kp A.D_l_less.b passes_fn (va_Call (v_call rfl (ok_l_tree A B 6) (hr.mono (by decide)) lk_law__law_tree A.D_l_tree.m A.D_l_tree.F.kp A.D_l_tree.b passes_fn (va_Name (v_var (i := 2) rfl (Or.inl lk_law__law_cell)) (va_BinOp (v_op (o_add rfl) (v_int) (v_modC (v_call rfl (ok_l_at A B) (hr.mono (by decide)) lk_law__law_at A.D_l_at.m A.D_l_at.F.kp A.D_l_at.b passes_fn (va_Name (v_var (i := 0) rfl (Or.inl lk_law__law_script)) (va_Constant (v_int) va_nil))))) (va_Constant (v_int) (va_Name (v_var (i := 1) rfl (Or.inl lk_law__law_pool_here)) va_nil))))) (va_Call (v_call rfl (ok_l_mixed A B) (hr.mono (by decide)) lk_law__law_mixed A.D_l_mixed.m A.D_l_mixed.F.kp A.D_l_mixed.b passes_fn (va_Name (v_var (i := 2) rfl (Or.inl lk_law__law_cell)) (va_Constant (v_int) va_nil))) va_nil))))
  (vs_cons (vs_set (i := 4) sc_law.nd rfl (Or.inl lk_law__law_term) (v_call rfl (ok_l_made A B 7) (hr.mono (by decide)) lk_law__law_made A.D_l_made.m A.D_l_made.F.kp A.D_l_made.b passes_fn (va_Name (v_var (i := 3) rfl (Or.inl lk_law__law_tree_here)) va_nil)))
  (vs_cons (vs_if (vt_not (vt_tru rfl (v_call rfl (ok_l_good A B) (hr.mono (by decide)) lk_law__law_good A.D_l_good.m A.D_l_good.F.kp A.D_l_good.b passes_fn (va_Name (v_var (i := 4) rfl (Or.inl lk_law__law_term)) (va_Name (v_var (i := 3) rfl (Or.inl lk_law__law_tree_here)) va_nil))))) (vs_one (vs_ret (v_bl))) (vs_nil))
  (vs_cons (vs_for pown_fn rfl (vi_rng lk_law_range B.range (va_Constant (v_int) va_nil)) (pg_name (i := 5) sc_law.nd rfl (Or.inl lk_law__law_k) (.inl rfl)) (tg_name 5) (vs_cons (vs_set (i := 6) sc_law.nd rfl (Or.inl lk_law__law_more) (v_divC (v_call rfl (ok_l_mixed A B) (hr.mono (by decide)) lk_law__law_mixed A.D_l_mixed.m A.D_l_mixed.F.kp A.D_l_mixed.b passes_fn (va_Call (v_call rfl (ok_l_at A B) (hr.mono (by decide)) lk_law__law_at A.D_l_at.m A.D_l_at.F.kp A.D_l_at.b passes_fn (va_Name (v_var (i := 0) rfl (Or.inl lk_law__law_script)) (va_BinOp (v_op (o_add rfl) (v_int) (v_var (i := 5) rfl (Or.inl lk_law__law_k))) va_nil))) (va_Name (v_var (i := 5) rfl (Or.inl lk_law__law_k)) va_nil)))))
  (vs_cons (vs_set (i := 7) sc_law.nd rfl (Or.inl lk_law__law_binder) (v_ix (o_ix rfl) (v_var (i := 1) rfl (Or.inl lk_law__law_pool_here)) (v_modC (v_var (i := 6) rfl (Or.inl lk_law__law_more))) (fun _ _ => rfl)))
  (vs_cons (vs_set (i := 8) sc_law.nd rfl (Or.inl lk_law__law_member) (v_ix (o_ix rfl) (v_op (o_add rfl) (v_var (i := 1) rfl (Or.inl lk_law__law_pool_here)) (v_lst (hz := Nat.le_of_ble_eq_true rfl) (va_Constant (v_str) va_nil))) (v_modC (v_divC (v_var (i := 6) rfl (Or.inl lk_law__law_more)))) (fun _ _ => rfl)))
  (vs_cons (vs_set (i := 9) sc_law.nd rfl (Or.inl lk_law__law_fresh) (v_meth (methV_of (fun k => ok_put A B 6 k) A.M_put A.cl A.b_put (hr.mono (by decide)) passes_fn) (v_var (i := 4) rfl (Or.inl lk_law__law_term)) (va_Name (v_var (i := 7) rfl (Or.inl lk_law__law_binder)) (va_Name (v_var (i := 8) rfl (Or.inl lk_law__law_member)) va_nil))))
  (vs_cons (vs_set (i := 10) sc_law.nd rfl (Or.inl lk_law__law_due) (v_call rfl (ok_l_put A B 7) (hr.mono (by decide)) lk_law__law_put A.D_l_put.m A.D_l_put.F.kp A.D_l_put.b passes_fn (va_Name (v_var (i := 3) rfl (Or.inl lk_law__law_tree_here)) (va_Name (v_var (i := 7) rfl (Or.inl lk_law__law_binder)) (va_Name (v_var (i := 8) rfl (Or.inl lk_law__law_member)) va_nil)))))
  (vs_cons (vs_if (PW.pt (vw_or (vt_not (vt_tru rfl (v_call rfl (ok_l_good A B) (hr.mono (by decide)) lk_law__law_good A.D_l_good.m A.D_l_good.F.kp A.D_l_good.b passes_fn (va_Name (v_var (i := 9) rfl (Or.inl lk_law__law_fresh)) (va_Name (v_var (i := 10) rfl (Or.inl lk_law__law_due)) va_nil))))) (vw_or1 (vt_not (vt_tru rfl (v_call rfl (ok_l_good A B) (hr.mono (by decide)) lk_law__law_good A.D_l_good.m A.D_l_good.F.kp A.D_l_good.b passes_fn (va_Name (v_var (i := 4) rfl (Or.inl lk_law__law_term)) (va_Name (v_var (i := 3) rfl (Or.inl lk_law__law_tree_here)) va_nil)))))))) (vs_one (vs_ret (v_bl))) (vs_nil))
  (vs_cons (vs_set (i := 11) sc_law.nd rfl (Or.inl lk_law__law_other) (v_ix (o_ix rfl) (v_var (i := 1) rfl (Or.inl lk_law__law_pool_here)) (v_modC (v_divC (v_var (i := 6) rfl (Or.inl lk_law__law_more)))) (fun _ _ => rfl)))
  (vs_one (vs_if (PW.pt (vw_or (vt_not (vt_tru rfl (v_call rfl (ok_l_good A B) (hr.mono (by decide)) lk_law__law_good A.D_l_good.m A.D_l_good.F.kp A.D_l_good.b passes_fn (va_Call (v_meth (methV_of (fun k => ok_put A B 6 k) A.M_put A.cl A.b_put (hr.mono (by decide)) passes_fn) (v_var (i := 9) rfl (Or.inl lk_law__law_fresh)) (va_Name (v_var (i := 11) rfl (Or.inl lk_law__law_other)) (va_Name (v_var (i := 7) rfl (Or.inl lk_law__law_binder)) va_nil))) (va_Call (v_call rfl (ok_l_put A B 7) (hr.mono (by decide)) lk_law__law_put A.D_l_put.m A.D_l_put.F.kp A.D_l_put.b passes_fn (va_Name (v_var (i := 10) rfl (Or.inl lk_law__law_due)) (va_Name (v_var (i := 11) rfl (Or.inl lk_law__law_other)) (va_Name (v_var (i := 7) rfl (Or.inl lk_law__law_binder)) va_nil)))) va_nil))))) (vw_or1 (vt_not (vt_tru rfl (v_call rfl (ok_l_good A B) (hr.mono (by decide)) lk_law__law_good A.D_l_good.m A.D_l_good.F.kp A.D_l_good.b passes_fn (va_Name (v_var (i := 9) rfl (Or.inl lk_law__law_fresh)) (va_Name (v_var (i := 10) rfl (Or.inl lk_law__law_due)) va_nil)))))))) (vs_one (vs_ret (v_bl))) (vs_nil)))))))))))
  (vs_one (vs_ret (v_call rfl (ok_l_good A B) (hr.mono (by decide)) lk_law__law_good A.D_l_good.m A.D_l_good.F.kp A.D_l_good.b passes_fn (va_Name (v_var (i := 4) rfl (Or.inl lk_law__law_term)) (va_Name (v_var (i := 3) rfl (Or.inl lk_law__law_tree_here)) va_nil))))))))))
end
end Pw
set_option Elab.async false
set_option linter.all false
set_option maxRecDepth 100000
set_option maxHeartbeats 4000000
namespace Pw
open PySem L2
def spLaw (K : PySem.W.Frag) : Sp := fun vs H Q _ => ∃ (a : Addr) (ns : List Int), vs = [.ref a] /\ SqL K H a (ns.map V.int) /\ ns.length <= 63 /\ (∀ i ∈ ns, Few i) /\ ∀ H', Q (.bl true) H'
theorem uni1 {H : Hp} : Uni H (three H noH noH) := ⟨fun b o => ⟨fun h => ⟨0, h⟩, fun ⟨i, h⟩ => by
  match i, h with
  | 0, h => exact h
  | 1, h => cases h
  | 2, h => cases h
  | _ + 3, h => cases h⟩, fun i j b n => by
  match i, j, n with
  | 0, 0, n => exact absurd rfl n
  | 0, 1, _ => exact .inr rfl
  | 0, 2, _ => exact .inr rfl
  | 0, _ + 3, _ => exact .inr rfl
  | 1, _, _ => exact .inl rfl
  | 2, _, _ => exact .inl rfl
  | _ + 3, _, _ => exact .inl rfl⟩
theorem to_law {cc : Kd -> Addr} {P : Program} {w : World} {K : PySem.W.Frag} {mg : Str -> Option Value} {base : Heap} {k : Nat} {f : Addr} {fd : FuncData} (F : FnOk P w K mg base (CXF P w) k f fd ["_law_script"] (spV K (C_law cc))) : FnOk P w K mg base CX0 k f fd ["_law_script"] (spLaw K) :=
  F.to0.imp fun vs H Q E ⟨a, ns, e, hS, hl, few, q⟩ => by
    subst e
    refine ⟨three H noH noH, [.scr (ns.map Tv.int)], fun r => r = .ok (.va (.bl true)), uni1, three_ge2, .cons (rep_scr.mpr ⟨a, _, rfl, hS, RepL.ints⟩) .nil, ⟨ns, rfl, few, rfl⟩, fun r hr v p' H' _ _ _ hs => ?_, fun c hc => ?_⟩
    · cases hr
      obtain ⟨_, t, e, hr⟩ := hs
      cases e
      rw [rep_bl.mp hr]
      exact q H'
    · cases hc
theorem kd_all {Q : Kd -> Prop} (a : Q .num) (b : Q .ent) (c : Q .neg) (d : Q (.bin 0)) (e : Q (.bin 1)) (f : Q (.bin 2)) (g : Q .sum) : ∀ k, Q k
  | .num => a
  | .ent => b
  | .neg => c
  | .bin 0 => d
  | .bin 1 => e
  | .bin 2 => f
  | .sum => g
def cK : Kd -> Addr
  | .num => 189
  | .ent => 241
  | .neg => 295
  | .bin 0 => 368
  | .bin 1 => 401
  | .bin 2 => 434
  | .sum => 488
def fK_parts : Kd -> Addr
  | .num => 97
  | .ent => 97
  | .neg => 264
  | .bin 0 => 318
  | .bin 1 => 318
  | .bin 2 => 318
  | .sum => 457
def dK_parts : Kd -> FuncData
  | .num => fQF "parts" "Term.parts" (sub 12 0) .none "planwell.terms" 278 96
  | .ent => fQF "parts" "Term.parts" (sub 12 0) .none "planwell.terms" 278 96
  | .neg => fQF "parts" "Negative.parts" (sub 15 1) .none "planwell.terms" 278 263
  | .bin 0 => fQF "parts" "Joined.parts" (sub 16 1) .none "planwell.terms" 278 317
  | .bin 1 => fQF "parts" "Joined.parts" (sub 16 1) .none "planwell.terms" 278 317
  | .bin 2 => fQF "parts" "Joined.parts" (sub 16 1) .none "planwell.terms" 278 317
  | .sum => fQF "parts" "Sum.parts" (sub 20 1) .none "planwell.terms" 278 456
def fK_told : Kd -> Addr
  | .num => 165
  | .ent => 212
  | .neg => 271
  | .bin 0 => 325
  | .bin 1 => 325
  | .bin 2 => 325
  | .sum => 464
def dK_told : Kd -> FuncData
  | .num => fQF "told" "Number.told" (sub 13 1) .none "planwell.terms" 278 164
  | .ent => fQF "told" "Entry.told" (sub 14 1) .none "planwell.terms" 278 211
  | .neg => fQF "told" "Negative.told" (sub 15 2) .none "planwell.terms" 278 270
  | .bin 0 => fQF "told" "Joined.told" (sub 16 2) .none "planwell.terms" 278 324
  | .bin 1 => fQF "told" "Joined.told" (sub 16 2) .none "planwell.terms" 278 324
  | .bin 2 => fQF "told" "Joined.told" (sub 16 2) .none "planwell.terms" 278 324
  | .sum => fQF "told" "Sum.told" (sub 20 2) .none "planwell.terms" 278 463
def fK_shown : Kd -> Addr
  | .num => 172
  | .ent => 219
  | .neg => 278
  | .bin 0 => 332
  | .bin 1 => 332
  | .bin 2 => 332
  | .sum => 471
def dK_shown : Kd -> FuncData
  | .num => fQF "shown" "Number.shown" (sub 13 2) .none "planwell.terms" 278 171
  | .ent => fQF "shown" "Entry.shown" (sub 14 2) .none "planwell.terms" 278 218
  | .neg => fQF "shown" "Negative.shown" (sub 15 3) .none "planwell.terms" 278 277
  | .bin 0 => fQF "shown" "Joined.shown" (sub 16 3) .none "planwell.terms" 278 331
  | .bin 1 => fQF "shown" "Joined.shown" (sub 16 3) .none "planwell.terms" 278 331
  | .bin 2 => fQF "shown" "Joined.shown" (sub 16 3) .none "planwell.terms" 278 331
  | .sum => fQF "shown" "Sum.shown" (sub 20 3) .none "planwell.terms" 278 470
def fK_put : Kd -> Addr
  | .num => 179
  | .ent => 224
  | .neg => 285
  | .bin 0 => 358
  | .bin 1 => 391
  | .bin 2 => 424
  | .sum => 478
def dK_put : Kd -> FuncData
  | .num => fQF "put" "Number.put" (sub 13 3) .none "planwell.terms" 278 178
  | .ent => fQF "put" "Entry.put" (sub 14 3) .none "planwell.terms" 278 223
  | .neg => fQF "put" "Negative.put" (sub 15 4) .none "planwell.terms" 278 284
  | .bin 0 => fQF "put" "Plus.put" (sub 17 1) .none "planwell.terms" 278 357
  | .bin 1 => fQF "put" "Minus.put" (sub 18 1) .none "planwell.terms" 278 390
  | .bin 2 => fQF "put" "Times.put" (sub 19 1) .none "planwell.terms" 278 423
  | .sum => fQF "put" "Sum.put" (sub 20 4) .none "planwell.terms" 278 477
def fK_entries : Kd -> Addr
  | .num => 132
  | .ent => 238
  | .neg => 132
  | .bin 0 => 132
  | .bin 1 => 132
  | .bin 2 => 132
  | .sum => 132
def dK_entries : Kd -> FuncData
  | .num => fQF "entries" "Term.entries" (sub 12 5) .none "planwell.terms" 278 131
  | .ent => fQF "entries" "Entry.entries" (sub 14 5) .none "planwell.terms" 278 237
  | .neg => fQF "entries" "Term.entries" (sub 12 5) .none "planwell.terms" 278 131
  | .bin 0 => fQF "entries" "Term.entries" (sub 12 5) .none "planwell.terms" 278 131
  | .bin 1 => fQF "entries" "Term.entries" (sub 12 5) .none "planwell.terms" 278 131
  | .bin 2 => fQF "entries" "Term.entries" (sub 12 5) .none "planwell.terms" 278 131
  | .sum => fQF "entries" "Term.entries" (sub 12 5) .none "planwell.terms" 278 131
def fK_depth : Kd -> Addr
  | .num => 137
  | .ent => 137
  | .neg => 137
  | .bin 0 => 137
  | .bin 1 => 137
  | .bin 2 => 137
  | .sum => 137
def dK_depth : Kd -> FuncData
  | .num => fQF "depth" "Term.depth" (sub 12 6) .none "planwell.terms" 278 136
  | .ent => fQF "depth" "Term.depth" (sub 12 6) .none "planwell.terms" 278 136
  | .neg => fQF "depth" "Term.depth" (sub 12 6) .none "planwell.terms" 278 136
  | .bin 0 => fQF "depth" "Term.depth" (sub 12 6) .none "planwell.terms" 278 136
  | .bin 1 => fQF "depth" "Term.depth" (sub 12 6) .none "planwell.terms" 278 136
  | .bin 2 => fQF "depth" "Term.depth" (sub 12 6) .none "planwell.terms" 278 136
  | .sum => fQF "depth" "Term.depth" (sub 12 6) .none "planwell.terms" 278 136
def fK_i : Kd -> Addr
  | .num => 158
  | .ent => 205
  | .neg => 257
  | .bin 0 => 351
  | .bin 1 => 384
  | .bin 2 => 417
  | .sum => 450
def dK_i : Kd -> FuncData
  | .num => fQF "__init__" "Number.__init__" (sub 13 0) .none "planwell.terms" 278 157
  | .ent => fQF "__init__" "Entry.__init__" (sub 14 0) .none "planwell.terms" 278 204
  | .neg => fQF "__init__" "Negative.__init__" (sub 15 0) .none "planwell.terms" 278 256
  | .bin 0 => fQF "__init__" "Plus.__init__" (sub 17 0) .none "planwell.terms" 278 350
  | .bin 1 => fQF "__init__" "Minus.__init__" (sub 18 0) .none "planwell.terms" 278 383
  | .bin 2 => fQF "__init__" "Times.__init__" (sub 19 0) .none "planwell.terms" 278 416
  | .sum => fQF "__init__" "Sum.__init__" (sub 20 0) .none "planwell.terms" 278 449
theorem by1 {Q : List Value -> Prop} (h : ∀ a, Q [a]) : ∀ us : List Value, us.length = 1 -> Q us | [a], _ => h a
theorem by2 {Q : List Value -> Prop} (h : ∀ a b, Q [a, b]) : ∀ us : List Value, us.length = 2 -> Q us | [a, b], _ => h a b
theorem by3 {Q : List Value -> Prop} (h : ∀ a b c, Q [a, b, c]) : ∀ us : List Value, us.length = 3 -> Q us | [a, b, c], _ => h a b c
theorem by4 {Q : List Value -> Prop} (h : ∀ a b c d, Q [a, b, c, d]) : ∀ us : List Value, us.length = 4 -> Q us | [a, b, c, d], _ => h a b c d
theorem by5 {Q : List Value -> Prop} (h : ∀ a b c d e, Q [a, b, c, d, e]) : ∀ us : List Value, us.length = 5 -> Q us | [a, b, c, d, e], _ => h a b c d e
theorem by0 {Q : List Value -> Prop} (h : Q []) : ∀ us : List Value, us.length = 0 -> Q us | [], _ => h
section
variable {P : Params} {h : Heap} {mg : Str -> Option Value}
theorem dat (X : (KP P).In h) (G : h.Ns mainGlobals mg) (n : Str) (s : Stmt) (f : Addr) {fd : FuncData} (ps : List Str) (F : Fun (KP P) n n s f fd)
    (a : PySem.W.nsIn (KP P) mainGlobals n = some (some (.ref f))) (b : ∀ us : List Value, us.length = ps.length -> bindArgs fd ⟨us, []⟩ = pure (ps.zip us)) : DefAt (KP P) mg n s f fd ps := ⟨F, .all b, PySem.W.mg_of X G a⟩
theorem mkF' {x qual : Str} {st : Stmt} {f : Addr} {oc : Value} {od an : Option Addr} {osl : Array (Option Value)} {kV doc pm cdv ct : Value} {fd : FuncData} (e : fd = PySem.W.fnOf x qual (defArgs st) (defBody st) (defScope st) .none kV doc pm an cdv ct) (l : (KP P).lookup f = some ⟨oc, od, .func fd, osl⟩)
    (c : PySem.W.codeIn (KP P) cdv qual = true) : Fun (KP P) x qual st f fd := ⟨⟨oc, od, kV, doc, pm, an, cdv, ct, osl, e, l, c⟩, by unfold PySem.W.keepIn; dsimp only; rw [l]⟩
theorem na_of {C : Addr} (h : flds.map (fun f => PySem.W.findIn (KP P) (.ref C) f) = flds.map fun _ => some none) : ∀ f, f ∈ flds -> NoAttr (KP P) C f := fun f hf => by
  have : ∀ l : List Str, l.map (fun f => PySem.W.findIn (KP P) (.ref C) f) = l.map (fun _ => some none) -> ∀ f ∈ l, PySem.W.findIn (KP P) (.ref C) f = some none := by
    intro l
    induction l with
    | nil => intro _ f hf; cases hf
    | cons x l ih =>
      intro e f hf
      rw [List.map_cons, List.map_cons] at e
      obtain ⟨e1, e2⟩ := List.cons.inj e
      rcases List.mem_cons.mp hf with z | z
      · subst z; exact e1
      · exact ih e2 f z
  exact this flds h f hf
theorem k_cl : ∀ k, Cls (KP P) (cK k) := kd_all (⟨(by kernel_rfl), (by kernel_rfl), (by kernel_rfl), (by kernel_rfl)⟩) (⟨(by kernel_rfl), (by kernel_rfl), (by kernel_rfl), (by kernel_rfl)⟩) (⟨(by kernel_rfl), (by kernel_rfl), (by kernel_rfl), (by kernel_rfl)⟩) (⟨(by kernel_rfl), (by kernel_rfl), (by kernel_rfl), (by kernel_rfl)⟩) (⟨(by kernel_rfl), (by kernel_rfl), (by kernel_rfl), (by kernel_rfl)⟩) (⟨(by kernel_rfl), (by kernel_rfl), (by kernel_rfl), (by kernel_rfl)⟩) (⟨(by kernel_rfl), (by kernel_rfl), (by kernel_rfl), (by kernel_rfl)⟩)
theorem k_na : ∀ k f, f ∈ flds -> NoAttr (KP P) (cK k) f := kd_all (na_of (by kernel_rfl)) (na_of (by kernel_rfl)) (na_of (by kernel_rfl)) (na_of (by kernel_rfl)) (na_of (by kernel_rfl)) (na_of (by kernel_rfl)) (na_of (by kernel_rfl))
theorem k_isi : ∀ k, IsiC (KP P) (cK k) /\ PySem.W.kitOne (KP P) (.ref (cK k)) (.ref 140) = some true := kd_all (⟨⟨k_cl _, (by kernel_rfl), (by kernel_rfl), (by kernel_rfl), (by kernel_rfl)⟩, (by kernel_rfl)⟩) (⟨⟨k_cl _, (by kernel_rfl), (by kernel_rfl), (by kernel_rfl), (by kernel_rfl)⟩, (by kernel_rfl)⟩) (⟨⟨k_cl _, (by kernel_rfl), (by kernel_rfl), (by kernel_rfl), (by kernel_rfl)⟩, (by kernel_rfl)⟩) (⟨⟨k_cl _, (by kernel_rfl), (by kernel_rfl), (by kernel_rfl), (by kernel_rfl)⟩, (by kernel_rfl)⟩) (⟨⟨k_cl _, (by kernel_rfl), (by kernel_rfl), (by kernel_rfl), (by kernel_rfl)⟩, (by kernel_rfl)⟩) (⟨⟨k_cl _, (by kernel_rfl), (by kernel_rfl), (by kernel_rfl), (by kernel_rfl)⟩, (by kernel_rfl)⟩) (⟨⟨k_cl _, (by kernel_rfl), (by kernel_rfl), (by kernel_rfl), (by kernel_rfl)⟩, (by kernel_rfl)⟩)
theorem k_M_parts : ∀ k, Meth (KP P) (cK k) "parts" (fK_parts k) := kd_all (⟨(by kernel_rfl), (by kernel_rfl), (by kernel_rfl)⟩) (⟨(by kernel_rfl), (by kernel_rfl), (by kernel_rfl)⟩) (⟨(by kernel_rfl), (by kernel_rfl), (by kernel_rfl)⟩) (⟨(by kernel_rfl), (by kernel_rfl), (by kernel_rfl)⟩) (⟨(by kernel_rfl), (by kernel_rfl), (by kernel_rfl)⟩) (⟨(by kernel_rfl), (by kernel_rfl), (by kernel_rfl)⟩) (⟨(by kernel_rfl), (by kernel_rfl), (by kernel_rfl)⟩)
theorem k_F_parts : ∀ k, Fun (KP P) "parts" (q_parts k) (t_parts k) (fK_parts k) (dK_parts k) := kd_all ((mkF' (cdv := .ref 96) (oc := .type "function") (od := none) (osl := #[]) (kV := .none) (doc := .none) (pm := .str (.ofString "planwell.terms") 278) (an := none) (ct := .none) (fd := fQF "parts" "Term.parts" (sub 12 0) .none "planwell.terms" 278 96) (by kernel_rfl) (by kernel_rfl) (by kernel_rfl))) ((mkF' (cdv := .ref 96) (oc := .type "function") (od := none) (osl := #[]) (kV := .none) (doc := .none) (pm := .str (.ofString "planwell.terms") 278) (an := none) (ct := .none) (fd := fQF "parts" "Term.parts" (sub 12 0) .none "planwell.terms" 278 96) (by kernel_rfl) (by kernel_rfl) (by kernel_rfl))) ((mkF' (cdv := .ref 263) (oc := .type "function") (od := none) (osl := #[]) (kV := .none) (doc := .none) (pm := .str (.ofString "planwell.terms") 278) (an := none) (ct := .none) (fd := fQF "parts" "Negative.parts" (sub 15 1) .none "planwell.terms" 278 263) (by kernel_rfl) (by kernel_rfl) (by kernel_rfl))) ((mkF' (cdv := .ref 317) (oc := .type "function") (od := none) (osl := #[]) (kV := .none) (doc := .none) (pm := .str (.ofString "planwell.terms") 278) (an := none) (ct := .none) (fd := fQF "parts" "Joined.parts" (sub 16 1) .none "planwell.terms" 278 317) (by kernel_rfl) (by kernel_rfl) (by kernel_rfl))) ((mkF' (cdv := .ref 317) (oc := .type "function") (od := none) (osl := #[]) (kV := .none) (doc := .none) (pm := .str (.ofString "planwell.terms") 278) (an := none) (ct := .none) (fd := fQF "parts" "Joined.parts" (sub 16 1) .none "planwell.terms" 278 317) (by kernel_rfl) (by kernel_rfl) (by kernel_rfl))) ((mkF' (cdv := .ref 317) (oc := .type "function") (od := none) (osl := #[]) (kV := .none) (doc := .none) (pm := .str (.ofString "planwell.terms") 278) (an := none) (ct := .none) (fd := fQF "parts" "Joined.parts" (sub 16 1) .none "planwell.terms" 278 317) (by kernel_rfl) (by kernel_rfl) (by kernel_rfl))) ((mkF' (cdv := .ref 456) (oc := .type "function") (od := none) (osl := #[]) (kV := .none) (doc := .none) (pm := .str (.ofString "planwell.terms") 278) (an := none) (ct := .none) (fd := fQF "parts" "Sum.parts" (sub 20 1) .none "planwell.terms" 278 456) (by kernel_rfl) (by kernel_rfl) (by kernel_rfl)))
theorem k_b_parts : ∀ k, Binds (KP P) (dK_parts k) ["self"] [] := kd_all (.all (by1 fun _ => rfl)) (.all (by1 fun _ => rfl)) (.all (by1 fun _ => rfl)) (.all (by1 fun _ => rfl)) (.all (by1 fun _ => rfl)) (.all (by1 fun _ => rfl)) (.all (by1 fun _ => rfl))
theorem k_M_told : ∀ k, Meth (KP P) (cK k) "told" (fK_told k) := kd_all (⟨(by kernel_rfl), (by kernel_rfl), (by kernel_rfl)⟩) (⟨(by kernel_rfl), (by kernel_rfl), (by kernel_rfl)⟩) (⟨(by kernel_rfl), (by kernel_rfl), (by kernel_rfl)⟩) (⟨(by kernel_rfl), (by kernel_rfl), (by kernel_rfl)⟩) (⟨(by kernel_rfl), (by kernel_rfl), (by kernel_rfl)⟩) (⟨(by kernel_rfl), (by kernel_rfl), (by kernel_rfl)⟩) (⟨(by kernel_rfl), (by kernel_rfl), (by kernel_rfl)⟩)
theorem k_F_told : ∀ k, Fun (KP P) "told" (q_told k) (t_told k) (fK_told k) (dK_told k) := kd_all ((mkF' (cdv := .ref 164) (oc := .type "function") (od := none) (osl := #[]) (kV := .none) (doc := .none) (pm := .str (.ofString "planwell.terms") 278) (an := none) (ct := .none) (fd := fQF "told" "Number.told" (sub 13 1) .none "planwell.terms" 278 164) (by kernel_rfl) (by kernel_rfl) (by kernel_rfl))) ((mkF' (cdv := .ref 211) (oc := .type "function") (od := none) (osl := #[]) (kV := .none) (doc := .none) (pm := .str (.ofString "planwell.terms") 278) (an := none) (ct := .none) (fd := fQF "told" "Entry.told" (sub 14 1) .none "planwell.terms" 278 211) (by kernel_rfl) (by kernel_rfl) (by kernel_rfl))) ((mkF' (cdv := .ref 270) (oc := .type "function") (od := none) (osl := #[]) (kV := .none) (doc := .none) (pm := .str (.ofString "planwell.terms") 278) (an := none) (ct := .none) (fd := fQF "told" "Negative.told" (sub 15 2) .none "planwell.terms" 278 270) (by kernel_rfl) (by kernel_rfl) (by kernel_rfl))) ((mkF' (cdv := .ref 324) (oc := .type "function") (od := none) (osl := #[]) (kV := .none) (doc := .none) (pm := .str (.ofString "planwell.terms") 278) (an := none) (ct := .none) (fd := fQF "told" "Joined.told" (sub 16 2) .none "planwell.terms" 278 324) (by kernel_rfl) (by kernel_rfl) (by kernel_rfl))) ((mkF' (cdv := .ref 324) (oc := .type "function") (od := none) (osl := #[]) (kV := .none) (doc := .none) (pm := .str (.ofString "planwell.terms") 278) (an := none) (ct := .none) (fd := fQF "told" "Joined.told" (sub 16 2) .none "planwell.terms" 278 324) (by kernel_rfl) (by kernel_rfl) (by kernel_rfl))) ((mkF' (cdv := .ref 324) (oc := .type "function") (od := none) (osl := #[]) (kV := .none) (doc := .none) (pm := .str (.ofString "planwell.terms") 278) (an := none) (ct := .none) (fd := fQF "told" "Joined.told" (sub 16 2) .none "planwell.terms" 278 324) (by kernel_rfl) (by kernel_rfl) (by kernel_rfl))) ((mkF' (cdv := .ref 463) (oc := .type "function") (od := none) (osl := #[]) (kV := .none) (doc := .none) (pm := .str (.ofString "planwell.terms") 278) (an := none) (ct := .none) (fd := fQF "told" "Sum.told" (sub 20 2) .none "planwell.terms" 278 463) (by kernel_rfl) (by kernel_rfl) (by kernel_rfl)))
theorem k_b_told : ∀ k, Binds (KP P) (dK_told k) ["self"] [] := kd_all (.all (by1 fun _ => rfl)) (.all (by1 fun _ => rfl)) (.all (by1 fun _ => rfl)) (.all (by1 fun _ => rfl)) (.all (by1 fun _ => rfl)) (.all (by1 fun _ => rfl)) (.all (by1 fun _ => rfl))
theorem k_M_shown : ∀ k, Meth (KP P) (cK k) "shown" (fK_shown k) := kd_all (⟨(by kernel_rfl), (by kernel_rfl), (by kernel_rfl)⟩) (⟨(by kernel_rfl), (by kernel_rfl), (by kernel_rfl)⟩) (⟨(by kernel_rfl), (by kernel_rfl), (by kernel_rfl)⟩) (⟨(by kernel_rfl), (by kernel_rfl), (by kernel_rfl)⟩) (⟨(by kernel_rfl), (by kernel_rfl), (by kernel_rfl)⟩) (⟨(by kernel_rfl), (by kernel_rfl), (by kernel_rfl)⟩) (⟨(by kernel_rfl), (by kernel_rfl), (by kernel_rfl)⟩)
theorem k_F_shown : ∀ k, Fun (KP P) "shown" (q_shown k) (t_shown k) (fK_shown k) (dK_shown k) := kd_all ((mkF' (cdv := .ref 171) (oc := .type "function") (od := none) (osl := #[]) (kV := .none) (doc := .none) (pm := .str (.ofString "planwell.terms") 278) (an := none) (ct := .none) (fd := fQF "shown" "Number.shown" (sub 13 2) .none "planwell.terms" 278 171) (by kernel_rfl) (by kernel_rfl) (by kernel_rfl))) ((mkF' (cdv := .ref 218) (oc := .type "function") (od := none) (osl := #[]) (kV := .none) (doc := .none) (pm := .str (.ofString "planwell.terms") 278) (an := none) (ct := .none) (fd := fQF "shown" "Entry.shown" (sub 14 2) .none "planwell.terms" 278 218) (by kernel_rfl) (by kernel_rfl) (by kernel_rfl))) ((mkF' (cdv := .ref 277) (oc := .type "function") (od := none) (osl := #[]) (kV := .none) (doc := .none) (pm := .str (.ofString "planwell.terms") 278) (an := none) (ct := .none) (fd := fQF "shown" "Negative.shown" (sub 15 3) .none "planwell.terms" 278 277) (by kernel_rfl) (by kernel_rfl) (by kernel_rfl))) ((mkF' (cdv := .ref 331) (oc := .type "function") (od := none) (osl := #[]) (kV := .none) (doc := .none) (pm := .str (.ofString "planwell.terms") 278) (an := none) (ct := .none) (fd := fQF "shown" "Joined.shown" (sub 16 3) .none "planwell.terms" 278 331) (by kernel_rfl) (by kernel_rfl) (by kernel_rfl))) ((mkF' (cdv := .ref 331) (oc := .type "function") (od := none) (osl := #[]) (kV := .none) (doc := .none) (pm := .str (.ofString "planwell.terms") 278) (an := none) (ct := .none) (fd := fQF "shown" "Joined.shown" (sub 16 3) .none "planwell.terms" 278 331) (by kernel_rfl) (by kernel_rfl) (by kernel_rfl))) ((mkF' (cdv := .ref 331) (oc := .type "function") (od := none) (osl := #[]) (kV := .none) (doc := .none) (pm := .str (.ofString "planwell.terms") 278) (an := none) (ct := .none) (fd := fQF "shown" "Joined.shown" (sub 16 3) .none "planwell.terms" 278 331) (by kernel_rfl) (by kernel_rfl) (by kernel_rfl))) ((mkF' (cdv := .ref 470) (oc := .type "function") (od := none) (osl := #[]) (kV := .none) (doc := .none) (pm := .str (.ofString "planwell.terms") 278) (an := none) (ct := .none) (fd := fQF "shown" "Sum.shown" (sub 20 3) .none "planwell.terms" 278 470) (by kernel_rfl) (by kernel_rfl) (by kernel_rfl)))
theorem k_b_shown : ∀ k, Binds (KP P) (dK_shown k) ["self"] [] := kd_all (.all (by1 fun _ => rfl)) (.all (by1 fun _ => rfl)) (.all (by1 fun _ => rfl)) (.all (by1 fun _ => rfl)) (.all (by1 fun _ => rfl)) (.all (by1 fun _ => rfl)) (.all (by1 fun _ => rfl))
theorem k_M_put : ∀ k, Meth (KP P) (cK k) "put" (fK_put k) := kd_all (⟨(by kernel_rfl), (by kernel_rfl), (by kernel_rfl)⟩) (⟨(by kernel_rfl), (by kernel_rfl), (by kernel_rfl)⟩) (⟨(by kernel_rfl), (by kernel_rfl), (by kernel_rfl)⟩) (⟨(by kernel_rfl), (by kernel_rfl), (by kernel_rfl)⟩) (⟨(by kernel_rfl), (by kernel_rfl), (by kernel_rfl)⟩) (⟨(by kernel_rfl), (by kernel_rfl), (by kernel_rfl)⟩) (⟨(by kernel_rfl), (by kernel_rfl), (by kernel_rfl)⟩)
theorem k_F_put : ∀ k, Fun (KP P) "put" (q_put k) (t_put k) (fK_put k) (dK_put k) := kd_all ((mkF' (cdv := .ref 178) (oc := .type "function") (od := none) (osl := #[]) (kV := .none) (doc := .none) (pm := .str (.ofString "planwell.terms") 278) (an := none) (ct := .none) (fd := fQF "put" "Number.put" (sub 13 3) .none "planwell.terms" 278 178) (by kernel_rfl) (by kernel_rfl) (by kernel_rfl))) ((mkF' (cdv := .ref 223) (oc := .type "function") (od := none) (osl := #[]) (kV := .none) (doc := .none) (pm := .str (.ofString "planwell.terms") 278) (an := none) (ct := .none) (fd := fQF "put" "Entry.put" (sub 14 3) .none "planwell.terms" 278 223) (by kernel_rfl) (by kernel_rfl) (by kernel_rfl))) ((mkF' (cdv := .ref 284) (oc := .type "function") (od := none) (osl := #[]) (kV := .none) (doc := .none) (pm := .str (.ofString "planwell.terms") 278) (an := none) (ct := .none) (fd := fQF "put" "Negative.put" (sub 15 4) .none "planwell.terms" 278 284) (by kernel_rfl) (by kernel_rfl) (by kernel_rfl))) ((mkF' (cdv := .ref 357) (oc := .type "function") (od := none) (osl := #[]) (kV := .none) (doc := .none) (pm := .str (.ofString "planwell.terms") 278) (an := none) (ct := .none) (fd := fQF "put" "Plus.put" (sub 17 1) .none "planwell.terms" 278 357) (by kernel_rfl) (by kernel_rfl) (by kernel_rfl))) ((mkF' (cdv := .ref 390) (oc := .type "function") (od := none) (osl := #[]) (kV := .none) (doc := .none) (pm := .str (.ofString "planwell.terms") 278) (an := none) (ct := .none) (fd := fQF "put" "Minus.put" (sub 18 1) .none "planwell.terms" 278 390) (by kernel_rfl) (by kernel_rfl) (by kernel_rfl))) ((mkF' (cdv := .ref 423) (oc := .type "function") (od := none) (osl := #[]) (kV := .none) (doc := .none) (pm := .str (.ofString "planwell.terms") 278) (an := none) (ct := .none) (fd := fQF "put" "Times.put" (sub 19 1) .none "planwell.terms" 278 423) (by kernel_rfl) (by kernel_rfl) (by kernel_rfl))) ((mkF' (cdv := .ref 477) (oc := .type "function") (od := none) (osl := #[]) (kV := .none) (doc := .none) (pm := .str (.ofString "planwell.terms") 278) (an := none) (ct := .none) (fd := fQF "put" "Sum.put" (sub 20 4) .none "planwell.terms" 278 477) (by kernel_rfl) (by kernel_rfl) (by kernel_rfl)))
theorem k_b_put : ∀ k, Binds (KP P) (dK_put k) ["self", "binder", "member"] [] := kd_all (.all (by3 fun _ _ _ => rfl)) (.all (by3 fun _ _ _ => rfl)) (.all (by3 fun _ _ _ => rfl)) (.all (by3 fun _ _ _ => rfl)) (.all (by3 fun _ _ _ => rfl)) (.all (by3 fun _ _ _ => rfl)) (.all (by3 fun _ _ _ => rfl))
theorem k_M_entries : ∀ k, Meth (KP P) (cK k) "entries" (fK_entries k) := kd_all (⟨(by kernel_rfl), (by kernel_rfl), (by kernel_rfl)⟩) (⟨(by kernel_rfl), (by kernel_rfl), (by kernel_rfl)⟩) (⟨(by kernel_rfl), (by kernel_rfl), (by kernel_rfl)⟩) (⟨(by kernel_rfl), (by kernel_rfl), (by kernel_rfl)⟩) (⟨(by kernel_rfl), (by kernel_rfl), (by kernel_rfl)⟩) (⟨(by kernel_rfl), (by kernel_rfl), (by kernel_rfl)⟩) (⟨(by kernel_rfl), (by kernel_rfl), (by kernel_rfl)⟩)
theorem k_F_entries : ∀ k, Fun (KP P) "entries" (q_entries k) (t_entries k) (fK_entries k) (dK_entries k) := kd_all ((mkF' (cdv := .ref 131) (oc := .type "function") (od := none) (osl := #[]) (kV := .none) (doc := .none) (pm := .str (.ofString "planwell.terms") 278) (an := none) (ct := .none) (fd := fQF "entries" "Term.entries" (sub 12 5) .none "planwell.terms" 278 131) (by kernel_rfl) (by kernel_rfl) (by kernel_rfl))) ((mkF' (cdv := .ref 237) (oc := .type "function") (od := none) (osl := #[]) (kV := .none) (doc := .none) (pm := .str (.ofString "planwell.terms") 278) (an := none) (ct := .none) (fd := fQF "entries" "Entry.entries" (sub 14 5) .none "planwell.terms" 278 237) (by kernel_rfl) (by kernel_rfl) (by kernel_rfl))) ((mkF' (cdv := .ref 131) (oc := .type "function") (od := none) (osl := #[]) (kV := .none) (doc := .none) (pm := .str (.ofString "planwell.terms") 278) (an := none) (ct := .none) (fd := fQF "entries" "Term.entries" (sub 12 5) .none "planwell.terms" 278 131) (by kernel_rfl) (by kernel_rfl) (by kernel_rfl))) ((mkF' (cdv := .ref 131) (oc := .type "function") (od := none) (osl := #[]) (kV := .none) (doc := .none) (pm := .str (.ofString "planwell.terms") 278) (an := none) (ct := .none) (fd := fQF "entries" "Term.entries" (sub 12 5) .none "planwell.terms" 278 131) (by kernel_rfl) (by kernel_rfl) (by kernel_rfl))) ((mkF' (cdv := .ref 131) (oc := .type "function") (od := none) (osl := #[]) (kV := .none) (doc := .none) (pm := .str (.ofString "planwell.terms") 278) (an := none) (ct := .none) (fd := fQF "entries" "Term.entries" (sub 12 5) .none "planwell.terms" 278 131) (by kernel_rfl) (by kernel_rfl) (by kernel_rfl))) ((mkF' (cdv := .ref 131) (oc := .type "function") (od := none) (osl := #[]) (kV := .none) (doc := .none) (pm := .str (.ofString "planwell.terms") 278) (an := none) (ct := .none) (fd := fQF "entries" "Term.entries" (sub 12 5) .none "planwell.terms" 278 131) (by kernel_rfl) (by kernel_rfl) (by kernel_rfl))) ((mkF' (cdv := .ref 131) (oc := .type "function") (od := none) (osl := #[]) (kV := .none) (doc := .none) (pm := .str (.ofString "planwell.terms") 278) (an := none) (ct := .none) (fd := fQF "entries" "Term.entries" (sub 12 5) .none "planwell.terms" 278 131) (by kernel_rfl) (by kernel_rfl) (by kernel_rfl)))
theorem k_b_entries : ∀ k, Binds (KP P) (dK_entries k) ["self"] [] := kd_all (.all (by1 fun _ => rfl)) (.all (by1 fun _ => rfl)) (.all (by1 fun _ => rfl)) (.all (by1 fun _ => rfl)) (.all (by1 fun _ => rfl)) (.all (by1 fun _ => rfl)) (.all (by1 fun _ => rfl))
theorem k_M_depth : ∀ k, Meth (KP P) (cK k) "depth" (fK_depth k) := kd_all (⟨(by kernel_rfl), (by kernel_rfl), (by kernel_rfl)⟩) (⟨(by kernel_rfl), (by kernel_rfl), (by kernel_rfl)⟩) (⟨(by kernel_rfl), (by kernel_rfl), (by kernel_rfl)⟩) (⟨(by kernel_rfl), (by kernel_rfl), (by kernel_rfl)⟩) (⟨(by kernel_rfl), (by kernel_rfl), (by kernel_rfl)⟩) (⟨(by kernel_rfl), (by kernel_rfl), (by kernel_rfl)⟩) (⟨(by kernel_rfl), (by kernel_rfl), (by kernel_rfl)⟩)
theorem k_F_depth : ∀ k, Fun (KP P) "depth" (q_depth k) (t_depth k) (fK_depth k) (dK_depth k) := kd_all ((mkF' (cdv := .ref 136) (oc := .type "function") (od := none) (osl := #[]) (kV := .none) (doc := .none) (pm := .str (.ofString "planwell.terms") 278) (an := none) (ct := .none) (fd := fQF "depth" "Term.depth" (sub 12 6) .none "planwell.terms" 278 136) (by kernel_rfl) (by kernel_rfl) (by kernel_rfl))) ((mkF' (cdv := .ref 136) (oc := .type "function") (od := none) (osl := #[]) (kV := .none) (doc := .none) (pm := .str (.ofString "planwell.terms") 278) (an := none) (ct := .none) (fd := fQF "depth" "Term.depth" (sub 12 6) .none "planwell.terms" 278 136) (by kernel_rfl) (by kernel_rfl) (by kernel_rfl))) ((mkF' (cdv := .ref 136) (oc := .type "function") (od := none) (osl := #[]) (kV := .none) (doc := .none) (pm := .str (.ofString "planwell.terms") 278) (an := none) (ct := .none) (fd := fQF "depth" "Term.depth" (sub 12 6) .none "planwell.terms" 278 136) (by kernel_rfl) (by kernel_rfl) (by kernel_rfl))) ((mkF' (cdv := .ref 136) (oc := .type "function") (od := none) (osl := #[]) (kV := .none) (doc := .none) (pm := .str (.ofString "planwell.terms") 278) (an := none) (ct := .none) (fd := fQF "depth" "Term.depth" (sub 12 6) .none "planwell.terms" 278 136) (by kernel_rfl) (by kernel_rfl) (by kernel_rfl))) ((mkF' (cdv := .ref 136) (oc := .type "function") (od := none) (osl := #[]) (kV := .none) (doc := .none) (pm := .str (.ofString "planwell.terms") 278) (an := none) (ct := .none) (fd := fQF "depth" "Term.depth" (sub 12 6) .none "planwell.terms" 278 136) (by kernel_rfl) (by kernel_rfl) (by kernel_rfl))) ((mkF' (cdv := .ref 136) (oc := .type "function") (od := none) (osl := #[]) (kV := .none) (doc := .none) (pm := .str (.ofString "planwell.terms") 278) (an := none) (ct := .none) (fd := fQF "depth" "Term.depth" (sub 12 6) .none "planwell.terms" 278 136) (by kernel_rfl) (by kernel_rfl) (by kernel_rfl))) ((mkF' (cdv := .ref 136) (oc := .type "function") (od := none) (osl := #[]) (kV := .none) (doc := .none) (pm := .str (.ofString "planwell.terms") 278) (an := none) (ct := .none) (fd := fQF "depth" "Term.depth" (sub 12 6) .none "planwell.terms" 278 136) (by kernel_rfl) (by kernel_rfl) (by kernel_rfl)))
theorem k_b_depth : ∀ k, Binds (KP P) (dK_depth k) ["self"] [] := kd_all (.all (by1 fun _ => rfl)) (.all (by1 fun _ => rfl)) (.all (by1 fun _ => rfl)) (.all (by1 fun _ => rfl)) (.all (by1 fun _ => rfl)) (.all (by1 fun _ => rfl)) (.all (by1 fun _ => rfl))
theorem k_mk : ∀ k, Mk (KP P) (cK k) (fK_i k) := kd_all (⟨(by kernel_rfl), (by kernel_rfl), (by kernel_rfl), (by kernel_rfl)⟩) (⟨(by kernel_rfl), (by kernel_rfl), (by kernel_rfl), (by kernel_rfl)⟩) (⟨(by kernel_rfl), (by kernel_rfl), (by kernel_rfl), (by kernel_rfl)⟩) (⟨(by kernel_rfl), (by kernel_rfl), (by kernel_rfl), (by kernel_rfl)⟩) (⟨(by kernel_rfl), (by kernel_rfl), (by kernel_rfl), (by kernel_rfl)⟩) (⟨(by kernel_rfl), (by kernel_rfl), (by kernel_rfl), (by kernel_rfl)⟩) (⟨(by kernel_rfl), (by kernel_rfl), (by kernel_rfl), (by kernel_rfl)⟩)
theorem k_Fi : ∀ k, Fun (KP P) "__init__" (q_init k) (t_init k) (fK_i k) (dK_i k) := kd_all ((mkF' (cdv := .ref 157) (oc := .type "function") (od := none) (osl := #[]) (kV := .none) (doc := .none) (pm := .str (.ofString "planwell.terms") 278) (an := none) (ct := .none) (fd := fQF "__init__" "Number.__init__" (sub 13 0) .none "planwell.terms" 278 157) (by kernel_rfl) (by kernel_rfl) (by kernel_rfl))) ((mkF' (cdv := .ref 204) (oc := .type "function") (od := none) (osl := #[]) (kV := .none) (doc := .none) (pm := .str (.ofString "planwell.terms") 278) (an := none) (ct := .none) (fd := fQF "__init__" "Entry.__init__" (sub 14 0) .none "planwell.terms" 278 204) (by kernel_rfl) (by kernel_rfl) (by kernel_rfl))) ((mkF' (cdv := .ref 256) (oc := .type "function") (od := none) (osl := #[]) (kV := .none) (doc := .none) (pm := .str (.ofString "planwell.terms") 278) (an := none) (ct := .none) (fd := fQF "__init__" "Negative.__init__" (sub 15 0) .none "planwell.terms" 278 256) (by kernel_rfl) (by kernel_rfl) (by kernel_rfl))) ((mkF' (cdv := .ref 350) (oc := .type "function") (od := none) (osl := #[]) (kV := .none) (doc := .none) (pm := .str (.ofString "planwell.terms") 278) (an := none) (ct := .none) (fd := fQF "__init__" "Plus.__init__" (sub 17 0) .none "planwell.terms" 278 350) (by kernel_rfl) (by kernel_rfl) (by kernel_rfl))) ((mkF' (cdv := .ref 383) (oc := .type "function") (od := none) (osl := #[]) (kV := .none) (doc := .none) (pm := .str (.ofString "planwell.terms") 278) (an := none) (ct := .none) (fd := fQF "__init__" "Minus.__init__" (sub 18 0) .none "planwell.terms" 278 383) (by kernel_rfl) (by kernel_rfl) (by kernel_rfl))) ((mkF' (cdv := .ref 416) (oc := .type "function") (od := none) (osl := #[]) (kV := .none) (doc := .none) (pm := .str (.ofString "planwell.terms") 278) (an := none) (ct := .none) (fd := fQF "__init__" "Times.__init__" (sub 19 0) .none "planwell.terms" 278 416) (by kernel_rfl) (by kernel_rfl) (by kernel_rfl))) ((mkF' (cdv := .ref 449) (oc := .type "function") (od := none) (osl := #[]) (kV := .none) (doc := .none) (pm := .str (.ofString "planwell.terms") 278) (an := none) (ct := .none) (fd := fQF "__init__" "Sum.__init__" (sub 20 0) .none "planwell.terms" 278 449) (by kernel_rfl) (by kernel_rfl) (by kernel_rfl)))
theorem k_bi : ∀ k, Binds (KP P) (dK_i k) (p_init k) [] := kd_all (.all (by2 fun _ _ => rfl)) (.all (by3 fun _ _ _ => rfl)) (.all (by2 fun _ _ => rfl)) (.all (by3 fun _ _ _ => rfl)) (.all (by3 fun _ _ _ => rfl)) (.all (by3 fun _ _ _ => rfl)) (.all (by4 fun _ _ _ _ => rfl))
theorem all_mk {l : PySem.W.OpenLaw} {w : World} {fa : Addr} (X : (KP P).In h) (G : h.Ns mainGlobals mg) (hfa : mg "law" = some (.ref fa)) :
    ∃ fd : FuncData, (∀ (s : Shared) (v : Value), BindsTo s fd ⟨[v], []⟩ [("_law_script", v)]) /\ ∀ base : Heap, (KP P).In base -> base.Ns mainGlobals mg -> FnOk l.prog w (KP P) mg base CX0 13 fa fd ["_law_script"] (spLaw (KP P)) := by
  have M := fun {x : Str} {v : Value} (q : PySem.W.nsIn (KP P) mainGlobals x = some (some v)) => PySem.W.mg_of X G q
  have Z := fun {x : Str} (q : PySem.W.nsIn (KP P) mainGlobals x = some none) => PySem.W.mg_none_of X G q
  have e := hfa.symm.trans (M (v := .ref 590) (by kernel_rfl))
  cases e
  have B : Blt mg := ⟨Z (by kernel_rfl), Z (by kernel_rfl), Z (by kernel_rfl), Z (by kernel_rfl), Z (by kernel_rfl), Z (by kernel_rfl), Z (by kernel_rfl), Z (by kernel_rfl), Z (by kernel_rfl), Z (by kernel_rfl), Z (by kernel_rfl)⟩
  have D_greatest_divisor := dat X G "greatest_divisor" s_greatest_divisor 54 ["one", "other"] (mkF' (cdv := .ref 53) (oc := .type "function") (od := none) (osl := #[]) (kV := .none) (doc := .none) (pm := .str (.ofString "planwell.fractions") 230) (an := none) (ct := .none) (fd := fQF "greatest_divisor" "greatest_divisor" (tp 6) .none "planwell.fractions" 230 53) (by kernel_rfl) (by kernel_rfl) (by kernel_rfl)) (by kernel_rfl) (by2 fun _ _ => rfl)
  have dl : (KP P).lookup 55 = some (tO [.int 1 244]) := by kernel_rfl
  have lf : (KP P).lookup 62 = some ⟨.type "function", none, .func (PySem.W.fnOf "fraction" "fraction" (defArgs s_fraction) (defBody s_fraction) (defScope s_fraction) (.ref 55) .none .none (.str (.ofString "planwell.fractions") 230) none (.ref 61) .none), #[]⟩ := by kernel_rfl
  have D_fraction : DefD (KP P) mg "fraction" s_fraction (.ref 55) 62 _ ["top", "bottom"] [.int 1 244] := ⟨funD_mk (st := s_fraction) lf (by kernel_rfl) (by kernel_rfl), (fun s us KX hl => by
      obtain ⟨u, v, rfl⟩ : ∃ u v, us = [u, v] := by
        rcases us with _ | ⟨u, _ | ⟨v, _ | ⟨z, r⟩⟩⟩ <;> simp at hl
        exact ⟨u, v, rfl⟩
      exact BindsTo.of_defaults rfl (KX _ _ dl) rfl rfl rfl), (fun s us KX hl => by
      obtain ⟨u, rfl⟩ : ∃ u, us = [u] := by
        rcases us with _ | ⟨u, _ | ⟨v, r⟩⟩ <;> simp at hl
        exact ⟨u, rfl⟩
      exact BindsTo.of_defaults rfl (KX _ _ dl) rfl rfl rfl), .cons ⟨244, rfl⟩ .nil, PySem.W.mg_of X G (by kernel_rfl)⟩
  have D_minus := dat X G "minus" s_minus 69 ["one", "other"] (mkF' (cdv := .ref 68) (oc := .type "function") (od := none) (osl := #[]) (kV := .none) (doc := .none) (pm := .str (.ofString "planwell.fractions") 230) (an := none) (ct := .none) (fd := fQF "minus" "minus" (tp 8) .none "planwell.fractions" 230 68) (by kernel_rfl) (by kernel_rfl) (by kernel_rfl)) (by kernel_rfl) (by2 fun _ _ => rfl)
  have D_sign := dat X G "sign" s_sign 76 ["one"] (mkF' (cdv := .ref 75) (oc := .type "function") (od := none) (osl := #[]) (kV := .none) (doc := .none) (pm := .str (.ofString "planwell.fractions") 230) (an := none) (ct := .none) (fd := fQF "sign" "sign" (tp 9) .none "planwell.fractions" 230 75) (by kernel_rfl) (by kernel_rfl) (by kernel_rfl)) (by kernel_rfl) (by1 fun _ => rfl)
  have D_shown_fraction := dat X G "shown_fraction" s_shown_fraction 83 ["one"] (mkF' (cdv := .ref 82) (oc := .type "function") (od := none) (osl := #[]) (kV := .none) (doc := .none) (pm := .str (.ofString "planwell.fractions") 230) (an := none) (ct := .none) (fd := fQF "shown_fraction" "shown_fraction" (tp 10) .none "planwell.fractions" 230 82) (by kernel_rfl) (by kernel_rfl) (by kernel_rfl)) (by kernel_rfl) (by1 fun _ => rfl)
  have D_l_at := dat X G "_law_at" s_l_at 497 ["_law_script", "_law_k"] (mkF' (cdv := .ref 496) (oc := .type "function") (od := none) (osl := #[]) (kV := .none) (doc := .none) (pm := .str (.ofString "law_planwell_k06_terms_by_classes") 789) (an := none) (ct := .none) (fd := fQF "_law_at" "_law_at" (tp 22) .none "law_planwell_k06_terms_by_classes" 789 496) (by kernel_rfl) (by kernel_rfl) (by kernel_rfl)) (by kernel_rfl) (by2 fun _ _ => rfl)
  have D_l_mixed := dat X G "_law_mixed" s_l_mixed 504 ["_law_cell", "_law_k"] (mkF' (cdv := .ref 503) (oc := .type "function") (od := none) (osl := #[]) (kV := .none) (doc := .none) (pm := .str (.ofString "law_planwell_k06_terms_by_classes") 789) (an := none) (ct := .none) (fd := fQF "_law_mixed" "_law_mixed" (tp 23) .none "law_planwell_k06_terms_by_classes" 789 503) (by kernel_rfl) (by kernel_rfl) (by kernel_rfl)) (by kernel_rfl) (by2 fun _ _ => rfl)
  have D_l_reserved := dat X G "_law_reserved" s_l_reserved 511 [] (mkF' (cdv := .ref 510) (oc := .type "function") (od := none) (osl := #[]) (kV := .none) (doc := .none) (pm := .str (.ofString "law_planwell_k06_terms_by_classes") 789) (an := none) (ct := .none) (fd := fQF "_law_reserved" "_law_reserved" (tp 24) .none "law_planwell_k06_terms_by_classes" 789 510) (by kernel_rfl) (by kernel_rfl) (by kernel_rfl)) (by kernel_rfl) (by0 rfl)
  have D_l_pool := dat X G "_law_pool" s_l_pool 516 ["_law_cell"] (mkF' (cdv := .ref 515) (oc := .type "function") (od := none) (osl := #[]) (kV := .none) (doc := .none) (pm := .str (.ofString "law_planwell_k06_terms_by_classes") 789) (an := none) (ct := .none) (fd := fQF "_law_pool" "_law_pool" (tp 25) .none "law_planwell_k06_terms_by_classes" 789 515) (by kernel_rfl) (by kernel_rfl) (by kernel_rfl)) (by kernel_rfl) (by1 fun _ => rfl)
  have D_l_fraction := dat X G "_law_fraction" s_l_fraction 523 ["_law_cell"] (mkF' (cdv := .ref 522) (oc := .type "function") (od := none) (osl := #[]) (kV := .none) (doc := .none) (pm := .str (.ofString "law_planwell_k06_terms_by_classes") 789) (an := none) (ct := .none) (fd := fQF "_law_fraction" "_law_fraction" (tp 26) .none "law_planwell_k06_terms_by_classes" 789 522) (by kernel_rfl) (by kernel_rfl) (by kernel_rfl)) (by kernel_rfl) (by1 fun _ => rfl)
  have D_l_tree := dat X G "_law_tree" s_l_tree 528 ["_law_cell", "_law_deep", "_law_sums", "_law_pool_here"] (mkF' (cdv := .ref 527) (oc := .type "function") (od := none) (osl := #[]) (kV := .none) (doc := .none) (pm := .str (.ofString "law_planwell_k06_terms_by_classes") 789) (an := none) (ct := .none) (fd := fQF "_law_tree" "_law_tree" (tp 27) .none "law_planwell_k06_terms_by_classes" 789 527) (by kernel_rfl) (by kernel_rfl) (by kernel_rfl)) (by kernel_rfl) (by4 fun _ _ _ _ => rfl)
  have D_l_less := dat X G "_law_less" s_l_less 535 ["_law_tree_here", "_law_cell"] (mkF' (cdv := .ref 534) (oc := .type "function") (od := none) (osl := #[]) (kV := .none) (doc := .none) (pm := .str (.ofString "law_planwell_k06_terms_by_classes") 789) (an := none) (ct := .none) (fd := fQF "_law_less" "_law_less" (tp 28) .none "law_planwell_k06_terms_by_classes" 789 534) (by kernel_rfl) (by kernel_rfl) (by kernel_rfl)) (by kernel_rfl) (by2 fun _ _ => rfl)
  have D_l_made := dat X G "_law_made" s_l_made 542 ["_law_tree_here"] (mkF' (cdv := .ref 541) (oc := .type "function") (od := none) (osl := #[]) (kV := .none) (doc := .none) (pm := .str (.ofString "law_planwell_k06_terms_by_classes") 789) (an := none) (ct := .none) (fd := fQF "_law_made" "_law_made" (tp 29) .none "law_planwell_k06_terms_by_classes" 789 541) (by kernel_rfl) (by kernel_rfl) (by kernel_rfl)) (by kernel_rfl) (by1 fun _ => rfl)
  have D_l_parts := dat X G "_law_parts" s_l_parts 547 ["_law_tree_here"] (mkF' (cdv := .ref 546) (oc := .type "function") (od := none) (osl := #[]) (kV := .none) (doc := .none) (pm := .str (.ofString "law_planwell_k06_terms_by_classes") 789) (an := none) (ct := .none) (fd := fQF "_law_parts" "_law_parts" (tp 30) .none "law_planwell_k06_terms_by_classes" 789 546) (by kernel_rfl) (by kernel_rfl) (by kernel_rfl)) (by kernel_rfl) (by1 fun _ => rfl)
  have D_l_number_text := dat X G "_law_number_text" s_l_number_text 554 ["_law_one"] (mkF' (cdv := .ref 553) (oc := .type "function") (od := none) (osl := #[]) (kV := .none) (doc := .none) (pm := .str (.ofString "law_planwell_k06_terms_by_classes") 789) (an := none) (ct := .none) (fd := fQF "_law_number_text" "_law_number_text" (tp 31) .none "law_planwell_k06_terms_by_classes" 789 553) (by kernel_rfl) (by kernel_rfl) (by kernel_rfl)) (by kernel_rfl) (by1 fun _ => rfl)
  have D_l_shown := dat X G "_law_shown" s_l_shown 559 ["_law_tree_here"] (mkF' (cdv := .ref 558) (oc := .type "function") (od := none) (osl := #[]) (kV := .none) (doc := .none) (pm := .str (.ofString "law_planwell_k06_terms_by_classes") 789) (an := none) (ct := .none) (fd := fQF "_law_shown" "_law_shown" (tp 32) .none "law_planwell_k06_terms_by_classes" 789 558) (by kernel_rfl) (by kernel_rfl) (by kernel_rfl)) (by kernel_rfl) (by1 fun _ => rfl)
  have D_l_put := dat X G "_law_put" s_l_put 564 ["_law_tree_here", "_law_binder", "_law_member"] (mkF' (cdv := .ref 563) (oc := .type "function") (od := none) (osl := #[]) (kV := .none) (doc := .none) (pm := .str (.ofString "law_planwell_k06_terms_by_classes") 789) (an := none) (ct := .none) (fd := fQF "_law_put" "_law_put" (tp 33) .none "law_planwell_k06_terms_by_classes" 789 563) (by kernel_rfl) (by kernel_rfl) (by kernel_rfl)) (by kernel_rfl) (by3 fun _ _ _ => rfl)
  have D_l_entries := dat X G "_law_entries" s_l_entries 571 ["_law_tree_here"] (mkF' (cdv := .ref 570) (oc := .type "function") (od := none) (osl := #[]) (kV := .none) (doc := .none) (pm := .str (.ofString "law_planwell_k06_terms_by_classes") 789) (an := none) (ct := .none) (fd := fQF "_law_entries" "_law_entries" (tp 34) .none "law_planwell_k06_terms_by_classes" 789 570) (by kernel_rfl) (by kernel_rfl) (by kernel_rfl)) (by kernel_rfl) (by1 fun _ => rfl)
  have D_l_depth := dat X G "_law_depth" s_l_depth 576 ["_law_tree_here"] (mkF' (cdv := .ref 575) (oc := .type "function") (od := none) (osl := #[]) (kV := .none) (doc := .none) (pm := .str (.ofString "law_planwell_k06_terms_by_classes") 789) (an := none) (ct := .none) (fd := fQF "_law_depth" "_law_depth" (tp 35) .none "law_planwell_k06_terms_by_classes" 789 575) (by kernel_rfl) (by kernel_rfl) (by kernel_rfl)) (by kernel_rfl) (by1 fun _ => rfl)
  have D_l_good := dat X G "_law_good" s_l_good 583 ["_law_term", "_law_tree_here"] (mkF' (cdv := .ref 582) (oc := .type "function") (od := none) (osl := #[]) (kV := .none) (doc := .none) (pm := .str (.ofString "law_planwell_k06_terms_by_classes") 789) (an := none) (ct := .none) (fd := fQF "_law_good" "_law_good" (tp 36) .none "law_planwell_k06_terms_by_classes" 789 582) (by kernel_rfl) (by kernel_rfl) (by kernel_rfl)) (by kernel_rfl) (by2 fun _ _ => rfl)
  have D_law := dat X G "law" s_law 590 ["_law_script"] (mkF' (cdv := .ref 589) (oc := .type "function") (od := none) (osl := #[]) (kV := .none) (doc := .none) (pm := .str (.ofString "law_planwell_k06_terms_by_classes") 789) (an := none) (ct := .none) (fd := fQF "law" "law" (tp 37) .none "law_planwell_k06_terms_by_classes" 789 589) (by kernel_rfl) (by kernel_rfl) (by kernel_rfl)) (by kernel_rfl) (by1 fun _ => rfl)
  exact ⟨_, fun s v => .of_eq rfl, fun base _ _ => to_law (ok_law ({ f_greatest_divisor := _, d_greatest_divisor := _, D_greatest_divisor := D_greatest_divisor, f_fraction := _, d_fraction := _, v_fraction := _, z_fraction := _, D_fraction := D_fraction, f_minus := _, d_minus := _, D_minus := D_minus, f_sign := _, d_sign := _, D_sign := D_sign, f_shown_fraction := _, d_shown_fraction := _, D_shown_fraction := D_shown_fraction, f_l_at := _, d_l_at := _, D_l_at := D_l_at, f_l_mixed := _, d_l_mixed := _, D_l_mixed := D_l_mixed, f_l_reserved := _, d_l_reserved := _, D_l_reserved := D_l_reserved, f_l_pool := _, d_l_pool := _, D_l_pool := D_l_pool, f_l_fraction := _, d_l_fraction := _, D_l_fraction := D_l_fraction, f_l_tree := _, d_l_tree := _, D_l_tree := D_l_tree, f_l_less := _, d_l_less := _, D_l_less := D_l_less, f_l_made := _, d_l_made := _, D_l_made := D_l_made, f_l_parts := _, d_l_parts := _, D_l_parts := D_l_parts, f_l_number_text := _, d_l_number_text := _, D_l_number_text := D_l_number_text, f_l_shown := _, d_l_shown := _, D_l_shown := D_l_shown, f_l_put := _, d_l_put := _, D_l_put := D_l_put, f_l_entries := _, d_l_entries := _, D_l_entries := D_l_entries, f_l_depth := _, d_l_depth := _, D_l_depth := D_l_depth, f_l_good := _, d_l_good := _, D_l_good := D_l_good, f_law := _, d_law := _, D_law := D_law, a_NOUGHT := _, m_NOUGHT := M (by kernel_rfl), r_NOUGHT := fun _ => rep_tup.mpr ⟨47, [.int 0, .int 1], rfl, .inr ⟨_, _, _, (by kernel_rfl : (KP P).lookup 47 = some (tO [.int 0 232, .int 1 233])), rfl, rfl, (by show 2 <= sizeLine; decide), .cons ⟨_, rfl⟩ (.cons ⟨_, rfl⟩ .nil), rfl⟩, .cons (rep_int.mpr rfl) (.cons (rep_int.mpr rfl) .nil)⟩, c_BadFraction := _, x_BadFraction := ⟨M (by kernel_rfl), (by kernel_rfl : PySem.W.excIn (KP P) 44 veB "ValueError.__new__" = true)⟩, c := cK, cT := 140, m_Term := M (by kernel_rfl), cJ := 335, m_Joined := M (by kernel_rfl), m_Number := M (by kernel_rfl), m_Entry := M (by kernel_rfl), m_Negative := M (by kernel_rfl), m_Plus := M (by kernel_rfl), m_Minus := M (by kernel_rfl), m_Times := M (by kernel_rfl), m_Sum := M (by kernel_rfl), cl := k_cl, na := k_na, isi := k_isi, f_parts := fK_parts, d_parts := dK_parts, M_parts := k_M_parts, F_parts := k_F_parts, b_parts := k_b_parts, f_told := fK_told, d_told := dK_told, M_told := k_M_told, F_told := k_F_told, b_told := k_b_told, f_shown := fK_shown, d_shown := dK_shown, M_shown := k_M_shown, F_shown := k_F_shown, b_shown := k_b_shown, f_put := fK_put, d_put := dK_put, M_put := k_M_put, F_put := k_F_put, b_put := k_b_put, f_entries := fK_entries, d_entries := dK_entries, M_entries := k_M_entries, F_entries := k_F_entries, b_entries := k_b_entries, f_depth := fK_depth, d_depth := dK_depth, M_depth := k_M_depth, F_depth := k_F_depth, b_depth := k_b_depth, fi := fK_i, di := dK_i, mkI := k_mk, Fi := k_Fi, bi := k_bi, fJ := 311, dJ := fQF "__init__" "Joined.__init__" (sub 16 0) .none "planwell.terms" 278 310, cm := ⟨(by kernel_rfl), (by kernel_rfl), (by kernel_rfl), (by kernel_rfl)⟩, FJ := (mkF' (cdv := .ref 310) (oc := .type "function") (od := none) (osl := #[]) (kV := .none) (doc := .none) (pm := .str (.ofString "planwell.terms") 278) (an := none) (ct := .none) (fd := fQF "__init__" "Joined.__init__" (sub 16 0) .none "planwell.terms" 278 310) (by kernel_rfl) (by kernel_rfl) (by kernel_rfl)), bJ := .all (by5 fun _ _ _ _ _ => rfl) } : AllD (KP P) mg) B)⟩
end
end Pw
open PySem PySem.W PyProof.Rows
set_option maxRecDepth 100000 in
set_option maxHeartbeats 0 in
theorem PySem.Challenge.cw_planwell_k06_terms_by_classes_holds : PySem.Challenge.rw_planwell_k06_terms_by_classes.Holds := by
  w_on; o_law
  refine W.holds_open (d := ⟨"law", L2.defArgs Pw.s_law, L2.defBody Pw.s_law, L2.defScope Pw.s_law, Pw.posOf Pw.s_law⟩) (kwd := []) (XP := XL Pw.qView [])
    (YP := fun w h => (Pw.KP w.params).In h) Pw.left (fun w s e => Frag.in_of (as := Pw.KA) (by kernel_rfl) e)
    (fun w h h' x k => Frag.In.keeps x k) (fun s e => xl_of s (Bool.and_eq_true_iff.mp e).1) XL.keeps
    (by kernel_rfl) (by kernel_rfl) (by kernel_rfl) (fun s e => recFacts_of (Bool.and_eq_true_iff.mp e).2)
    rfl (by first | assumption | decide +kernel) (by decide +kernel) ⟨rfl, rfl, rfl, rfl, rfl, by decide +kernel⟩ ?hw ?hc
  case hw => w_witness2
  exact L2.walk_ofB (n := 63) (k := 13) (x := "_law_script") (CX := fun _ => L2.CX0) (sp := fun w => Pw.spLaw (Pw.KP w.params)) rfl (by decide) rfl ⟨rfl, by decide, by decide, rfl⟩ (fun _ _ Y => Y)
    (fun w mg fa h X G e => Pw.all_mk (l := PySem.Challenge.rw_planwell_k06_terms_by_classes) X G e) (fun _ _ a ns hl few _ hS => ⟨a, ns, rfl, hS, hl, few, fun _ => rfl⟩) fun _ _ _ _ _ z => z

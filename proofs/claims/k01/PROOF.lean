import PyProof.Rows.All
import Wide.All
import OpenK.AllK
import Wide.FinOn
import KE.KStateDown
import HandS.ForMost
import HandS.ForExc
import HandS.Defaults
import HandS.Wide
import HandS.IsInst
import HandS.Flow
import HandS.Style
import HandS.More
import HandS.NoneIn
import HandS.Head0
import HandS.Head1
import HandS.Head2
import HandS.HeadEnd
import HandS.HeadHook1
import HandS.HeadHook2
import HandS.HeadHook3
import HandS.HeadHook4
import HandS.HeadNt
import PySem.Challenge.RW_codespans_k01_spans_judged
set_option Elab.async false
set_option linter.all false
set_option maxRecDepth 100000
set_option maxHeartbeats 0
namespace Lay
open PySem PySem.Spec PyProof.Rows L2
/-! ## the head's look: facts, defs, and one more Bool -/
abbrev LookT : Type := He.AlD × Bool
def lookAt (fa : List He.Fa) (fn : List He5.DefA) (ex : PySem.W.Frag → Bool) (K : PySem.W.Frag) : LookT := (He5.obsA fa fn K, ex K)
def partOf (n : Nat) (g : Addr → Option Obj) : PySem.W.Frag := He.frG g (He5.asA g n)
/-- what the walk knows of the written part -/
structure Told (fa : List He.Fa) (fn : List He5.DefA) (ex : PySem.W.Frag → Bool) (K : PySem.W.Frag) : Prop where
  a : He5.SaysA fa fn K
  b : ex K = true
theorem told_of {fa : List He.Fa} {fn : List He5.DefA} {ex : PySem.W.Frag → Bool} {K : PySem.W.Frag} (e : lookAt fa fn ex K = (He5.valA fn, true)) : Told fa fn ex K :=
  ⟨congrArg Prod.fst e, congrArg Prod.snd e⟩
def hk (n : Nat) (fa : List He.Fa) (fn : List He5.DefA) (ex : PySem.W.Frag → Bool) : PySem.W.Hook where
  α := LookT
  obs := fun s => lookAt fa fn ex (partOf n s.heap.get?)
  val := fun _ => (He5.valA fn, true)
  says := fun _ h => ∃ K : PySem.W.Frag, K.In h ∧ Told fa fn ex K
  of := fun _ _ e => ⟨_, He.frG_in, told_of e⟩
  keeps := fun _ _ _ h k => by
    obtain ⟨K, hK, c⟩ := h
    exact ⟨K, hK.keeps k, c⟩
theorem look_eq {n : Nat} {fa : List He.Fa} {fn : List He5.DefA} {ex : PySem.W.Frag → Bool} (s : PySem.W.SharedT) : lookAt fa fn ex (partOf n (HandSHeadRun.getT s)) = (hk n fa fn ex).obs s.abs := by
  have e : HandSHeadRun.getT s = s.abs.heap.get? := funext (HandSHeadRun.getT_eq s)
  show lookAt fa fn ex (partOf n (HandSHeadRun.getT s)) = lookAt fa fn ex (partOf n s.abs.heap.get?)
  rw [e]

/-! ## a def by its name -/
/-- the def that the module's name x holds keeps the promise sp -/
def FOk (P : Program) (w : World) (K : PySem.W.Frag) (mg : Str → Option Value) (base : Heap) (CX : CXT) (k : Nat) (x : Str) (ps : List Str) (sp : Sp) : Prop :=
  ∃ fd, FnOk P w K mg base CX k (He.ga K x) fd ps sp ∧ Binds K fd ps [] ∧ PySem.W.keepIn K (.ref (He.ga K x)) = true ∧ mg x = some (.ref (He.ga K x))
section
variable {P : Program} {w : World} {K : PySem.W.Frag} {mg : Str → Option Value} {base : Heap} {CX : CXT} {k : Nat} {x : Str} {ps : List Str} {sp : Sp}
theorem fok {params : Arguments} {body : List Stmt} {scope : Scope} (F : ∃ fd, FunD K x x params body scope [] [] (He.ga K x) fd) (g : mg x = some (.ref (He.ga K x)))
    (hb : ∀ (kV doc pm : Value) (an : Option Addr) (cdv ct : Value) (us : List Value), us.length = ps.length → bindArgs (PySem.W.fnOf x x params body scope .none kV doc pm an cdv ct) ⟨us, []⟩ = pure (ps.zip us))
    (h : ∀ fd, FunD K x x params body scope [] [] (He.ga K x) fd → FnOk P w K mg base CX k (He.ga K x) fd ps sp) : FOk P w K mg base CX k x ps sp := by
  obtain ⟨fd, F⟩ := F
  exact ⟨fd, h fd F, F.bindsN hb, F.kp, g⟩
variable {X : Cx} {E : XK} {e : Expr} {es : List Expr} {t : TA} {p pos : Pos}
theorem pe_cl (F : FOk X.prog X.w X.K X.mg X.base CX k x ps sp) (hr : Room k X.A) (hg : Gl X x) (hx : Passes CX X E) (ha : PA X (e :: es) t) (hdb : (x == ("__debug__" : Str)) = false := by decide)
    (he : starEach (e :: es) X.env = (false, eval e X.env) :: starEach es X.env := by rfl) (hpl : (backTo pos (starEach es X.env)).any (·.1) = false := by rfl) :
    PE X (.Call (.Name x p) (e :: es) [] pos) (tCall sp [] E t) := by
  obtain ⟨fd, F, b, kp, g⟩ := F
  exact pe_call F hr hg g kp b .nil hx ha hdb he hpl
end

/-! ## heaps: all but one object -/
/-- what was tracked, p apart, is as it was -/
def But (p : Addr) (H H' : Hp) : Prop := ∀ b o, H b = some o → b ≠ p → H' b = some o
theorem But.refl {p : Addr} {H : Hp} : But p H H := fun _ _ h _ => h
theorem But.trans {p : Addr} {H H1 H2 : Hp} (a : But p H H1) (b : But p H1 H2) : But p H H2 := fun c o h n => b c o (a c o h n) n
theorem But.upd {p : Addr} {H H1 : Hp} {o : HO} (a : But p H H1) : But p H (upd H1 p o) := fun c u h n => by
  rw [upd_ne n]
  exact a c u h n
theorem But.new {p q : Addr} {H H1 : Hp} {o : HO} (a : But p H H1) (h : H1 q = none) : But p H (L2.upd H1 q o) := fun c u hc n => by
  rw [upd_ne (ne_of_none (a c u hc n) h)]
  exact a c u hc n
theorem Same.but {p : Addr} {H H1 : Hp} (a : Same H H1) : But p H H1 := fun c o h _ => a c o h
theorem same_new {H : Hp} {p : Addr} {o : HO} (h : H p = none) : Same H (L2.upd H p o) := fun b u e => by
  rw [upd_ne (ne_of_none e h)]
  exact e
/-- the well of draws at p -/
def Well (H : Hp) (p : Addr) : Prop := ∃ a b : Int, H p = some (.lst [.int a, .int b])
/-- behind draws -/
structure Drawn (p : Addr) (H H' : Hp) : Prop where
  w : Well H' p
  b : But p H H'
theorem Drawn.refl {p : Addr} {H : Hp} (h : Well H p) : Drawn p H H := ⟨h, .refl⟩
theorem Drawn.trans {p : Addr} {H H1 H2 : Hp} (a : Drawn p H H1) (b : Drawn p H1 H2) : Drawn p H H2 := ⟨b.w, a.b.trans b.b⟩
theorem Well.new {p q : Addr} {H : Hp} {o : HO} (h : Well H p) (n : H q = none) : Well (L2.upd H q o) p := by
  obtain ⟨a, b, e⟩ := h
  exact ⟨a, b, by rw [upd_ne (ne_of_none e n)]; exact e⟩
theorem Drawn.new {p q : Addr} {H H1 : Hp} {o : HO} (d : Drawn p H H1) (n : H1 q = none) : Drawn p H (L2.upd H1 q o) := ⟨d.w.new n, d.b.new n⟩
theorem ite_b {c A B : Prop} [Decidable c] (h1 : c → A) (h2 : ¬ c → B) : if decide c = true then A else B := by
  by_cases h : c
  · rw [decide_eq_true h]; exact iteT (h1 h)
  · rw [decide_eq_false h]; exact iteF (h2 h)
end Lay
namespace Lay
open PySem PySem.Spec PyProof.Rows L2
/-- a statement, and the rest from a word between them -/
def tMid (t u : TS) : TS := fun D σ H => ∃ Mid : L2.St → Hp → Prop, t { D with nx := Mid } σ H ∧ ∀ σ' H', Mid σ' H' → u D σ' H'
theorem pss_mid {X : Cx} {st : Stmt} {rest : List Stmt} {t u : TS} (h1 : PS X st t) (h2 : PSs X rest u) : PSs X (st :: rest) (tMid t u) := by
  refine ⟨fun pins s σ H D I h => ?_⟩
  obtain ⟨Mid, hm, hu⟩ := h
  refine wpAny_execs_cons (wpAny_mono (h1.run pins s σ H _ I hm) (fun f s1 q => ?_) fun _ _ z => z)
  cases f with
  | next =>
    obtain ⟨σ1, H1, I1, q1⟩ := q
    exact h2.run pins s1 σ1 H1 D I1 (hu σ1 H1 q1)
  | ret v => exact q
  | brk => exact q
  | cont => exact q
theorem Drawn.tn {p a : Addr} {H H1 H2 : Hp} {o : HO} (d : Drawn p H H1) (n : H1 a = none) (d2 : Drawn p (L2.upd H1 a o) H2) : Drawn p H H2 := (d.new n).trans d2
theorem Well.ne {p a : Addr} {H : Hp} (h : Well H p) (n : H a = none) : a ≠ p := by
  obtain ⟨x, y, e⟩ := h
  exact (ne_of_none e n).symm
theorem get_mem {xs : List V} {i : Nat} {x : V} (h : xs[i]? = some x) : x ∈ xs := List.mem_of_getElem? h
theorem Drawn.at {p a : Addr} {H H1 : Hp} {o : HO} (d : Drawn p H H1) (e : H a = some o) (ne : a ≠ p) : H1 a = some o := d.b a o e ne
end Lay

namespace Lay
open PySem PySem.Spec PyProof.Rows L2
/-! ## what stands at a value -/
/-- a value and the name of its type -/
inductive VT (H : Hp) : V → String → Prop where
  | non : VT H .non "NoneType"
  | bl (b : Bool) : VT H (.bl b) "bool"
  | int (i : Int) : VT H (.int i) "int"
  | str (x : Str) : VT H (.str x) "str"
  | byt (b : Array UInt8) : VT H (.byt b) "bytes"
  | lst {a : Addr} {xs : List V} (e : H a = some (.lst xs)) : VT H (.ref a) "list"
  | tup {a : Addr} {xs : List V} (e : H a = some (.tup xs)) : VT H (.ref a) "tuple"
  | dic {a : Addr} {kvs : List (Key × V)} (e : H a = some (.dK kvs)) : VT H (.ref a) "dict"
section
variable {K : PySem.W.Frag} {H H' : Hp} {v : V} {n m : String} {b : Bool} {Q : VK}
theorem VT.tyx (h : VT H v n) : TyX K H v (.type n) := by
  cases h with
  | non => exact .base .non
  | bl b => exact .base (.bl b)
  | int i => exact .base (.int i)
  | str x => exact .base (.str x)
  | byt b => exact .byt b
  | lst e => exact .base (.lst e)
  | tup e => exact .base (.tup e)
  | dic e => exact .base (.dK e)
/-- a tracked object that stays, keeps its type -/
theorem VT.keep (h : VT H v n) (k : ∀ a o, v = .ref a → H a = some o → H' a = some o) : VT H' v n := by
  cases h with
  | non => exact .non
  | bl b => exact .bl b
  | int i => exact .int i
  | str x => exact .str x
  | byt b => exact .byt b
  | lst e => exact .lst (k _ _ rfl e)
  | tup e => exact .tup (k _ _ rfl e)
  | dic e => exact .dic (k _ _ rfl e)
theorem VT.same (h : VT H v n) (s : Same H H') : VT H' v n := h.keep fun a o _ e => s a o e
def isiB (n m : String) : Bool := n == m || (n == "bool" && m == "int")
theorem VT.kit (h : VT H v n) (hm : m = "int" ∨ m = "bool" ∨ m = "tuple" ∨ m = "list" ∨ m = "bytes") : kitB n m = some (isiB n m) := by
  rcases hm with rfl | rfl | rfl | rfl | rfl <;> cases h <;> decide +kernel
theorem VT.int_of (h : VT H v n) (e : n = "int") : ∃ i, v = .int i := by
  cases h <;> first | exact ⟨_, rfl⟩ | exact absurd e (by decide)
theorem VT.bl_of (h : VT H v n) (e : n = "bool") : ∃ i, v = .bl i := by
  cases h <;> first | exact ⟨_, rfl⟩ | exact absurd e (by decide)
theorem VT.tup_of (h : VT H v n) (e : n = "tuple") : ∃ a xs, v = .ref a ∧ H a = some (.tup xs) := by
  cases h <;> first | exact ⟨_, _, rfl, by assumption⟩ | exact absurd e (by decide)
theorem rd_isi (h : VT H v n) (hm : m = "int" ∨ m = "bool" ∨ m = "tuple" ∨ m = "list" ∨ m = "bytes") (q : Q (.bl (isiB n m)) H) : rIsi K [v, .ty m] H Q :=
  ⟨v, .ty m, _, _, _, rfl, .ty m, h.tyx, kit_ty (h.kit hm), q⟩
end
/-! ## positions -/
structure Pos where
  l : Int
  e : Int
  c : Option Int
  d : Option Int
abbrev Span := Option Pos
def ov : Option Int → V
  | none => .non
  | some i => .int i
def Pos.vs (p : Pos) : List V := [.int p.l, .int p.e, ov p.c, ov p.d]
/-- the value v is the span s -/
def SpV (H : Hp) (v : V) : Span → Prop
  | none => v = .non
  | some p => ∃ a, v = .ref a ∧ H a = some (.tup p.vs)
structure Pos.ok (p : Pos) : Prop where
  l1 : 1 ≤ p.l
  le : p.l ≤ p.e
  eM : p.e ≤ 2147483647
  cd : (p.c = none ∧ p.d = none ∧ p.e = p.l) ∨ ∃ c d, p.c = some c ∧ p.d = some d ∧ 0 ≤ c ∧ c ≤ 2147483647 ∧ 0 ≤ d ∧ d ≤ 2147483647 ∧ (p.e = p.l → c ≤ d)
def SpanOk : Span → Prop
  | none => True
  | some p => p.ok
theorem SpV.keep {H H' : Hp} {v : V} {s : Span} (h : SpV H v s) (k : ∀ a o, v = .ref a → H a = some o → H' a = some o) : SpV H' v s := by
  cases s with
  | none => exact h
  | some p =>
    obtain ⟨a, e, q⟩ := h
    exact ⟨a, e, k a _ e q⟩
theorem ov_vt {H : Hp} (o : Option Int) : ∃ n, VT H (ov o) n := by
  cases o with
  | none => exact ⟨_, .non⟩
  | some i => exact ⟨_, .int i⟩
/-! ## is it a span -/
def inR (v : V) (lo hi : Int) : Bool := match v with
  | .int i => decide (lo ≤ i) && decide (i ≤ hi)
  | _ => false
def iv : V → Int
  | .int i => i
  | _ => 0
theorem inR_int {v : V} {lo hi : Int} (h : inR v lo hi = true) : ∃ i, v = .int i ∧ lo ≤ i ∧ i ≤ hi := by
  cases v with
  | int i =>
    have h2 : (decide (lo ≤ i) && decide (i ≤ hi)) = true := h
    rw [Bool.and_eq_true, decide_eq_true_eq, decide_eq_true_eq] at h2
    exact ⟨i, rfl, h2.1, h2.2⟩
  | _ => cases h
def span4 (l e c d : V) : Bool :=
  if inR l 1 2147483647 && inR e (iv l) 2147483647 then
    if c = .non ∧ d = .non then decide (iv e = iv l)
    else if inR c 0 2147483647 && inR d 0 2147483647 then decide (iv l < iv e) || decide (iv c ≤ iv d) else false
  else false
def spanB (H : Hp) (v : V) : Bool := match v with
  | .non => true
  | .ref a => match H a with
    | some (.tup [l, e, c, d]) => span4 l e c d
    | _ => false
  | _ => false
theorem spanB_ok {H : Hp} {v : V} {s : Span} (h : SpV H v s) (k : SpanOk s) : spanB H v = true := by
  cases s with
  | none =>
    have e : v = .non := h
    rw [e]
    rfl
  | some p =>
    obtain ⟨a, e, q⟩ := h
    have k' : p.ok := k
    obtain ⟨l1, le, eM, cd⟩ := k'
    have e2 : spanB H v = span4 (.int p.l) (.int p.e) (ov p.c) (ov p.d) := by
      rw [e]
      show (match H a with | some (.tup [l, e, c, d]) => span4 l e c d | _ => false) = _
      rw [q]
      rfl
    rw [e2]
    have h1 : inR (.int p.l) 1 2147483647 = true := by
      show (decide (1 ≤ p.l) && decide (p.l ≤ 2147483647)) = true
      simp only [Bool.and_eq_true, decide_eq_true_eq]
      omega
    have h2 : inR (.int p.e) (iv (.int p.l)) 2147483647 = true := by
      show (decide (p.l ≤ p.e) && decide (p.e ≤ 2147483647)) = true
      simp only [Bool.and_eq_true, decide_eq_true_eq]
      omega
    unfold span4
    rw [h1, h2, if_pos (show (true && true) = true from rfl)]
    rcases cd with ⟨hc, hd, hl⟩ | ⟨c, d, hc, hd, c0, cM, d0, dM, hcd⟩
    · rw [hc, hd]
      rw [if_pos ⟨rfl, rfl⟩]
      exact decide_eq_true hl
    · rw [hc, hd]
      rw [if_neg (fun z => by cases z.1)]
      have h3 : inR (ov (some c)) 0 2147483647 = true := by
        show (decide (0 ≤ c) && decide (c ≤ 2147483647)) = true
        simp only [Bool.and_eq_true, decide_eq_true_eq]
        omega
      have h4 : inR (ov (some d)) 0 2147483647 = true := by
        show (decide (0 ≤ d) && decide (d ≤ 2147483647)) = true
        simp only [Bool.and_eq_true, decide_eq_true_eq]
        omega
      rw [h3, h4, if_pos (show (true && true) = true from rfl)]
      show (decide (p.l < p.e) || decide (c ≤ d)) = true
      rw [Bool.or_eq_true, decide_eq_true_eq, decide_eq_true_eq]
      by_cases z : p.e = p.l
      · exact .inr (hcd z)
      · exact .inl (by omega)
end Lay
namespace Lay
open PySem PySem.Spec PyProof.Rows L2
theorem ite_n {c A B : Prop} [Decidable c] (h1 : ¬ c → A) (h2 : c → B) : if (!decide c) = true then A else B := by
  by_cases h : c
  · rw [decide_eq_true h]; exact iteF (h2 h)
  · rw [decide_eq_false h]; exact iteT (h1 h)
theorem isi_tup {n : String} (h : isiB n "tuple" = true) : n = "tuple" := by
  simp [isiB] at h
  exact h
theorem len4 {xs : List V} (h : xs.length = 4) : ∃ a b c d, xs = [a, b, c, d] := by
  match xs, h with
  | [a, b, c, d], _ => exact ⟨a, b, c, d, rfl⟩
theorem v_int_inj {i j : Int} (h : V.int i = V.int j) : i = j := by
  injection h
theorem spanB_tup {H : Hp} {a : Addr} {l e c d : V} (h : H a = some (.tup [l, e, c, d])) : spanB H (.ref a) = span4 l e c d := by
  show (match H a with | some (.tup [l, e, c, d]) => span4 l e c d | _ => false) = _
  rw [h]
theorem spanB_len {H : Hp} {a : Addr} {xs : List V} (h : H a = some (.tup xs)) (n : xs.length ≠ 4) : spanB H (.ref a) = false := by
  show (match H a with | some (.tup [l, e, c, d]) => span4 l e c d | _ => false) = _
  rw [h]
  match xs, n with
  | [], _ => rfl
  | [_], _ => rfl
  | [_, _], _ => rfl
  | [_, _, _], _ => rfl
  | [_, _, _, _], n => exact absurd rfl n
  | _ :: _ :: _ :: _ :: _ :: _, _ => rfl
theorem spanB_no {H : Hp} {v : V} {n : String} (h : VT H v n) (h1 : v ≠ .non) (h2 : isiB n "tuple" = false) : spanB H v = false := by
  cases h with
  | non => exact absurd rfl h1
  | tup e => exact absurd h2 (by decide)
  | lst e =>
    rename_i a xs
    show (match H a with | some (.tup [l, e, c, d]) => span4 l e c d | _ => false) = _
    rw [e]
  | dic e =>
    rename_i a xs
    show (match H a with | some (.tup [l, e, c, d]) => span4 l e c d | _ => false) = _
    rw [e]
  | _ => rfl
end Lay
namespace Lay
open PySem PySem.Spec PyProof.Rows L2
theorem up {H : Hp} {a b : Addr} {o u : HO} (e : H a = some o) (n : H b = none) : upd H b u a = some o := by
  rw [upd_ne (ne_of_none e n)]
  exact e
theorem mem_cut {xs : List V} {lo hi : Option Int} {x : V} (h : x ∈ cutV xs lo hi) : x ∈ xs := List.mem_of_mem_drop (List.mem_of_mem_take h)
/-- the cells that a law walks: some of the script's, and 0 -/
theorem cell_int {ns : List Int} {lo hi : Option Int} {x : V} (h : x ∈ cutV (ns.map V.int) lo hi ++ [V.int 0]) : ∃ i, x = .int i := by
  rcases List.mem_append.mp h with h | h
  · obtain ⟨i, _, e⟩ := List.mem_map.mp (mem_cut h)
    exact ⟨i, e.symm⟩
  · exact ⟨0, by simpa using h⟩
theorem cut_len {xs : List V} {lo hi : Option Int} : (cutV xs lo hi).length ≤ xs.length := by
  unfold cutV
  rw [List.length_take, List.length_drop]
  omega
theorem fr2 {H : Hp} {a b : Addr} {o : HO} (h : upd H a o b = none) : H b = none := by
  by_cases e : b = a
  · rw [e, upd_same] at h
    cases h
  · rw [upd_ne e] at h
    exact h
end Lay

namespace K01
open PySem PySem.Spec PyProof.Rows L2 Lay
def topS (i : Nat) : Stmt := PySem.Challenge.pw_codespans_k01_spans_judged.main.body.getD i (.Pass ⟨0, 0, 0, 0⟩)
abbrev s_is_int : Stmt := topS 2
abbrev s_is_int_from : Stmt := topS 3
abbrev s_is_span : Stmt := topS 5
abbrev s_l_cell_at : Stmt := topS 7
abbrev s_l_well : Stmt := topS 8
abbrev s_l_draw : Stmt := topS 9
abbrev s_l_one : Stmt := topS 10
abbrev s_l_line : Stmt := topS 11
abbrev s_l_column : Stmt := topS 12
abbrev s_l_span : Stmt := topS 13
abbrev s_l_spans : Stmt := topS 14
abbrev s_l_whole : Stmt := topS 15
abbrev s_l_is_span : Stmt := topS 16
abbrev s_law : Stmt := topS 17
theorem sc_is_int : FnScope ["thing"] ["thing"] (defScope s_is_int) := ⟨rfl, rfl, rfl, by decide +kernel, rfl, by decide +kernel, by decide +kernel⟩
theorem sc_is_int_from : FnScope ["thing", "low", "high"] ["thing", "low", "high"] (defScope s_is_int_from) := ⟨rfl, rfl, rfl, by decide +kernel, rfl, by decide +kernel, by decide +kernel⟩
theorem sc_is_span : FnScope ["thing", "line", "end_line", "column", "end_column"] ["thing"] (defScope s_is_span) := ⟨rfl, rfl, rfl, by decide +kernel, rfl, by decide +kernel, by decide +kernel⟩
theorem sc_l_cell_at : FnScope ["_law_script", "_law_k"] ["_law_script", "_law_k"] (defScope s_l_cell_at) := ⟨rfl, rfl, rfl, by decide +kernel, rfl, by decide +kernel, by decide +kernel⟩
theorem sc_l_well : FnScope ["_law_cell"] ["_law_cell"] (defScope s_l_well) := ⟨rfl, rfl, rfl, by decide +kernel, rfl, by decide +kernel, by decide +kernel⟩
theorem sc_l_draw : FnScope ["_law_well_here", "_law_many", "_law_digit", "_law_number", "_law_more"] ["_law_well_here", "_law_many"] (defScope s_l_draw) := ⟨rfl, rfl, rfl, by decide +kernel, rfl, by decide +kernel, by decide +kernel⟩
theorem sc_l_one : FnScope ["_law_well_here", "_law_some"] ["_law_well_here", "_law_some"] (defScope s_l_one) := ⟨rfl, rfl, rfl, by decide +kernel, rfl, by decide +kernel, by decide +kernel⟩
theorem sc_l_line : FnScope ["_law_well_here", "_law_near", "_law_way"] ["_law_well_here", "_law_near"] (defScope s_l_line) := ⟨rfl, rfl, rfl, by decide +kernel, rfl, by decide +kernel, by decide +kernel⟩
theorem sc_l_column : FnScope ["_law_well_here", "_law_some"] ["_law_well_here"] (defScope s_l_column) := ⟨rfl, rfl, rfl, by decide +kernel, rfl, by decide +kernel, by decide +kernel⟩
theorem sc_l_span : FnScope ["_law_well_here", "_law_near", "_law_way", "_law_line_here", "_law_column_here", "_law_wide", "_law_end_line"] ["_law_well_here", "_law_near"] (defScope s_l_span) := ⟨rfl, rfl, rfl, by decide +kernel, rfl, by decide +kernel, by decide +kernel⟩
theorem sc_l_spans : FnScope ["_law_well_here", "_law_most", "_law_found", "_law_near", "_law_k", "_law_span_here"] ["_law_well_here", "_law_most"] (defScope s_l_spans) := ⟨rfl, rfl, rfl, by decide +kernel, rfl, by decide +kernel, by decide +kernel⟩
theorem sc_l_whole : FnScope ["_law_thing", "_law_low"] ["_law_thing", "_law_low"] (defScope s_l_whole) := ⟨rfl, rfl, rfl, by decide +kernel, rfl, by decide +kernel, by decide +kernel⟩
theorem sc_l_is_span : FnScope ["_law_parts", "_law_line_here", "_law_end_line", "_law_column_here", "_law_end_column"] ["_law_parts"] (defScope s_l_is_span) := ⟨rfl, rfl, rfl, by decide +kernel, rfl, by decide +kernel, by decide +kernel⟩
theorem sc_law : FnScope ["_law_script", "_law_cell", "_law_well_here", "_law_span_here", "_law_parts", "_law_place", "_law_odd", "_law_strange"] ["_law_script"] (defScope s_law) := ⟨rfl, rfl, rfl, by decide +kernel, rfl, by decide +kernel, by decide +kernel⟩
def d_is_int : He5.DefA := { at_ := fun K => He.ga K "is_int", name := "is_int", qual := "is_int", params := defArgs s_is_int, body := defBody s_is_int, scope := defScope s_is_int }
def d_is_int_from : He5.DefA := { at_ := fun K => He.ga K "is_int_from", name := "is_int_from", qual := "is_int_from", params := defArgs s_is_int_from, body := defBody s_is_int_from, scope := defScope s_is_int_from }
def d_is_span : He5.DefA := { at_ := fun K => He.ga K "is_span", name := "is_span", qual := "is_span", params := defArgs s_is_span, body := defBody s_is_span, scope := defScope s_is_span }
def d_l_cell_at : He5.DefA := { at_ := fun K => He.ga K "_law_cell_at", name := "_law_cell_at", qual := "_law_cell_at", params := defArgs s_l_cell_at, body := defBody s_l_cell_at, scope := defScope s_l_cell_at }
def d_l_well : He5.DefA := { at_ := fun K => He.ga K "_law_well", name := "_law_well", qual := "_law_well", params := defArgs s_l_well, body := defBody s_l_well, scope := defScope s_l_well }
def d_l_draw : He5.DefA := { at_ := fun K => He.ga K "_law_draw", name := "_law_draw", qual := "_law_draw", params := defArgs s_l_draw, body := defBody s_l_draw, scope := defScope s_l_draw }
def d_l_one : He5.DefA := { at_ := fun K => He.ga K "_law_one", name := "_law_one", qual := "_law_one", params := defArgs s_l_one, body := defBody s_l_one, scope := defScope s_l_one }
def d_l_line : He5.DefA := { at_ := fun K => He.ga K "_law_line", name := "_law_line", qual := "_law_line", params := defArgs s_l_line, body := defBody s_l_line, scope := defScope s_l_line }
def d_l_column : He5.DefA := { at_ := fun K => He.ga K "_law_column", name := "_law_column", qual := "_law_column", params := defArgs s_l_column, body := defBody s_l_column, scope := defScope s_l_column }
def d_l_span : He5.DefA := { at_ := fun K => He.ga K "_law_span", name := "_law_span", qual := "_law_span", params := defArgs s_l_span, body := defBody s_l_span, scope := defScope s_l_span }
def d_l_spans : He5.DefA := { at_ := fun K => He.ga K "_law_spans", name := "_law_spans", qual := "_law_spans", params := defArgs s_l_spans, body := defBody s_l_spans, scope := defScope s_l_spans }
def d_l_whole : He5.DefA := { at_ := fun K => He.ga K "_law_whole", name := "_law_whole", qual := "_law_whole", params := defArgs s_l_whole, body := defBody s_l_whole, scope := defScope s_l_whole }
def d_l_is_span : He5.DefA := { at_ := fun K => He.ga K "_law_is_span", name := "_law_is_span", qual := "_law_is_span", params := defArgs s_l_is_span, body := defBody s_l_is_span, scope := defScope s_l_is_span }
def d_law : He5.DefA := { at_ := fun K => He.ga K "law", name := "law", qual := "law", params := defArgs s_law, body := defBody s_law, scope := defScope s_law }
def fn : List He5.DefA := [d_is_int, d_is_int_from, d_is_span, d_l_cell_at, d_l_well, d_l_draw, d_l_one, d_l_line, d_l_column, d_l_span, d_l_spans, d_l_whole, d_l_is_span, d_law]
def fa : List He.Fa := [.glo "is_int", .glo "is_int_from", .glo "is_span", .glo "_law_cell_at", .glo "_law_well", .glo "_law_draw", .glo "_law_one", .glo "_law_line", .glo "_law_column", .glo "_law_span", .glo "_law_spans", .glo "_law_whole", .glo "_law_is_span", .glo "law", .free "isinstance", .free "int", .free "bool", .free "tuple", .free "len", .free "min", .free "max", .free "range", .free "list", .int "MOST" 2147483647]
def ex (K : PySem.W.Frag) : Bool := true
/-- the written part behind the top -/
structure Wd (K : PySem.W.Frag) (mg : Str → Option Value) : Prop where
  i : ∃ h : Heap, K.In h ∧ h.Ns mainGlobals mg
  c : Told fa fn ex K
section
variable {K : PySem.W.Frag} {mg : Str → Option Value}
theorem g_is_int (W : Wd K mg) : mg "is_int" = some (.ref (He.ga K "is_int")) := by
  obtain ⟨h, X, G⟩ := W.i
  exact He.glo_ok X G (W.c.a.fact 0 rfl)
theorem g_is_int_from (W : Wd K mg) : mg "is_int_from" = some (.ref (He.ga K "is_int_from")) := by
  obtain ⟨h, X, G⟩ := W.i
  exact He.glo_ok X G (W.c.a.fact 1 rfl)
theorem g_is_span (W : Wd K mg) : mg "is_span" = some (.ref (He.ga K "is_span")) := by
  obtain ⟨h, X, G⟩ := W.i
  exact He.glo_ok X G (W.c.a.fact 2 rfl)
theorem g_l_cell_at (W : Wd K mg) : mg "_law_cell_at" = some (.ref (He.ga K "_law_cell_at")) := by
  obtain ⟨h, X, G⟩ := W.i
  exact He.glo_ok X G (W.c.a.fact 3 rfl)
theorem g_l_well (W : Wd K mg) : mg "_law_well" = some (.ref (He.ga K "_law_well")) := by
  obtain ⟨h, X, G⟩ := W.i
  exact He.glo_ok X G (W.c.a.fact 4 rfl)
theorem g_l_draw (W : Wd K mg) : mg "_law_draw" = some (.ref (He.ga K "_law_draw")) := by
  obtain ⟨h, X, G⟩ := W.i
  exact He.glo_ok X G (W.c.a.fact 5 rfl)
theorem g_l_one (W : Wd K mg) : mg "_law_one" = some (.ref (He.ga K "_law_one")) := by
  obtain ⟨h, X, G⟩ := W.i
  exact He.glo_ok X G (W.c.a.fact 6 rfl)
theorem g_l_line (W : Wd K mg) : mg "_law_line" = some (.ref (He.ga K "_law_line")) := by
  obtain ⟨h, X, G⟩ := W.i
  exact He.glo_ok X G (W.c.a.fact 7 rfl)
theorem g_l_column (W : Wd K mg) : mg "_law_column" = some (.ref (He.ga K "_law_column")) := by
  obtain ⟨h, X, G⟩ := W.i
  exact He.glo_ok X G (W.c.a.fact 8 rfl)
theorem g_l_span (W : Wd K mg) : mg "_law_span" = some (.ref (He.ga K "_law_span")) := by
  obtain ⟨h, X, G⟩ := W.i
  exact He.glo_ok X G (W.c.a.fact 9 rfl)
theorem g_l_spans (W : Wd K mg) : mg "_law_spans" = some (.ref (He.ga K "_law_spans")) := by
  obtain ⟨h, X, G⟩ := W.i
  exact He.glo_ok X G (W.c.a.fact 10 rfl)
theorem g_l_whole (W : Wd K mg) : mg "_law_whole" = some (.ref (He.ga K "_law_whole")) := by
  obtain ⟨h, X, G⟩ := W.i
  exact He.glo_ok X G (W.c.a.fact 11 rfl)
theorem g_l_is_span (W : Wd K mg) : mg "_law_is_span" = some (.ref (He.ga K "_law_is_span")) := by
  obtain ⟨h, X, G⟩ := W.i
  exact He.glo_ok X G (W.c.a.fact 12 rfl)
theorem g_law (W : Wd K mg) : mg "law" = some (.ref (He.ga K "law")) := by
  obtain ⟨h, X, G⟩ := W.i
  exact He.glo_ok X G (W.c.a.fact 13 rfl)
theorem g_isinstance (W : Wd K mg) : mg "isinstance" = none := by
  obtain ⟨h, X, G⟩ := W.i
  exact He.free_ok X G (W.c.a.fact 14 rfl)
theorem g_int (W : Wd K mg) : mg "int" = none := by
  obtain ⟨h, X, G⟩ := W.i
  exact He.free_ok X G (W.c.a.fact 15 rfl)
theorem g_bool (W : Wd K mg) : mg "bool" = none := by
  obtain ⟨h, X, G⟩ := W.i
  exact He.free_ok X G (W.c.a.fact 16 rfl)
theorem g_tuple (W : Wd K mg) : mg "tuple" = none := by
  obtain ⟨h, X, G⟩ := W.i
  exact He.free_ok X G (W.c.a.fact 17 rfl)
theorem g_len (W : Wd K mg) : mg "len" = none := by
  obtain ⟨h, X, G⟩ := W.i
  exact He.free_ok X G (W.c.a.fact 18 rfl)
theorem g_min (W : Wd K mg) : mg "min" = none := by
  obtain ⟨h, X, G⟩ := W.i
  exact He.free_ok X G (W.c.a.fact 19 rfl)
theorem g_max (W : Wd K mg) : mg "max" = none := by
  obtain ⟨h, X, G⟩ := W.i
  exact He.free_ok X G (W.c.a.fact 20 rfl)
theorem g_range (W : Wd K mg) : mg "range" = none := by
  obtain ⟨h, X, G⟩ := W.i
  exact He.free_ok X G (W.c.a.fact 21 rfl)
theorem g_list (W : Wd K mg) : mg "list" = none := by
  obtain ⟨h, X, G⟩ := W.i
  exact He.free_ok X G (W.c.a.fact 22 rfl)
theorem g_MOST (W : Wd K mg) : ∃ t, mg "MOST" = some (.int 2147483647 t) := by
  obtain ⟨h, X, G⟩ := W.i
  exact He.int_ok X G (W.c.a.fact 23 rfl)
theorem F_is_int (W : Wd K mg) : ∃ fd, FunD K "is_int" "is_int" (defArgs s_is_int) (defBody s_is_int) (defScope s_is_int) [] [] (He.ga K "is_int") fd := W.c.a.def_ 0 (d := d_is_int) rfl
theorem F_is_int_from (W : Wd K mg) : ∃ fd, FunD K "is_int_from" "is_int_from" (defArgs s_is_int_from) (defBody s_is_int_from) (defScope s_is_int_from) [] [] (He.ga K "is_int_from") fd := W.c.a.def_ 1 (d := d_is_int_from) rfl
theorem F_is_span (W : Wd K mg) : ∃ fd, FunD K "is_span" "is_span" (defArgs s_is_span) (defBody s_is_span) (defScope s_is_span) [] [] (He.ga K "is_span") fd := W.c.a.def_ 2 (d := d_is_span) rfl
theorem F_l_cell_at (W : Wd K mg) : ∃ fd, FunD K "_law_cell_at" "_law_cell_at" (defArgs s_l_cell_at) (defBody s_l_cell_at) (defScope s_l_cell_at) [] [] (He.ga K "_law_cell_at") fd := W.c.a.def_ 3 (d := d_l_cell_at) rfl
theorem F_l_well (W : Wd K mg) : ∃ fd, FunD K "_law_well" "_law_well" (defArgs s_l_well) (defBody s_l_well) (defScope s_l_well) [] [] (He.ga K "_law_well") fd := W.c.a.def_ 4 (d := d_l_well) rfl
theorem F_l_draw (W : Wd K mg) : ∃ fd, FunD K "_law_draw" "_law_draw" (defArgs s_l_draw) (defBody s_l_draw) (defScope s_l_draw) [] [] (He.ga K "_law_draw") fd := W.c.a.def_ 5 (d := d_l_draw) rfl
theorem F_l_one (W : Wd K mg) : ∃ fd, FunD K "_law_one" "_law_one" (defArgs s_l_one) (defBody s_l_one) (defScope s_l_one) [] [] (He.ga K "_law_one") fd := W.c.a.def_ 6 (d := d_l_one) rfl
theorem F_l_line (W : Wd K mg) : ∃ fd, FunD K "_law_line" "_law_line" (defArgs s_l_line) (defBody s_l_line) (defScope s_l_line) [] [] (He.ga K "_law_line") fd := W.c.a.def_ 7 (d := d_l_line) rfl
theorem F_l_column (W : Wd K mg) : ∃ fd, FunD K "_law_column" "_law_column" (defArgs s_l_column) (defBody s_l_column) (defScope s_l_column) [] [] (He.ga K "_law_column") fd := W.c.a.def_ 8 (d := d_l_column) rfl
theorem F_l_span (W : Wd K mg) : ∃ fd, FunD K "_law_span" "_law_span" (defArgs s_l_span) (defBody s_l_span) (defScope s_l_span) [] [] (He.ga K "_law_span") fd := W.c.a.def_ 9 (d := d_l_span) rfl
theorem F_l_spans (W : Wd K mg) : ∃ fd, FunD K "_law_spans" "_law_spans" (defArgs s_l_spans) (defBody s_l_spans) (defScope s_l_spans) [] [] (He.ga K "_law_spans") fd := W.c.a.def_ 10 (d := d_l_spans) rfl
theorem F_l_whole (W : Wd K mg) : ∃ fd, FunD K "_law_whole" "_law_whole" (defArgs s_l_whole) (defBody s_l_whole) (defScope s_l_whole) [] [] (He.ga K "_law_whole") fd := W.c.a.def_ 11 (d := d_l_whole) rfl
theorem F_l_is_span (W : Wd K mg) : ∃ fd, FunD K "_law_is_span" "_law_is_span" (defArgs s_l_is_span) (defBody s_l_is_span) (defScope s_l_is_span) [] [] (He.ga K "_law_is_span") fd := W.c.a.def_ 12 (d := d_l_is_span) rfl
theorem F_law (W : Wd K mg) : ∃ fd, FunD K "law" "law" (defArgs s_law) (defBody s_law) (defScope s_law) [] [] (He.ga K "law") fd := W.c.a.def_ 13 (d := d_law) rfl
end
end K01
namespace K01
open PySem PySem.Spec PyProof.Rows L2 Lay
/-! ### promises -/
def sp_is_int : Sp := fun vs H Q _ => ∃ (v : V) (n : String), vs = [v] ∧ VT H v n ∧ Q (.bl (n == "int")) H
theorem ok_is_int {P : Program} {w : World} {K : PySem.W.Frag} {mg : Str → Option Value} {base : Heap} (W : Wd K mg) : FOk P w K mg base CX0 1 "is_int" ["thing"] (sp_is_int) :=
  fok (F_is_int W) (g_is_int W) (fun _ _ _ _ _ _ us hl => match us, hl with | [_], _ => rfl) fun fd F => by
  refine F.ok sc_is_int (fun vs H Q E h => ?_) (fun cdv A outer s H vs Q E hr h => ?_)
  · obtain ⟨v, n, rfl, _⟩ := h
    rfl
  · obtain ⟨v, n, rfl, hv, q⟩ := h
    refine ⟨_, PSs.nox (pss_one (ps_ret (pe_and (pe_callB call_isi (by rfl) (g_isinstance W) (by decide +kernel) (pa_cons (pv 0) (pa_cons (pe_bltn (v := .ty "int") rfl (g_int W) (by decide +kernel) rfl) pa_nil))) (pe_one (pe_not (pe_callB call_isi (by rfl) (g_isinstance W) (by decide +kernel) (pa_cons (pv 0) (pa_cons (pe_bltn (v := .ty "bool") rfl (g_bool W) (by decide +kernel) rfl) pa_nil)))))))), ?_⟩
    refine ⟨v, rfl, v, _, _, _, _, rfl, .ty _, hv.tyx, kit_ty (hv.kit (.inl rfl)), _, rfl, ?_⟩
    cases hi : isiB n "int" with
    | false =>
      refine iteF ?_
      have e : (n == "int") = false := by
        have h2 : (n == "int" || (n == "bool" && "int" == "int")) = false := hi
        rw [Bool.or_eq_false_iff] at h2
        exact h2.1
      rw [e] at q
      exact q
    | true =>
      refine iteT ?_
      refine ⟨v, rfl, v, _, _, _, _, rfl, .ty _, hv.tyx, kit_ty (hv.kit (.inr (.inl rfl))), _, rfl, ?_⟩
      have e : (!isiB n "bool") = (n == "int") := by
        cases hv <;> first | rfl | exact absurd hi (by decide)
      rw [e]
      exact q
def sp_is_int_from : Sp := fun vs H Q _ => ∃ (v : V) (n : String) (lo hi : Int), vs = [v, .int lo, .int hi] ∧ VT H v n ∧ Q (.bl (inR v lo hi)) H
theorem ok_is_int_from {P : Program} {w : World} {K : PySem.W.Frag} {mg : Str → Option Value} {base : Heap} (W : Wd K mg) : FOk P w K mg base CX0 2 "is_int_from" ["thing", "low", "high"] (sp_is_int_from) :=
  fok (F_is_int_from W) (g_is_int_from W) (fun _ _ _ _ _ _ us hl => match us, hl with | [_, _, _], _ => rfl) fun fd F => by
  refine F.ok sc_is_int_from (fun vs H Q E h => ?_) (fun cdv A outer s H vs Q E hr h => ?_)
  · obtain ⟨v, n, lo, hi, rfl, _⟩ := h
    rfl
  · obtain ⟨v, n, lo, hi, rfl, hv, q⟩ := h
    refine ⟨_, PSs.nox (pss_one (ps_ret (pe_andT (pe_cl (ok_is_int W) (hr.mono (by decide)) (by rfl) pass0 (pa_cons (pv 0) pa_nil)) (pe_one (pe_chain op_le op_le (pv 1) (pv 0) (pv 2)))))), ?_⟩
    refine ⟨v, rfl, v, n, rfl, hv, _, rfl, ?_⟩
    cases hn : (n == "int") with
    | false =>
      refine iteF ?_
      have e : inR v lo hi = false := by
        cases hv <;> first | rfl | exact absurd hn (by decide)
      rw [e] at q
      exact q
    | true =>
      refine iteT ?_
      obtain ⟨i, rfl⟩ := hv.int_of (by simpa using hn)
      refine ⟨_, rfl, _, rfl, lo, i, rfl, rfl, _, rfl, ?_⟩
      refine ite_b (fun h1 => ?_) (fun h1 => ?_)
      · refine ⟨_, rfl, i, hi, rfl, rfl, ?_⟩
        have e : inR (.int i) lo hi = decide (i ≤ hi) := by
          show (decide (lo ≤ i) && decide (i ≤ hi)) = _
          rw [decide_eq_true h1, Bool.true_and]
        rw [e] at q
        exact q
      · have e : inR (.int i) lo hi = false := by
          show (decide (lo ≤ i) && decide (i ≤ hi)) = _
          rw [decide_eq_false h1, Bool.false_and]
        rw [e] at q
        exact q
def sp_is_span : Sp := fun vs H Q _ => ∃ (v : V) (n : String), vs = [v] ∧ VT H v n ∧ (∀ a xs, v = .ref a → H a = some (.tup xs) → xs.length = 4 → ∀ x ∈ xs, ∃ m, VT H x m) ∧ Q (.bl (spanB H v)) H
theorem ok_is_span {P : Program} {w : World} {K : PySem.W.Frag} {mg : Str → Option Value} {base : Heap} (W : Wd K mg) : FOk P w K mg base CX0 3 "is_span" ["thing"] (sp_is_span) :=
  fok (F_is_span W) (g_is_span W) (fun _ _ _ _ _ _ us hl => match us, hl with | [_], _ => rfl) fun fd F => by
  refine F.ok sc_is_span (fun vs H Q E h => ?_) (fun cdv A outer s H vs Q E hr h => ?_)
  · obtain ⟨v, n, rfl, _⟩ := h
    rfl
  · obtain ⟨tk_MOST, hg_MOST⟩ := g_MOST W
    obtain ⟨v, n, rfl, hv, ht, q⟩ := h
    refine ⟨_, PSs.nox (pss_cons (ps_if (pt_cmpR op_isN (pv 0) pe_non (nomark _)) (pss_one (ps_ret pe_bl)) pss_nil) (pss_cons (ps_if (PW.pt (pw_or (pt_not (pt_val (pe_callB call_isi (by rfl) (g_isinstance W) (by decide +kernel) (pa_cons (pv 0) (pa_cons (pe_bltn (v := .ty "tuple") rfl (g_tuple W) (by decide +kernel) rfl) pa_nil))))) (pw_or1 (pt_cmpR op_ne (pe_callB call_len (by rfl) (g_len W) (by decide +kernel) (pa_cons (pv 0) pa_nil)) pe_int (nomark _))))) (pss_one (ps_ret pe_bl)) pss_nil) (pss_cons (ps_asg (pv 0) (pg_tup rfl (pgs_cons (pg_name (i := 1) sc_is_span.nd rfl (Or.inl rfl)) (pgs_cons (pg_name (i := 2) sc_is_span.nd rfl (Or.inl rfl)) (pgs_cons (pg_name (i := 3) sc_is_span.nd rfl (Or.inl rfl)) (pgs_cons (pg_name (i := 4) sc_is_span.nd rfl (Or.inl rfl)) pgs_nil)))))) (pss_cons (ps_if (PW.pt (pw_or (pt_not (pt_truth (pe_cl (ok_is_int_from W) (hr.mono (by decide)) (by rfl) pass0 (pa_cons (pv 1) (pa_cons pe_int (pa_cons (pe_glob (v := .int 2147483647) rfl hg_MOST ⟨_, rfl⟩) pa_nil)))) (by intro _; rfl))) (pw_or1 (pt_not (pt_truth (pe_cl (ok_is_int_from W) (hr.mono (by decide)) (by rfl) pass0 (pa_cons (pv 2) (pa_cons (pv 1) (pa_cons (pe_glob (v := .int 2147483647) rfl hg_MOST ⟨_, rfl⟩) pa_nil)))) (by intro _; rfl)))))) (pss_one (ps_ret pe_bl)) pss_nil) (pss_cons (ps_if (PW.pt (pw_and (pt_cmpR op_isN (pv 3) pe_non (nomark _)) (pw_and1 (pt_cmpR op_isN (pv 4) pe_non (nomark _))))) (pss_one (ps_ret (pe_cmpR op_eq (pv 2) (pv 1) (nomark _)))) pss_nil) (pss_cons (ps_if (PW.pt (pw_or (pt_not (pt_truth (pe_cl (ok_is_int_from W) (hr.mono (by decide)) (by rfl) pass0 (pa_cons (pv 3) (pa_cons pe_int (pa_cons (pe_glob (v := .int 2147483647) rfl hg_MOST ⟨_, rfl⟩) pa_nil)))) (by intro _; rfl))) (pw_or1 (pt_not (pt_truth (pe_cl (ok_is_int_from W) (hr.mono (by decide)) (by rfl) pass0 (pa_cons (pv 4) (pa_cons pe_int (pa_cons (pe_glob (v := .int 2147483647) rfl hg_MOST ⟨_, rfl⟩) pa_nil)))) (by intro _; rfl)))))) (pss_one (ps_ret pe_bl)) pss_nil) (pss_one (ps_ret (pe_or (pe_cmpR op_gt (pv 2) (pv 1) (nomark _)) (pe_one (pe_cmpR op_ge (pv 4) (pv 3) (nomark _)))))))))))), ?_⟩
    refine ⟨v, rfl, rfl, _, rfl, ?_⟩
    refine ite_b (fun e0 => ?_) (fun e0 => ?_)
    · subst e0
      exact q
    refine ⟨v, rfl, v, _, _, _, _, rfl, .ty _, hv.tyx, kit_ty (hv.kit (.inr (.inr (.inl rfl)))), _, rfl, ?_⟩
    cases hn : isiB n "tuple" with
    | false =>
      refine iteT ?_
      refine iteT ?_
      rw [spanB_no hv e0 hn] at q
      exact q
    | true =>
      refine iteF ?_
      obtain ⟨a, xs, rfl, hx⟩ := hv.tup_of (isi_tup hn)
      refine ⟨.ref a, rfl, .ref a, xs.length, rfl, .inr ⟨xs, SqT.of hx, rfl⟩, rfl, _, rfl, ?_⟩
      refine ite_n (fun h4 => ?_) (fun h4 => ?_)
      · have n4 : xs.length ≠ 4 := fun z => h4 (by rw [z]; rfl)
        rw [spanB_len hx n4] at q
        exact q
      have h4' : xs.length = 4 := by
        have z := v_int_inj h4
        omega
      obtain ⟨l, e, c, d, rfl⟩ := len4 h4'
      rw [spanB_tup hx] at q
      obtain ⟨nl, tl⟩ := ht a _ rfl hx rfl l (by simp)
      obtain ⟨ne, te⟩ := ht a _ rfl hx rfl e (by simp)
      obtain ⟨nc, tc⟩ := ht a _ rfl hx rfl c (by simp)
      obtain ⟨nd, td⟩ := ht a _ rfl hx rfl d (by simp)
      refine ⟨.ref a, rfl, a, [l, e, c, d], rfl, SqT.of hx, rfl, l, _, rfl, e, _, rfl, c, _, rfl, d, _, rfl, rfl, ?_⟩
      refine ⟨l, rfl, l, nl, 1, 2147483647, rfl, tl, _, rfl, ?_⟩
      unfold span4 at q
      cases h1 : inR l 1 2147483647 with
      | false =>
        refine iteT ?_
        refine iteT ?_
        rw [h1, Bool.false_and, if_neg Bool.false_ne_true] at q
        exact q
      | true =>
      refine iteF ?_
      obtain ⟨li, rfl, l1, l2⟩ := inR_int h1
      refine ⟨e, rfl, .int li, rfl, e, ne, li, 2147483647, rfl, te, _, rfl, ?_⟩
      rw [h1, Bool.true_and] at q
      cases h2 : inR e li 2147483647 with
      | false =>
        refine iteT ?_
        rw [show inR e (iv (.int li)) 2147483647 = false from h2, if_neg Bool.false_ne_true] at q
        exact q
      | true =>
      refine iteF ?_
      obtain ⟨ei, rfl, e1, e2⟩ := inR_int h2
      rw [show inR (.int ei) (iv (.int li)) 2147483647 = true from h2, if_pos rfl] at q
      refine ⟨c, rfl, rfl, _, rfl, ?_⟩
      by_cases hc : c = .non
      · refine ite_b (fun _ => ?_) (fun z => absurd hc z)
        refine ⟨d, rfl, rfl, _, rfl, ?_⟩
        by_cases hd : d = .non
        · refine ite_b (fun _ => ?_) (fun z => absurd hd z)
          refine ⟨_, rfl, _, rfl, rfl, ?_⟩
          rw [if_pos ⟨hc, hd⟩] at q
          rw [dec_int]
          exact q
        · refine ite_b (fun z => absurd z hd) (fun _ => ?_)
          rw [if_neg (fun z => hd z.2)] at q
          refine ⟨c, rfl, c, nc, 0, 2147483647, rfl, tc, _, rfl, ?_⟩
          subst hc
          refine iteT ?_
          refine iteT ?_
          exact q
      · refine ite_b (fun z => absurd z hc) (fun _ => ?_)
        refine iteF ?_
        rw [if_neg (fun z => hc z.1)] at q
        refine ⟨c, rfl, c, nc, 0, 2147483647, rfl, tc, _, rfl, ?_⟩
        cases h3 : inR c 0 2147483647 with
        | false =>
          refine iteT ?_
          refine iteT ?_
          rw [h3, Bool.false_and, if_neg Bool.false_ne_true] at q
          exact q
        | true =>
        refine iteF ?_
        rw [h3, Bool.true_and] at q
        obtain ⟨ci, rfl, c1, c2⟩ := inR_int h3
        refine ⟨d, rfl, d, nd, 0, 2147483647, rfl, td, _, rfl, ?_⟩
        cases h5 : inR d 0 2147483647 with
        | false =>
          refine iteT ?_
          rw [h5, if_neg Bool.false_ne_true] at q
          exact q
        | true =>
        refine iteF ?_
        rw [h5, if_pos rfl] at q
        obtain ⟨di, rfl, d1, d2⟩ := inR_int h5
        refine ⟨_, rfl, _, rfl, ei, li, rfl, rfl, _, rfl, ?_⟩
        refine ite_b (fun h6 => ?_) (fun h6 => ?_)
        · have z : (decide (iv (.int li) < iv (.int ei)) || decide (iv (.int ci) ≤ iv (.int di))) = true := by
            rw [show decide (iv (V.int li) < iv (V.int ei)) = true from decide_eq_true h6, Bool.true_or]
          rw [z] at q
          exact q
        · refine ⟨_, rfl, _, rfl, di, ci, rfl, rfl, ?_⟩
          have z : (decide (iv (.int li) < iv (.int ei)) || decide (iv (.int ci) ≤ iv (.int di))) = decide (ci ≤ di) := by
            rw [show decide (iv (V.int li) < iv (V.int ei)) = false from decide_eq_false h6, Bool.false_or]
            rfl
          rw [z] at q
          exact q
def sp_well : Sp := fun vs H Q _ => ∃ c : Int, vs = [.int c] ∧ ∀ p, H p = none → Q (.ref p) (upd H p (.lst [.int c, .int 0]))
theorem ok_l_well {P : Program} {w : World} {K : PySem.W.Frag} {mg : Str → Option Value} {base : Heap} (W : Wd K mg) : FOk P w K mg base CX0 1 "_law_well" ["_law_cell"] (sp_well) :=
  fok (F_l_well W) (g_l_well W) (fun _ _ _ _ _ _ us hl => match us, hl with | [_], _ => rfl) fun fd F => by
  refine F.ok sc_l_well (fun vs H Q E h => ?_) (fun cdv A outer s H vs Q E hr h => ?_)
  · obtain ⟨c, rfl, _⟩ := h
    rfl
  · obtain ⟨c, rfl, q⟩ := h
    refine ⟨_, PSs.nox (pss_one (ps_ret (pe_lst (pa_cons (pv 0) (pa_cons pe_int pa_nil))))), ?_⟩
    exact ⟨.int c, rfl, by show 2 ≤ sizeLine; decide, q⟩
def sp_draw : Sp := fun vs H Q _ => ∃ (p : Addr) (m : Int), vs = [.ref p, .int m] ∧ Well H p ∧ 0 < m ∧ m < 2 ^ 200 ∧ ∀ d H', 0 ≤ d → d < m → Drawn p H H' → Q (.int d) H'
theorem div_ok {m : Int} (h0 : 0 < m) (h1 : m < 2 ^ 200) : CDivW a m := wide_div h0 (b := 200) (by omega) (by decide) (by decide)
theorem well_set {p : Addr} {H : Hp} {x y : Int} : Drawn p H (upd H p (.lst [.int x, .int y])) := ⟨⟨x, y, upd_same⟩, .upd .refl⟩
theorem mul_ok {i j : Int} (h0 : 0 ≤ i) (h1 : i < 2 ^ 63) : CMul i j := .inl ⟨by omega, by omega⟩
theorem mul_ok' {i j : Int} (h0 : 0 ≤ j) (h1 : j < 2 ^ 63) : CMul i j := .inr ⟨by omega, by omega⟩
theorem ok_l_draw {P : Program} {w : World} {K : PySem.W.Frag} {mg : Str → Option Value} {base : Heap} (W : Wd K mg) : FOk P w K mg base CX0 1 "_law_draw" ["_law_well_here", "_law_many"] (sp_draw) :=
  fok (F_l_draw W) (g_l_draw W) (fun _ _ _ _ _ _ us hl => match us, hl with | [_, _], _ => rfl) fun fd F => by
  refine F.ok sc_l_draw (fun vs H Q E h => ?_) (fun cdv A outer s H vs Q E hr h => ?_)
  · obtain ⟨p, m, rfl, _⟩ := h
    rfl
  · obtain ⟨p, m, rfl, hw, h0, h1, q⟩ := h
    refine ⟨_, PSs.nox (pss_cons (ps_if (pt_cmpR op_ge (pe_ix ix_list (pv 0) pe_int (fun _ _ => rfl)) (pe_op op_pow pe_int pe_int) (nomark _)) (pss_cons (ps_set (i := 2) sc_l_draw.nd rfl (Or.inl rfl) (pe_op op_mod (pe_callTy call_int1 (by rfl) (g_int W) (by decide +kernel) (pa_cons (pe_ix ix_list (pv 0) pe_int (fun _ _ => rfl)) pa_nil)) (pv 1))) (pss_cons (ps_asg (pe_op op_fdivW (pe_ix ix_list (pv 0) pe_int (fun _ _ => rfl)) (pv 1)) (pg_sub (pv 0) pe_int set_list)) (pss_one (ps_ret (pv 2))))) pss_nil) (pss_cons (ps_asg (pe_op op_add (pe_ix ix_list (pv 0) pe_int (fun _ _ => rfl)) pe_int) (pg_sub (pv 0) pe_int set_list)) (pss_cons (ps_set (i := 3) sc_l_draw.nd rfl (Or.inl rfl) (pe_op op_mod (pe_callTy call_int1 (by rfl) (g_int W) (by decide +kernel) (pa_cons (pe_op op_mul (pe_op op_add (pe_op op_add (pe_op op_mod (pe_callTy call_int1 (by rfl) (g_int W) (by decide +kernel) (pa_cons (pe_ix ix_list (pv 0) pe_int (fun _ _ => rfl)) pa_nil)) pe_int) (pe_op op_mul pe_int (pe_ix ix_list (pv 0) pe_int (fun _ _ => rfl)))) pe_int) pe_int) pa_nil)) pe_int)) (pss_cons (ps_set (i := 4) sc_l_draw.nd rfl (Or.inl rfl) (pe_op op_mod (pe_callTy call_int1 (by rfl) (g_int W) (by decide +kernel) (pa_cons (pe_op op_fdivW (pe_ix ix_list (pv 0) pe_int (fun _ _ => rfl)) pe_int) pa_nil)) pe_int)) (pss_cons (ps_set (i := 3) sc_l_draw.nd rfl (Or.inl rfl) (pe_op op_mod (pe_callTy call_int1 (by rfl) (g_int W) (by decide +kernel) (pa_cons (pe_op op_mul (pv 3) (pe_op op_add (pe_op op_add (pe_op op_fdivW (pv 3) pe_int) pe_int) (pv 4))) pa_nil)) pe_int)) (pss_one (ps_ret (pe_op op_mod (pe_callTy call_int1 (by rfl) (g_int W) (by decide +kernel) (pa_cons (pe_op op_fdivW (pe_op op_mod (pe_callTy call_int1 (by rfl) (g_int W) (by decide +kernel) (pa_cons (pe_op op_mul (pv 3) (pe_op op_add (pe_op op_fdivW (pv 3) pe_int) pe_int)) pa_nil)) pe_int) pe_int) pa_nil)) (pv 1))))))))), ?_⟩
    obtain ⟨a, b, e⟩ := hw
    refine ⟨.ref p, rfl, p, _, 0, .int a, rfl, rfl, SqL.of e, rfl, 10, 18, rfl, rfl, ⟨by decide, by decide, by decide⟩, a, _, rfl, rfl, _, rfl, ?_⟩
    refine ite_b (fun _ => ?_) (fun _ => ?_)
    · refine ⟨.ref p, rfl, p, _, 0, .int a, rfl, rfl, SqL.of e, rfl, .inl ⟨a, rfl, ?_⟩⟩
      refine ⟨.int m, rfl, a, m, rfl, rfl, h0, ?_⟩
      refine ⟨.ref p, rfl, p, _, 0, .int a, rfl, rfl, SqL.of e, rfl, .int m, rfl, a, m, rfl, rfl, div_ok h0 h1, ?_⟩
      refine ⟨.ref p, rfl, p, _, 0, 0, rfl, rfl, e, rfl, ?_⟩
      refine ⟨_, rfl, ?_⟩
      exact q _ _ (Int.emod_nonneg _ (by omega)) (Int.emod_lt_of_pos _ h0) well_set
    refine ⟨.ref p, rfl, p, _, 1, .int b, rfl, rfl, SqL.of e, rfl, b, 1, rfl, rfl, ?_⟩
    refine ⟨.ref p, rfl, p, _, 1, 1, rfl, rfl, e, rfl, ?_⟩
    have e1 : (upd H p (.lst ([V.int a, V.int b].set 1 (V.int (b + 1))))) p = some (.lst [.int a, .int (b + 1)]) := upd_same
    refine ⟨.ref p, rfl, p, _, 0, .int a, rfl, rfl, SqL.of e1, rfl, .inl ⟨a, rfl, ?_⟩⟩
    refine ⟨a, 2147483629, rfl, rfl, (by decide : (0 : Int) < 2147483629), ?_⟩
    refine ⟨.ref p, rfl, p, _, 1, .int (b + 1), rfl, rfl, SqL.of e1, rfl, 60013, b + 1, rfl, rfl, mul_ok (by decide) (by decide), ?_⟩
    refine ⟨_, _, rfl, rfl, ?_⟩
    refine ⟨_, _, rfl, rfl, ?_⟩
    refine ⟨_, _, rfl, rfl, mul_ok' (by decide) (by decide), .inl ⟨_, rfl, ?_⟩⟩
    refine ⟨_, _, rfl, rfl, (by decide : (0 : Int) < 2147483647), ?_⟩
    dsimp only
    generalize hn : ((a % 2147483629 + 60013 * (b + 1) + 11) * 48271) % 2147483647 = n
    have n0 : 0 ≤ n := by rw [← hn]; exact Int.emod_nonneg _ (by decide)
    have n1 : n < 2147483647 := by rw [← hn]; exact Int.emod_lt_of_pos _ (by decide)
    refine ⟨.ref p, rfl, p, _, 0, .int a, rfl, rfl, SqL.of e1, rfl, a, 2147483629, rfl, rfl, div_ok (by decide) (by decide), .inl ⟨_, rfl, ?_⟩⟩
    refine ⟨_, 9973, rfl, rfl, (by decide : (0 : Int) < 9973), ?_⟩
    refine ⟨.int n, rfl, .int n, rfl, n, 1013, rfl, rfl, div_ok (by decide) (by decide), ?_⟩
    refine ⟨_, _, rfl, rfl, ?_⟩
    refine ⟨_, rfl, ?_⟩
    refine ⟨_, _, rfl, rfl, ?_⟩
    refine ⟨n, _, rfl, rfl, mul_ok n0 (by omega), .inl ⟨_, rfl, ?_⟩⟩
    refine ⟨_, _, rfl, rfl, (by decide : (0 : Int) < 2147483587), ?_⟩
    dsimp only
    generalize hk : (n * (n / 1013 + 40692 + a / 2147483629 % 9973)) % 2147483587 = k
    have k0 : 0 ≤ k := by rw [← hk]; exact Int.emod_nonneg _ (by decide)
    have k1 : k < 2147483587 := by rw [← hk]; exact Int.emod_lt_of_pos _ (by decide)
    refine ⟨.int k, rfl, .int k, rfl, k, 2003, rfl, rfl, div_ok (by decide) (by decide), ?_⟩
    refine ⟨_, _, rfl, rfl, ?_⟩
    refine ⟨k, _, rfl, rfl, mul_ok k0 (by omega), .inl ⟨_, rfl, ?_⟩⟩
    refine ⟨_, _, rfl, rfl, (by decide : (0 : Int) < 2147483563), ?_⟩
    refine ⟨_, 5, rfl, rfl, div_ok (by decide) (by decide), .inl ⟨_, rfl, ?_⟩⟩
    refine ⟨.int m, rfl, _, m, rfl, rfl, h0, ?_⟩
    exact q _ _ (Int.emod_nonneg _ (by omega)) (Int.emod_lt_of_pos _ h0) well_set
def sp_one : Sp := fun vs H Q _ => ∃ (p a : Addr) (xs : List V), vs = [.ref p, .ref a] ∧ Well H p ∧ a ≠ p ∧ H a = some (.lst xs) ∧ 0 < xs.length ∧ xs.length ≤ 100000 ∧ ∀ (i : Nat) x H', xs[i]? = some x → Drawn p H H' → Q x H'
theorem ok_l_one {P : Program} {w : World} {K : PySem.W.Frag} {mg : Str → Option Value} {base : Heap} (W : Wd K mg) : FOk P w K mg base CX0 2 "_law_one" ["_law_well_here", "_law_some"] (sp_one) :=
  fok (F_l_one W) (g_l_one W) (fun _ _ _ _ _ _ us hl => match us, hl with | [_, _], _ => rfl) fun fd F => by
  refine F.ok sc_l_one (fun vs H Q E h => ?_) (fun cdv A outer s H vs Q E hr h => ?_)
  · obtain ⟨p, a, xs, rfl, _⟩ := h
    rfl
  · obtain ⟨p, a, xs, rfl, hw, ne, e, h0, h1, q⟩ := h
    refine ⟨_, PSs.nox (pss_one (ps_ret (pe_ix ix_list (pv 1) (pe_cl (ok_l_draw W) (hr.mono (by decide)) (by rfl) pass0 (pa_cons (pv 0) (pa_cons (pe_callB call_len (by rfl) (g_len W) (by decide +kernel) (pa_cons (pv 1) pa_nil)) pa_nil))) (fun _ _ => rfl)))), ?_⟩
    refine ⟨.ref a, rfl, .ref p, rfl, .ref a, rfl, .ref a, xs.length, rfl, .inl ⟨xs, SqL.of e, rfl⟩, ?_⟩
    refine ⟨p, _, rfl, hw, by omega, by omega, fun d H' d0 d1 D => ?_⟩
    obtain ⟨i, rfl⟩ : ∃ i : Nat, d = (i : Int) := ⟨d.toNat, by omega⟩
    have hi : i < xs.length := by omega
    have g : xs[i]? = some xs[i] := List.getElem?_eq_getElem hi
    exact ⟨a, xs, (i : Int), xs[i], rfl, rfl, SqL.of (D.b a _ e ne), atI_nat g, q i _ _ g D⟩
def sp_line : Sp := fun vs H Q _ => ∃ (p : Addr) (near : Int), vs = [.ref p, .int near] ∧ Well H p ∧ ∀ l H', 1 ≤ l → l ≤ 2147483647 → Drawn p H H' → Q (.int l) H'
theorem clamp {x : Int} : 1 ≤ (if (if x > 1 then x else 1) < 2147483647 then (if x > 1 then x else 1) else 2147483647) ∧ (if (if x > 1 then x else 1) < 2147483647 then (if x > 1 then x else 1) else 2147483647) ≤ 2147483647 := by
  split <;> split <;> constructor <;> omega
theorem ok_l_line {P : Program} {w : World} {K : PySem.W.Frag} {mg : Str → Option Value} {base : Heap} (W : Wd K mg) : FOk P w K mg base CX0 3 "_law_line" ["_law_well_here", "_law_near"] (sp_line) :=
  fok (F_l_line W) (g_l_line W) (fun _ _ _ _ _ _ us hl => match us, hl with | [_, _], _ => rfl) fun fd F => by
  refine F.ok sc_l_line (fun vs H Q E h => ?_) (fun cdv A outer s H vs Q E hr h => ?_)
  · obtain ⟨p, near, rfl, _⟩ := h
    rfl
  · obtain ⟨p, near, rfl, hw, q⟩ := h
    refine ⟨_, PSs.nox (pss_cons (ps_set (i := 2) sc_l_line.nd rfl (Or.inl rfl) (pe_cl (ok_l_draw W) (hr.mono (by decide)) (by rfl) pass0 (pa_cons (pv 0) (pa_cons pe_int pa_nil)))) (pss_cons (ps_if (pt_cmpR op_lt (pv 2) pe_int (nomark _)) (pss_one (ps_ret (pe_callB (call_min2 rfl) (by rfl) (g_min W) (by decide +kernel) (pa_cons pe_int (pa_cons (pe_callB (call_max2 rfl) (by rfl) (g_max W) (by decide +kernel) (pa_cons pe_int (pa_cons (pe_op op_sub (pe_op op_sub (pe_op op_add (pv 1) (pv 2)) pe_int) (pe_op op_mul pe_int (pe_cl (ok_l_draw W) (hr.mono (by decide)) (by rfl) pass0 (pa_cons (pv 0) (pa_cons pe_int pa_nil))))) pa_nil))) pa_nil))))) pss_nil) (pss_one (ps_ret (pe_cl (ok_l_one W) (hr.mono (by decide)) (by rfl) pass0 (pa_cons (pv 0) (pa_cons (pe_lst (pa_cons pe_int (pa_cons pe_int (pa_cons (pe_op op_add pe_int (pe_cl (ok_l_draw W) (hr.mono (by decide)) (by rfl) pass0 (pa_cons (pv 0) (pa_cons pe_int pa_nil)))) (pa_cons (pe_op op_add pe_int (pe_cl (ok_l_draw W) (hr.mono (by decide)) (by rfl) pass0 (pa_cons (pv 0) (pa_cons pe_int pa_nil)))) pa_nil))))) pa_nil))))))), ?_⟩
    refine ⟨.ref p, rfl, p, 8, rfl, hw, by decide, by decide, fun d H1 d0 d1 D => ?_⟩
    refine ⟨.int d, rfl, d, 5, rfl, rfl, _, rfl, ?_⟩
    refine ite_b (fun _ => ?_) (fun _ => ?_)
    · refine ⟨.int near, rfl, .int d, rfl, near, d, rfl, rfl, _, 1, rfl, rfl, .ref p, rfl, p, 2, rfl, D.w, by decide, by decide, fun d2 H2 a0 a1 D2 => ?_⟩
      refine ⟨2, d2, rfl, rfl, mul_ok (by decide) (by decide), _, _, rfl, rfl, 1, _, rfl, _, _, rfl, ?_⟩
      exact q _ _ clamp.1 clamp.2 (D.trans D2)
    refine ⟨.ref p, rfl, .ref p, rfl, p, 200, rfl, D.w, by decide, by decide, fun d2 H2 a0 a1 D2 => ⟨1, d2, rfl, rfl, .ref p, rfl, p, 2147483647, rfl, D2.w, by decide, by decide, fun d3 H3 b0 b1 D3 => ⟨1, d3, rfl, rfl, by show 4 ≤ sizeLine; decide, fun a na => ?_⟩⟩⟩
    refine ⟨p, a, _, rfl, D3.w.new na, D3.w.ne na, upd_same, by simp, by simp, fun i x H4 gi D4 => ?_⟩
    have D' := ((D.trans D2).trans D3).tn na D4
    have hx := get_mem gi
    simp only [List.mem_cons, List.not_mem_nil, or_false] at hx
    rcases hx with rfl | rfl | rfl | rfl
    · exact q _ _ (by omega) (by omega) D'
    · exact q _ _ (by omega) (by omega) D'
    · exact q _ _ (by omega) (by omega) D'
    · exact q _ _ (by omega) (by omega) D'
def sp_column : Sp := fun vs H Q _ => ∃ (p : Addr), vs = [.ref p] ∧ Well H p ∧ ∀ c H', 0 ≤ c → c ≤ 2147483647 → Drawn p H H' → Q (.int c) H'
theorem ok_l_column {P : Program} {w : World} {K : PySem.W.Frag} {mg : Str → Option Value} {base : Heap} (W : Wd K mg) : FOk P w K mg base CX0 3 "_law_column" ["_law_well_here"] (sp_column) :=
  fok (F_l_column W) (g_l_column W) (fun _ _ _ _ _ _ us hl => match us, hl with | [_], _ => rfl) fun fd F => by
  refine F.ok sc_l_column (fun vs H Q E h => ?_) (fun cdv A outer s H vs Q E hr h => ?_)
  · obtain ⟨p, rfl, _⟩ := h
    rfl
  · obtain ⟨p, rfl, hw, q⟩ := h
    refine ⟨_, PSs.nox (pss_cons (ps_set (i := 1) sc_l_column.nd rfl (Or.inl rfl) (pe_lst (pa_cons (pe_cl (ok_l_draw W) (hr.mono (by decide)) (by rfl) pass0 (pa_cons (pv 0) (pa_cons pe_int pa_nil))) (pa_cons (pe_cl (ok_l_draw W) (hr.mono (by decide)) (by rfl) pass0 (pa_cons (pv 0) (pa_cons pe_int pa_nil))) (pa_cons (pe_cl (ok_l_draw W) (hr.mono (by decide)) (by rfl) pass0 (pa_cons (pv 0) (pa_cons pe_int pa_nil))) pa_nil))))) (pss_one (ps_ret (pe_cl (ok_l_one W) (hr.mono (by decide)) (by rfl) pass0 (pa_cons (pv 0) (pa_cons (pe_op op_cat (pv 1) (pe_lst (pa_cons (pe_op op_sub pe_int (pe_cl (ok_l_draw W) (hr.mono (by decide)) (by rfl) pass0 (pa_cons (pv 0) (pa_cons pe_int pa_nil)))) pa_nil))) pa_nil)))))), ?_⟩
    refine ⟨.ref p, rfl, p, 12, rfl, hw, by decide, by decide, fun d1 H1 a0 a1 D1 => ⟨.ref p, rfl, p, 82, rfl, D1.w, by decide, by decide, fun d2 H2 b0 b1 D2 => ⟨.ref p, rfl, p, 131, rfl, D2.w, by decide, by decide, fun d3 H3 c0 c1 D3 => ⟨by show 3 ≤ sizeLine; decide, fun l nl => ?_⟩⟩⟩⟩
    have W3 := D3.w.new (o := .lst [.int d1, .int d2, .int d3]) nl
    refine ⟨.ref p, rfl, .ref l, rfl, .ref p, rfl, p, 9, rfl, W3, by decide, by decide, fun d4 H4 e0 e1 D4 => ?_⟩
    refine ⟨_, d4, rfl, rfl, by show 1 ≤ sizeLine; decide, fun b nb => ?_⟩
    have hl : H4 l = some (.lst [.int d1, .int d2, .int d3]) := D4.at upd_same (D3.w.ne nl)
    refine ⟨l, b, _, _, rfl, rfl, (by rw [upd_ne (ne_of_none hl nb)]; exact hl), upd_same, by show 4 ≤ sizeLine; decide, fun c nc => ?_⟩
    refine ⟨p, c, _, rfl, (D4.w.new nb).new nc, (D4.w.new nb).ne nc, upd_same, by simp, by simp, fun i x H5 gi D5 => ?_⟩
    have D' := ((((D1.trans D2).trans D3).tn nl D4).new nb).tn nc D5
    have hx := get_mem gi
    simp only [List.cons_append, List.nil_append, List.mem_cons, List.not_mem_nil, or_false] at hx
    rcases hx with rfl | rfl | rfl | rfl
    · exact q _ _ (by omega) (by omega) D'
    · exact q _ _ (by omega) (by omega) D'
    · exact q _ _ (by omega) (by omega) D'
    · exact q _ _ (by omega) (by omega) D'
def sp_span : Sp := fun vs H Q _ => ∃ (p : Addr) (near : Int), vs = [.ref p, .int near] ∧ Well H p ∧ ∀ v s H', Drawn p H H' → SpV H' v s → SpanOk s → Q v H'
theorem min_ok {x : Int} : (if x < 2147483647 then x else 2147483647) ≤ 2147483647 := by
  split <;> omega
theorem ok_l_span {P : Program} {w : World} {K : PySem.W.Frag} {mg : Str → Option Value} {base : Heap} (W : Wd K mg) : FOk P w K mg base CX0 4 "_law_span" ["_law_well_here", "_law_near"] (sp_span) :=
  fok (F_l_span W) (g_l_span W) (fun _ _ _ _ _ _ us hl => match us, hl with | [_, _], _ => rfl) fun fd F => by
  refine F.ok sc_l_span (fun vs H Q E h => ?_) (fun cdv A outer s H vs Q E hr h => ?_)
  · obtain ⟨p, near, rfl, _⟩ := h
    rfl
  · obtain ⟨p, near, rfl, hw, q⟩ := h
    refine ⟨_, PSs.nox (pss_cons (ps_set (i := 2) sc_l_span.nd rfl (Or.inl rfl) (pe_cl (ok_l_draw W) (hr.mono (by decide)) (by rfl) pass0 (pa_cons (pv 0) (pa_cons pe_int pa_nil)))) (pss_cons (ps_if (pt_cmpR op_eq (pv 2) pe_int (nomark _)) (pss_one (ps_ret pe_non)) pss_nil) (pss_cons (ps_set (i := 3) sc_l_span.nd rfl (Or.inl rfl) (pe_cl (ok_l_line W) (hr.mono (by decide)) (by rfl) pass0 (pa_cons (pv 0) (pa_cons (pv 1) pa_nil)))) (pss_cons (ps_if (pt_cmpR op_eq (pv 2) pe_int (nomark _)) (pss_one (ps_ret (pe_tup (pa_cons (pv 3) (pa_cons (pv 3) (pa_cons pe_non (pa_cons pe_non pa_nil))))))) pss_nil) (pss_cons (ps_set (i := 4) sc_l_span.nd rfl (Or.inl rfl) (pe_cl (ok_l_column W) (hr.mono (by decide)) (by rfl) pass0 (pa_cons (pv 0) pa_nil))) (pss_cons (ps_set (i := 5) sc_l_span.nd rfl (Or.inl rfl) (pe_cl (ok_l_draw W) (hr.mono (by decide)) (by rfl) pass0 (pa_cons (pv 0) (pa_cons (pe_cl (ok_l_one W) (hr.mono (by decide)) (by rfl) pass0 (pa_cons (pv 0) (pa_cons (pe_lst (pa_cons pe_int (pa_cons pe_int (pa_cons pe_int (pa_cons (pe_op op_pow pe_int pe_int) pa_nil))))) pa_nil))) pa_nil)))) (pss_cons (ps_set (i := 6) sc_l_span.nd rfl (Or.inl rfl) (pv 3)) (pss_mid (ps_if (pt_cmpR op_gt (pv 2) pe_int (nomark _)) (pss_one (ps_set (i := 6) sc_l_span.nd rfl (Or.inl rfl) (pe_callB (call_min2 rfl) (by rfl) (g_min W) (by decide +kernel) (pa_cons pe_int (pa_cons (pe_op op_add (pv 3) (pe_cl (ok_l_one W) (hr.mono (by decide)) (by rfl) pass0 (pa_cons (pv 0) (pa_cons (pe_lst (pa_cons pe_int (pa_cons (pe_cl (ok_l_draw W) (hr.mono (by decide)) (by rfl) pass0 (pa_cons (pv 0) (pa_cons pe_int pa_nil))) (pa_cons (pe_cl (ok_l_draw W) (hr.mono (by decide)) (by rfl) pass0 (pa_cons (pv 0) (pa_cons (pe_op op_pow pe_int pe_int) pa_nil))) pa_nil)))) pa_nil)))) pa_nil))))) pss_nil) (pss_cons (ps_if (pt_cmpR op_gt (pv 6) (pv 3) (nomark _)) (pss_one (ps_ret (pe_tup (pa_cons (pv 3) (pa_cons (pv 6) (pa_cons (pv 4) (pa_cons (pe_cl (ok_l_column W) (hr.mono (by decide)) (by rfl) pass0 (pa_cons (pv 0) pa_nil)) pa_nil))))))) pss_nil) (pss_one (ps_ret (pe_tup (pa_cons (pv 3) (pa_cons (pv 3) (pa_cons (pv 4) (pa_cons (pe_callB (call_min2 rfl) (by rfl) (g_min W) (by decide +kernel) (pa_cons pe_int (pa_cons (pe_op op_add (pv 4) (pv 5)) pa_nil))) pa_nil)))))))))))))))), ?_⟩
    refine ⟨.ref p, rfl, p, 8, rfl, hw, by decide, by decide, fun d H1 d0 d1 D => ?_⟩
    refine ⟨.int d, rfl, rfl, _, rfl, ?_⟩
    refine ite_b (fun _ => ?_) (fun _ => ?_)
    · exact q .non none _ D rfl trivial
    refine ⟨.ref p, rfl, .int near, rfl, p, near, rfl, D.w, fun l H2 l1 lM D2 => ?_⟩
    refine ⟨.int d, rfl, rfl, _, rfl, ?_⟩
    refine ite_b (fun _ => ?_) (fun _ => ?_)
    · refine ⟨.int l, rfl, .int l, rfl, by show 4 ≤ sizeLine; decide, fun a na => ?_⟩
      exact q (.ref a) (some ⟨l, l, none, none⟩) _ ((D.trans D2).new na) ⟨a, rfl, upd_same⟩ ⟨l1, Int.le_refl _, lM, .inl ⟨rfl, rfl, rfl⟩⟩
    refine ⟨.ref p, rfl, p, rfl, D2.w, fun c H3 c0 cM D3 => ?_⟩
    refine ⟨.ref p, rfl, .ref p, rfl, 10, 6, rfl, rfl, ⟨by decide, by decide, by decide⟩, by show 4 ≤ sizeLine; decide, fun b nb => ?_⟩
    refine ⟨p, b, _, rfl, D3.w.new nb, D3.w.ne nb, upd_same, by simp, by simp, fun i x H4 gi D4 => ?_⟩
    obtain ⟨m, rfl, m0, mM⟩ : ∃ m : Int, x = .int m ∧ 0 < m ∧ m < 2 ^ 200 := by
      have hx := get_mem gi
      simp only [List.mem_cons, List.not_mem_nil, or_false] at hx
      rcases hx with rfl | rfl | rfl | rfl
      · exact ⟨_, rfl, by decide, by decide⟩
      · exact ⟨_, rfl, by decide, by decide⟩
      · exact ⟨_, rfl, by decide, by decide⟩
      · exact ⟨_, rfl, by decide, by decide⟩
    have E4 := ((D.trans D2).trans D3).tn nb D4
    refine ⟨p, m, rfl, D4.w, m0, mM, fun wd H5 w0 w1 D5 => ?_⟩
    have E5 := E4.trans D5
    refine ⟨.int l, rfl, ?_⟩
    refine ⟨fun σ H6 => ∃ e : Int, σ = [some (.ref p), some (.int near), some (.int d), some (.int l), some (.int c), some (.int wd), some (.int e)] ∧ l ≤ e ∧ e ≤ 2147483647 ∧ Drawn p H H6, ?_, ?_⟩
    · refine ⟨.int d, rfl, d, 5, rfl, rfl, _, rfl, ?_⟩
      refine ite_b (fun _ => ?_) (fun _ => ?_)
      · refine ⟨.int l, rfl, .ref p, rfl, .ref p, rfl, p, 70, rfl, D5.w, by decide, by decide, fun d6 H6 a0 a1 D6 => ⟨.ref p, rfl, 10, 6, rfl, rfl, ⟨by decide, by decide, by decide⟩, p, _, rfl, D6.w, by decide, by decide, fun d7 H7 b0 b1 D7 => ⟨by show 3 ≤ sizeLine; decide, fun u nu => ?_⟩⟩⟩
        refine ⟨p, u, _, rfl, D7.w.new nu, D7.w.ne nu, upd_same, by simp, by simp, fun j y H8 gj D8 => ?_⟩
        obtain ⟨z, rfl, z0⟩ : ∃ z : Int, y = .int z ∧ 0 ≤ z := by
          have hx := get_mem gj
          simp only [List.mem_cons, List.not_mem_nil, or_false] at hx
          rcases hx with rfl | rfl | rfl
          · exact ⟨_, rfl, by decide⟩
          · exact ⟨_, rfl, a0⟩
          · exact ⟨_, rfl, b0⟩
        refine ⟨l, z, rfl, rfl, _, _, rfl, ?_⟩
        refine ⟨_, rfl, ?_, min_ok, ((E5.trans D6).trans D7).tn nu D8⟩
        split <;> omega
      · exact ⟨l, rfl, Int.le_refl _, lM, E5⟩
    · rintro σ H6 ⟨e, rfl, le, eM, E6⟩
      refine ⟨.int e, rfl, .int l, rfl, e, l, rfl, rfl, _, rfl, ?_⟩
      refine ite_b (fun hlt => ?_) (fun hlt => ?_)
      · refine ⟨.int l, rfl, .int e, rfl, .int c, rfl, .ref p, rfl, p, rfl, E6.w, fun c2 H7 u0 uM D7 => ⟨by show 4 ≤ sizeLine; decide, fun a na => ?_⟩⟩
        exact q (.ref a) (some ⟨l, e, some c, some c2⟩) _ ((E6.trans D7).new na) ⟨a, rfl, upd_same⟩ ⟨l1, le, eM, .inr ⟨c, c2, rfl, rfl, c0, cM, u0, uM, fun z => absurd hlt (by have z' : e = l := z; omega)⟩⟩
      · refine ⟨.int l, rfl, .int l, rfl, .int c, rfl, .int c, rfl, .int wd, rfl, c, wd, rfl, rfl, _, _, rfl, by show 4 ≤ sizeLine; decide, fun a na => ?_⟩
        refine q (.ref a) (some ⟨l, l, some c, some _⟩) _ (E6.new na) ⟨a, rfl, upd_same⟩ ⟨l1, Int.le_refl _, lM, .inr ⟨c, _, rfl, rfl, c0, cM, ?_, min_ok, fun _ => ?_⟩⟩
        · split <;> omega
        · split <;> omega
def sp_whole : Sp := fun vs H Q _ => ∃ (v : V) (n : String) (lo : Int), vs = [v, .int lo] ∧ VT H v n ∧ Q (.bl (inR v lo 2147483647)) H
theorem ok_l_whole {P : Program} {w : World} {K : PySem.W.Frag} {mg : Str → Option Value} {base : Heap} (W : Wd K mg) : FOk P w K mg base CX0 1 "_law_whole" ["_law_thing", "_law_low"] (sp_whole) :=
  fok (F_l_whole W) (g_l_whole W) (fun _ _ _ _ _ _ us hl => match us, hl with | [_, _], _ => rfl) fun fd F => by
  refine F.ok sc_l_whole (fun vs H Q E h => ?_) (fun cdv A outer s H vs Q E hr h => ?_)
  · obtain ⟨v, n, lo, rfl, _⟩ := h
    rfl
  · obtain ⟨v, n, lo, rfl, hv, q⟩ := h
    refine ⟨_, PSs.nox (pss_one (ps_ret (pe_and (pe_callB call_isi (by rfl) (g_isinstance W) (by decide +kernel) (pa_cons (pv 0) (pa_cons (pe_bltn (v := .ty "int") rfl (g_int W) (by decide +kernel) rfl) pa_nil))) (pe_and (pe_not (pe_callB call_isi (by rfl) (g_isinstance W) (by decide +kernel) (pa_cons (pv 0) (pa_cons (pe_bltn (v := .ty "bool") rfl (g_bool W) (by decide +kernel) rfl) pa_nil)))) (pe_one (pe_chain op_le op_le (pv 1) (pv 0) pe_int)))))), ?_⟩
    refine ⟨v, rfl, v, _, _, _, _, rfl, .ty _, hv.tyx, kit_ty (hv.kit (.inl rfl)), _, rfl, ?_⟩
    cases hi : isiB n "int" with
    | false =>
      refine iteF ?_
      have e : inR v lo 2147483647 = false := by
        cases hv <;> first | rfl | exact absurd hi (by decide)
      rw [e] at q
      exact q
    | true =>
      refine iteT ?_
      refine ⟨v, rfl, v, _, _, _, _, rfl, .ty _, hv.tyx, kit_ty (hv.kit (.inr (.inl rfl))), _, rfl, _, rfl, ?_⟩
      cases hb : isiB n "bool" with
      | true =>
        refine iteF ?_
        have e : inR v lo 2147483647 = false := by
          cases hv <;> first | rfl | exact absurd hb (by decide)
        rw [e] at q
        exact q
      | false =>
        refine iteT ?_
        have hn : n = "int" := by
          cases hv <;> first | rfl | exact absurd hi (by decide) | exact absurd hb (by decide)
        obtain ⟨i, rfl⟩ := hv.int_of hn
        refine ⟨_, rfl, _, rfl, lo, i, rfl, rfl, _, rfl, ?_⟩
        refine ite_b (fun h1 => ?_) (fun h1 => ?_)
        · refine ⟨i, 2147483647, rfl, rfl, ?_⟩
          have e : inR (.int i) lo 2147483647 = decide (i ≤ 2147483647) := by
            show (decide (lo ≤ i) && decide (i ≤ 2147483647)) = _
            rw [decide_eq_true h1, Bool.true_and]
          rw [e] at q
          exact q
        · have e : inR (.int i) lo 2147483647 = false := by
            show (decide (lo ≤ i) && decide (i ≤ 2147483647)) = _
            rw [decide_eq_false h1, Bool.false_and]
          rw [e] at q
          exact q
def sp_lis : Sp := fun vs H Q _ => ∃ (a : Addr) (l e c d : V), vs = [.ref a] ∧ H a = some (.lst [l, e, c, d]) ∧ (∀ x ∈ [l, e, c, d], ∃ m, VT H x m) ∧ Q (.bl (span4 l e c d)) H
theorem ok_l_is_span {P : Program} {w : World} {K : PySem.W.Frag} {mg : Str → Option Value} {base : Heap} (W : Wd K mg) : FOk P w K mg base CX0 2 "_law_is_span" ["_law_parts"] (sp_lis) :=
  fok (F_l_is_span W) (g_l_is_span W) (fun _ _ _ _ _ _ us hl => match us, hl with | [_], _ => rfl) fun fd F => by
  refine F.ok sc_l_is_span (fun vs H Q E h => ?_) (fun cdv A outer s H vs Q E hr h => ?_)
  · obtain ⟨a, l, e, c, d, rfl, _⟩ := h
    rfl
  · obtain ⟨a, l, e, c, d, rfl, hx, ht, q⟩ := h
    refine ⟨_, PSs.nox (pss_cons (ps_asg (pv 0) (pg_unl rfl (pgs_cons (pg_name (i := 1) sc_l_is_span.nd rfl (Or.inl rfl)) (pgs_cons (pg_name (i := 2) sc_l_is_span.nd rfl (Or.inl rfl)) (pgs_cons (pg_name (i := 3) sc_l_is_span.nd rfl (Or.inl rfl)) (pgs_cons (pg_name (i := 4) sc_l_is_span.nd rfl (Or.inl rfl)) pgs_nil)))))) (pss_cons (ps_if (PW.pt (pw_or (pt_not (pt_val (pe_cl (ok_l_whole W) (hr.mono (by decide)) (by rfl) pass0 (pa_cons (pv 1) (pa_cons pe_int pa_nil))))) (pw_or (pt_not (pt_val (pe_cl (ok_l_whole W) (hr.mono (by decide)) (by rfl) pass0 (pa_cons (pv 2) (pa_cons pe_int pa_nil))))) (pw_or1 (pt_cmpR op_lt (pv 2) (pv 1) (nomark _)))))) (pss_one (ps_ret pe_bl)) pss_nil) (pss_cons (ps_if (PW.pt (pw_and (pt_cmpR op_isN (pv 3) pe_non (nomark _)) (pw_and1 (pt_cmpR op_isN (pv 4) pe_non (nomark _))))) (pss_one (ps_ret (pe_cmpR op_eq (pv 1) (pv 2) (nomark _)))) pss_nil) (pss_cons (ps_if (PW.pt (pw_or (pt_not (pt_val (pe_cl (ok_l_whole W) (hr.mono (by decide)) (by rfl) pass0 (pa_cons (pv 3) (pa_cons pe_int pa_nil))))) (pw_or1 (pt_not (pt_val (pe_cl (ok_l_whole W) (hr.mono (by decide)) (by rfl) pass0 (pa_cons (pv 4) (pa_cons pe_int pa_nil)))))))) (pss_one (ps_ret pe_bl)) pss_nil) (pss_one (ps_ret (pe_or (pe_cmpR op_gt (pv 2) (pv 1) (nomark _)) (pe_one (pe_cmpR op_le (pv 3) (pv 4) (nomark _)))))))))), ?_⟩
    obtain ⟨nl, tl⟩ := ht l (by simp)
    obtain ⟨ne, te⟩ := ht e (by simp)
    obtain ⟨nc, tc⟩ := ht c (by simp)
    obtain ⟨nd, td⟩ := ht d (by simp)
    refine ⟨.ref a, rfl, a, [l, e, c, d], rfl, SqL.of hx, rfl, l, _, rfl, e, _, rfl, c, _, rfl, d, _, rfl, rfl, ?_⟩
    refine ⟨l, rfl, l, nl, 1, rfl, tl, _, rfl, ?_⟩
    unfold span4 at q
    cases h1 : inR l 1 2147483647 with
    | false =>
      refine iteT ?_
      refine iteT ?_
      rw [h1, Bool.false_and, if_neg Bool.false_ne_true] at q
      exact q
    | true =>
    refine iteF ?_
    obtain ⟨li, rfl, l1, l2⟩ := inR_int h1
    rw [h1, Bool.true_and] at q
    refine ⟨e, rfl, e, ne, 1, rfl, te, _, rfl, ?_⟩
    cases h2 : inR e 1 2147483647 with
    | false =>
      refine iteT ?_
      refine iteT ?_
      have z : inR e (iv (.int li)) 2147483647 = false := by
        cases e with
        | int i =>
          have h3 : (decide (1 ≤ i) && decide (i ≤ 2147483647)) = false := h2
          show (decide (li ≤ i) && decide (i ≤ 2147483647)) = false
          rw [Bool.and_eq_false_iff, decide_eq_false_iff_not, decide_eq_false_iff_not] at h3 ⊢
          omega
        | _ => rfl
      rw [z, if_neg Bool.false_ne_true] at q
      exact q
    | true =>
    refine iteF ?_
    obtain ⟨ei, rfl, e1, e2⟩ := inR_int h2
    refine ⟨_, rfl, _, rfl, ei, li, rfl, rfl, _, rfl, ?_⟩
    have z : inR (.int ei) (iv (.int li)) 2147483647 = decide (li ≤ ei) := by
      show (decide (li ≤ ei) && decide (ei ≤ 2147483647)) = _
      rw [decide_eq_true e2, Bool.and_true]
    rw [z] at q
    refine ite_b (fun h3 => ?_) (fun h3 => ?_)
    · rw [decide_eq_false (by omega : ¬ li ≤ ei), if_neg Bool.false_ne_true] at q
      exact q
    rw [decide_eq_true (by omega : li ≤ ei), if_pos rfl] at q
    refine ⟨c, rfl, rfl, _, rfl, ?_⟩
    by_cases hc : c = .non
    · refine ite_b (fun _ => ?_) (fun z => absurd hc z)
      refine ⟨d, rfl, rfl, _, rfl, ?_⟩
      by_cases hd : d = .non
      · refine ite_b (fun _ => ?_) (fun z => absurd hd z)
        refine ⟨_, rfl, _, rfl, rfl, ?_⟩
        rw [if_pos ⟨hc, hd⟩] at q
        rw [dec_int, show (li == ei) = decide (iv (V.int ei) = iv (V.int li)) by
          show (li == ei) = decide (ei = li)
          by_cases z : li = ei
          · rw [z]; simp
          · rw [beq_false_of_ne z, decide_eq_false (fun y => z y.symm)]]
        exact q
      · refine ite_b (fun z => absurd z hd) (fun _ => ?_)
        rw [if_neg (fun z => hd z.2)] at q
        refine ⟨c, rfl, c, nc, 0, rfl, tc, _, rfl, ?_⟩
        subst hc
        refine iteT ?_
        refine iteT ?_
        exact q
    · refine ite_b (fun z => absurd z hc) (fun _ => ?_)
      refine iteF ?_
      rw [if_neg (fun z => hc z.1)] at q
      refine ⟨c, rfl, c, nc, 0, rfl, tc, _, rfl, ?_⟩
      cases h3 : inR c 0 2147483647 with
      | false =>
        refine iteT ?_
        refine iteT ?_
        rw [h3, Bool.false_and, if_neg Bool.false_ne_true] at q
        exact q
      | true =>
      refine iteF ?_
      rw [h3, Bool.true_and] at q
      obtain ⟨ci, rfl, c1, c2⟩ := inR_int h3
      refine ⟨d, rfl, d, nd, 0, rfl, td, _, rfl, ?_⟩
      cases h5 : inR d 0 2147483647 with
      | false =>
        refine iteT ?_
        rw [h5, if_neg Bool.false_ne_true] at q
        exact q
      | true =>
      refine iteF ?_
      rw [h5, if_pos rfl] at q
      obtain ⟨di, rfl, d1, d2⟩ := inR_int h5
      refine ⟨_, rfl, _, rfl, ei, li, rfl, rfl, _, rfl, ?_⟩
      refine ite_b (fun h6 => ?_) (fun h6 => ?_)
      · have z : (decide (iv (.int li) < iv (.int ei)) || decide (iv (.int ci) ≤ iv (.int di))) = true := by
          rw [show decide (iv (V.int li) < iv (V.int ei)) = true from decide_eq_true h6, Bool.true_or]
        rw [z] at q
        exact q
      · refine ⟨_, rfl, _, rfl, ci, di, rfl, rfl, ?_⟩
        have z : (decide (iv (.int li) < iv (.int ei)) || decide (iv (.int ci) ≤ iv (.int di))) = decide (ci ≤ di) := by
          rw [show decide (iv (V.int li) < iv (V.int ei)) = false from decide_eq_false h6, Bool.false_or]
          rfl
        rw [z] at q
        exact q
def sp_law (K : PySem.W.Frag) : Sp := fun vs H Q _ => ∃ (a : Addr) (ns : List Int), vs = [.ref a] ∧ SqL K H a (ns.map V.int) ∧ ns.length ≤ 63 ∧ ∀ H', Q (.bl true) H'
theorem new_ne {H : Hp} {a b : Addr} {o : HO} (e : H a = some o) (n : H b = none) : b ≠ a := (ne_of_none e n).symm
theorem ix4 {n : Nat} {d : Int} (h : n = 4) (h0 : 0 ≤ d) (h1 : d < 4) : ixN n d = some d.toNat := by
  unfold ixN
  rw [h, if_pos h0, if_pos (by omega)]
theorem four_vt {H : Hp} {y : V} (h : y = .non ∨ ∃ i, y = .int i) : ∃ m, VT H y m := by
  rcases h with rfl | ⟨i, rfl⟩
  · exact ⟨_, .non⟩
  · exact ⟨_, .int i⟩
theorem ov_four (o : Option Int) : ov o = .non ∨ ∃ i, ov o = .int i := by
  cases o with
  | none => exact .inl rfl
  | some i => exact .inr ⟨i, rfl⟩
theorem fn_law {P : Program} {w : World} {K : PySem.W.Frag} {mg : Str → Option Value} {base : Heap} (W : Wd K mg) {fd : FuncData} (F : FunD K "law" "law" (defArgs s_law) (defBody s_law) (defScope s_law) [] [] (He.ga K "law") fd) : FnOk P w K mg base CX0 5 (He.ga K "law") fd ["_law_script"] (sp_law K) := by
  refine F.ok sc_law (fun vs H Q E h => ?_) (fun cdv A outer s H vs Q E hr h => ?_)
  · obtain ⟨a, ns, rfl, _⟩ := h
    rfl
  · obtain ⟨a, ns, rfl, hS, hlen, k⟩ := h
    refine ⟨_, PSs.nox (pss_cons (ps_for PassesOwn.never rfl (pi_list (pe_op op_cat (pe_slice sl_list (pv 0) po_none (po_some pe_int)) (pe_lst (pa_cons pe_int pa_nil)))) (pg_name (i := 1) sc_law.nd rfl (Or.inl rfl)) (pss_cons (ps_set (i := 2) sc_law.nd rfl (Or.inl rfl) (pe_cl (ok_l_well W) (hr.mono (by decide)) (by rfl) pass0 (pa_cons (pv 1) pa_nil))) (pss_cons (ps_set (i := 3) sc_law.nd rfl (Or.inl rfl) (pe_cl (ok_l_span W) (hr.mono (by decide)) (by rfl) pass0 (pa_cons (pv 2) (pa_cons pe_int pa_nil)))) (pss_cons (ps_if (pt_cmpR op_notBl (pe_cl (ok_is_span W) (hr.mono (by decide)) (by rfl) pass0 (pa_cons (pv 3) pa_nil)) pe_bl (nomark _)) (pss_one (ps_ret pe_bl)) pss_nil) (pss_mid (ps_set (i := 4) sc_law.nd rfl (Or.inl rfl) (pe_callTy call_list_of (by rfl) (g_list W) (by decide +kernel) (pa_cons (pe_orT (pe_cl (ok_l_one W) (hr.mono (by decide)) (by rfl) pass0 (pa_cons (pv 2) (pa_cons (pe_lst (pa_cons (pv 3) (pa_cons (pe_tup (pa_cons pe_int (pa_cons pe_int (pa_cons pe_int (pa_cons pe_int pa_nil))))) (pa_cons (pe_tup (pa_cons pe_int (pa_cons pe_int (pa_cons pe_int (pa_cons pe_int pa_nil))))) (pa_cons (pe_tup (pa_cons pe_int (pa_cons pe_int (pa_cons pe_non (pa_cons pe_non pa_nil))))) pa_nil))))) pa_nil))) (pe_one (pe_tup (pa_cons pe_int (pa_cons pe_int (pa_cons pe_int (pa_cons pe_int pa_nil))))))) pa_nil))) (pss_cons (ps_set (i := 5) sc_law.nd rfl (Or.inl rfl) (pe_cl (ok_l_draw W) (hr.mono (by decide)) (by rfl) pass0 (pa_cons (pv 2) (pa_cons pe_int pa_nil)))) (pss_cons (ps_set (i := 6) sc_law.nd rfl (Or.inl rfl) (pe_cl (ok_l_one W) (hr.mono (by decide)) (by rfl) pass0 (pa_cons (pv 2) (pa_cons (pe_lst (pa_cons pe_non (pa_cons pe_bl (pa_cons pe_str (pa_cons (pe_un un_neg pe_int) (pa_cons pe_int (pa_cons pe_int (pa_cons (pe_ix ix_list (pv 4) pe_int (fun _ _ => rfl)) (pa_cons (pe_tup (pa_cons pe_int pa_nil)) (pa_cons (pe_lst pa_nil) (pa_cons (pe_op op_pow pe_int pe_int) pa_nil))))))))))) pa_nil)))) (pss_cons (ps_asg (pv 6) (pg_sub (pv 4) (pv 5) set_list)) (pss_cons (ps_if (pt_cmpR op_ne (pe_cl (ok_is_span W) (hr.mono (by decide)) (by rfl) pass0 (pa_cons (pe_callTy call_tuple_of (by rfl) (g_tuple W) (by decide +kernel) (pa_cons (pv 4) pa_nil)) pa_nil)) (pe_cl (ok_l_is_span W) (hr.mono (by decide)) (by rfl) pass0 (pa_cons (pv 4) pa_nil)) (nomark _)) (pss_one (ps_ret pe_bl)) pss_nil) (pss_cons (ps_set (i := 7) sc_law.nd rfl (Or.inl rfl) (pe_cl (ok_l_one W) (hr.mono (by decide)) (by rfl) pass0 (pa_cons (pv 2) (pa_cons (pe_lst (pa_cons (pv 4) (pa_cons (pe_tup pa_nil) (pa_cons (pe_tup (pa_cons pe_int (pa_cons pe_int pa_nil))) (pa_cons (pe_tup (pa_cons pe_int (pa_cons pe_int (pa_cons pe_int (pa_cons pe_int (pa_cons pe_int pa_nil)))))) (pa_cons pe_str (pa_cons pe_int (pa_cons pe_bl (pa_cons pe_dnewK (pa_cons (pe_lst (pa_cons pe_int (pa_cons pe_int (pa_cons pe_int (pa_cons pe_int pa_nil))))) pa_nil)))))))))) pa_nil)))) (pss_one (ps_if (pt_cmpR op_notBl (pe_cl (ok_is_span W) (hr.mono (by decide)) (by rfl) pass0 (pa_cons (pv 7) pa_nil)) pe_bl (nomark _)) (pss_one (ps_ret pe_bl)) pss_nil)))))))))))) (pss_one (ps_ret pe_bl))), ?_⟩
    refine ⟨.ref a, rfl, 10, rfl, a, _, rfl, hS, fun p1 n1 => ?_⟩
    refine ⟨by show 1 ≤ sizeLine; decide, fun p2 n2 => ?_⟩
    refine ⟨p1, p2, _, _, rfl, rfl, up upd_same n2, upd_same, ?_, fun p3 n3 => ?_⟩
    · have h1 : (cutV (ns.map V.int) none (some 10)).length ≤ 63 := Nat.le_trans cut_len (by rw [List.length_map]; exact hlen)
      show _ + 1 ≤ sizeLine
      rw [sizeLine_eq]
      omega
    refine ⟨p3, rfl, ⟨_, SqL.of upd_same⟩, for_list (K := K) (a := p3) (xs := cutV (ns.map V.int) none (some 10) ++ [V.int 0]) (fun i σ H2 => ∃ x1 x2 x3 x4 x5 x6 x7, σ = [some (.ref a), x1, x2, x3, x4, x5, x6, x7] ∧ H2 p3 = some (.lst (cutV (ns.map V.int) none (some 10) ++ [V.int 0])))
      ⟨_, _, _, _, _, _, _, rfl, upd_same⟩ (fun i σ H2 _ hP => by obtain ⟨_, _, _, _, _, _, _, _, e⟩ := hP; exact SqL.of e) ?_ ?_⟩
    · rintro i x σ H2 hi ⟨x1, x2, x3, x4, x5, x6, x7, rfl, e3⟩
      obtain ⟨c, rfl⟩ := cell_int (get_mem hi)
      generalize hcells : (HO.lst (cutV (ns.map V.int) none (some 10) ++ [V.int 0])) = cells at e3 ⊢
      refine ⟨.int c, rfl, c, rfl, fun w nw => ?_⟩
      have W0 : Well (upd H2 w (.lst [.int c, .int 0])) w := ⟨_, _, upd_same⟩
      have e3' := up e3 nw (u := .lst [.int c, .int 0])
      have n3w : p3 ≠ w := ne_of_none e3 nw
      refine ⟨.ref w, rfl, w, 5, rfl, W0, fun v s H3 D3 sv so => ?_⟩
      have e33 := D3.at e3' n3w
      have vt : ∃ n, VT H3 v n := by
        cases s with
        | none => exact ⟨_, by rw [show v = .non from sv]; exact .non⟩
        | some q =>
          obtain ⟨b, e, h⟩ := sv
          exact ⟨_, by rw [e]; exact .tup h⟩
      obtain ⟨nv, tv⟩ := vt
      refine ⟨v, rfl, v, nv, rfl, tv, ?_, _, true, rfl, rfl, _, rfl, ?_⟩
      · intro b xs eb hb h4 y hy
        cases s with
        | none =>
          have z : v = .non := sv
          rw [eb] at z
          cases z
        | some q =>
          obtain ⟨b', e, h⟩ := sv
          rw [eb] at e
          cases e
          rw [hb] at h
          have h' := HO.tup.inj (Option.some.inj h)
          rw [h'] at hy
          simp only [Pos.vs, List.mem_cons, List.not_mem_nil, or_false] at hy
          rcases hy with rfl | rfl | rfl | rfl
          · exact ⟨_, .int _⟩
          · exact ⟨_, .int _⟩
          · exact ov_vt _
          · exact ov_vt _
      refine ite_n (fun z => absurd (spanB_ok sv so) z) (fun _ => ?_)
      refine ⟨fun σ H4 => ∃ (lp : Addr) (l1 l2 l3 l4 : V) (x5 x6 x7 : Option V), σ = [some (.ref a), some (.int c), some (.ref w), some v, some (.ref lp), x5, x6, x7] ∧ H4 lp = some (.lst [l1, l2, l3, l4]) ∧ (∀ y ∈ [l1, l2, l3, l4], y = .non ∨ ∃ i, y = .int i) ∧ Well H4 w ∧ lp ≠ w ∧ lp ≠ p3 ∧ H4 p3 = some cells, ?_, ?_⟩
      · refine ⟨.ref w, rfl, v, rfl, by show 4 ≤ sizeLine; decide, fun t1 m1 => ⟨by show 4 ≤ sizeLine; decide, fun t2 m2 => ⟨by show 4 ≤ sizeLine; decide, fun t3 m3 => ⟨by show 4 ≤ sizeLine; decide, fun l ml => ?_⟩⟩⟩⟩
        refine ⟨w, l, _, rfl, (((D3.w.new m1).new m2).new m3).new ml, (((D3.w.new m1).new m2).new m3).ne ml, upd_same, by simp, by simp, fun j x H5 gj D5 => ?_⟩
        have q3 := D5.at (up (up (up (up e33 m1) m2) m3) ml) n3w
        have hx := get_mem gj
        simp only [List.mem_cons, List.not_mem_nil, or_false] at hx
        rcases hx with rfl | rfl | rfl | rfl
        · cases s with
          | none =>
            have z : x = .non := sv
            subst z
            refine ⟨false, rfl, iteF ?_⟩
            refine ⟨by show 4 ≤ sizeLine; decide, fun t nt => ?_⟩
            refine ⟨t, _, rfl, .inr (SqT.of upd_same), fun u nu => ?_⟩
            exact ⟨u, _, _, _, _, _, _, _, rfl, upd_same, by simp, (D5.w.new nt).new nu, (D5.w.new nt).ne nu, new_ne (up q3 nt) nu, up (up q3 nt) nu⟩
          | some q =>
            obtain ⟨b, rfl, h⟩ := sv
            have hb : b ≠ w := by
              obtain ⟨_, _, e⟩ := D3.w
              exact ne_of h e (by intro z; cases z)
            have h' := D5.at (up (up (up (up h m1) m2) m3) ml) hb
            refine ⟨true, .inr (.inl ⟨_, SqT.of h', rfl⟩), iteT ?_⟩
            refine ⟨b, _, rfl, .inr (SqT.of h'), fun u nu => ?_⟩
            refine ⟨u, _, _, _, _, _, _, _, rfl, upd_same, ?_, D5.w.new nu, D5.w.ne nu, new_ne q3 nu, up q3 nu⟩
            intro y hy
            simp only [List.mem_cons, List.not_mem_nil, or_false] at hy
            rcases hy with rfl | rfl | rfl | rfl
            · exact .inr ⟨_, rfl⟩
            · exact .inr ⟨_, rfl⟩
            · exact ov_four _
            · exact ov_four _
        · have h' := D5.at (up (up (up (upd_same (H := H3) (a := t1)) m2) m3) ml) (D3.w.ne m1)
          refine ⟨true, .inr (.inl ⟨_, SqT.of h', rfl⟩), iteT ?_⟩
          refine ⟨t1, _, rfl, .inr (SqT.of h'), fun u nu => ?_⟩
          exact ⟨u, _, _, _, _, _, _, _, rfl, upd_same, by simp, D5.w.new nu, D5.w.ne nu, new_ne q3 nu, up q3 nu⟩
        · have h' := D5.at (up (up (upd_same (a := t2)) m3) ml) ((D3.w.new m1).ne m2)
          refine ⟨true, .inr (.inl ⟨_, SqT.of h', rfl⟩), iteT ?_⟩
          refine ⟨t2, _, rfl, .inr (SqT.of h'), fun u nu => ?_⟩
          exact ⟨u, _, _, _, _, _, _, _, rfl, upd_same, by simp, D5.w.new nu, D5.w.ne nu, new_ne q3 nu, up q3 nu⟩
        · have h' := D5.at (up (upd_same (a := t3)) ml) (((D3.w.new m1).new m2).ne m3)
          refine ⟨true, .inr (.inl ⟨_, SqT.of h', rfl⟩), iteT ?_⟩
          refine ⟨t3, _, rfl, .inr (SqT.of h'), fun u nu => ?_⟩
          exact ⟨u, _, _, _, _, _, _, _, rfl, upd_same, by simp, D5.w.new nu, D5.w.ne nu, new_ne q3 nu, up q3 nu⟩
      · rintro σ H4 ⟨lp, l1, l2, l3, l4, x5, x6, x7, rfl, hl, h4, W4, nlw, nl3, e34⟩
        refine ⟨.ref w, rfl, w, 4, rfl, W4, by decide, by decide, fun d H5 d0 d1 D5 => ?_⟩
        have hl5 := D5.at hl nlw
        have e35 := D5.at e34 n3w
        refine ⟨.ref w, rfl, 1, rfl, .ref lp, rfl, lp, _, 0, l1, rfl, rfl, SqL.of hl5, rfl, by show 1 ≤ sizeLine; decide, fun t1 m1 => ⟨by show 0 ≤ sizeLine; decide, fun t2 m2 => ⟨10, 40, rfl, rfl, ⟨by decide, by decide, by decide⟩, by show 10 ≤ sizeLine; decide, fun l ml => ?_⟩⟩⟩
        refine ⟨w, l, _, rfl, ((D5.w.new m1).new m2).new ml, ((D5.w.new m1).new m2).ne ml, upd_same, by simp, by simp, fun j x H6 gj D6 => ?_⟩
        have vx : ∃ n, VT H6 x n ∧ ∀ b, x = .ref b → b ≠ lp := by
          have hx := get_mem gj
          simp only [List.mem_cons, List.not_mem_nil, or_false] at hx
          rcases hx with rfl | rfl | rfl | rfl | rfl | rfl | rfl | rfl | rfl | rfl
          · exact ⟨_, .non, fun b z => nomatch z⟩
          · exact ⟨_, .bl _, fun b z => nomatch z⟩
          · exact ⟨_, .str _, fun b z => nomatch z⟩
          · exact ⟨_, .int _, fun b z => nomatch z⟩
          · exact ⟨_, .int _, fun b z => nomatch z⟩
          · exact ⟨_, .int _, fun b z => nomatch z⟩
          · rcases h4 x (by simp) with rfl | ⟨i, rfl⟩
            · exact ⟨_, .non, fun b z => nomatch z⟩
            · exact ⟨_, .int _, fun b z => nomatch z⟩
          · refine ⟨_, .tup (D6.at (up (up (upd_same (a := t1)) m2) ml) (D5.w.ne m1)), fun b z => ?_⟩
            cases z
            exact new_ne hl5 m1
          · refine ⟨_, .lst (D6.at (up (upd_same (a := t2)) ml) ((D5.w.new m1).ne m2)), fun b z => ?_⟩
            cases z
            exact new_ne (up hl5 m1) m2
          · exact ⟨_, .int _, fun b z => nomatch z⟩
        obtain ⟨nx, tx, hxl⟩ := vx
        have hl6 := D6.at (up (up (up hl5 m1) m2) ml) nlw
        have e36 := D6.at (up (up (up e35 m1) m2) ml) n3w
        refine ⟨x, rfl, .ref lp, rfl, .int d, rfl, lp, _, d, d.toNat, rfl, rfl, hl6, ix4 rfl d0 d1, ?_⟩
        have tall : ∀ y ∈ [l1, l2, l3, l4].set d.toNat x, ∃ m, VT H6 y m := by
          intro y hy
          rcases List.mem_or_eq_of_mem_set hy with z | z
          · exact four_vt (h4 y z)
          · exact ⟨nx, by rw [z]; exact tx⟩
        obtain ⟨k1, k2, k3, k4, hk⟩ := len4 (show ([l1, l2, l3, l4].set d.toNat x).length = 4 by rw [List.length_set]; rfl)
        have tl : ∀ y ∈ [k1, k2, k3, k4], ∃ m, VT (upd H6 lp (.lst [k1, k2, k3, k4])) y m := by
          intro y hy
          rw [← hk] at hy
          obtain ⟨m, tm⟩ := tall y hy
          refine ⟨m, tm.keep fun b o eb hb => ?_⟩
          by_cases z : b = lp
          · exfalso
            subst eb
            rcases List.mem_or_eq_of_mem_set hy with z2 | z2
            · rcases h4 _ z2 with z3 | ⟨_, z3⟩ <;> cases z3
            · exact hxl b z2.symm z
          · rw [upd_ne z]
            exact hb
        rw [hk]
        have hl7 : (upd H6 lp (.lst [k1, k2, k3, k4])) lp = some (.lst [k1, k2, k3, k4]) := upd_same
        have W7 : Well (upd H6 lp (.lst [k1, k2, k3, k4])) w := by
          obtain ⟨a1, b1, e⟩ := D6.w
          exact ⟨a1, b1, by rw [upd_ne nlw.symm]; exact e⟩
        have e37 : (upd H6 lp (.lst [k1, k2, k3, k4])) p3 = some cells := by
          rw [upd_ne nl3.symm]
          exact e36
        generalize upd H6 lp (.lst [k1, k2, k3, k4]) = H7 at tl hl7 W7 e37 ⊢
        refine ⟨.ref lp, rfl, lp, _, rfl, .inl ⟨SqL.of hl7, fun tt ntt => ?_⟩⟩
        refine ⟨.ref tt, "tuple", rfl, .tup upd_same, ?_, ?_⟩
        · intro b xs eb hb _ y hy
          cases eb
          rw [upd_same] at hb
          have z := HO.tup.inj (Option.some.inj hb)
          rw [← z] at hy
          obtain ⟨m, tm⟩ := tl y hy
          exact ⟨m, tm.same (same_new ntt)⟩
        refine ⟨.ref lp, rfl, lp, k1, k2, k3, k4, rfl, up hl7 ntt, fun y hy => ?_, ?_⟩
        · obtain ⟨m, tm⟩ := tl y hy
          exact ⟨m, tm.same (same_new ntt)⟩
        refine ⟨rfl, _, rfl, ?_⟩
        refine ite_n (fun z => absurd (congrArg V.bl (spanB_tup upd_same)) z) (fun _ => ?_)
        have hl8 := up hl7 ntt (u := .tup [k1, k2, k3, k4])
        have W8 := W7.new ntt (o := .tup [k1, k2, k3, k4])
        have e38 := up e37 ntt (u := .tup [k1, k2, k3, k4])
        generalize upd H7 tt (.tup [k1, k2, k3, k4]) = H8 at hl8 W8 e38 ⊢
        refine ⟨.ref w, rfl, .ref lp, rfl, by show 0 ≤ sizeLine; decide, fun u1 n1 => ⟨by show 2 ≤ sizeLine; decide, fun u2 n2 => ⟨by show 5 ≤ sizeLine; decide, fun u3 n3 => fun u4 n4 => ⟨by show 4 ≤ sizeLine; decide, fun u5 n5 => ⟨by show 9 ≤ sizeLine; decide, fun l ml => ?_⟩⟩⟩⟩⟩
        have W9 := ((((W8.new (o := .tup []) n1).new (o := .tup [.int 1, .int 1]) n2).new (o := .tup [.int 1, .int 1, .int 0, .int 0, .int 0]) n3).new (o := .dK []) n4).new (o := .lst [.int 1, .int 1, .int 0, .int 0]) n5
        refine ⟨w, l, _, rfl, W9.new ml, W9.ne ml, upd_same, by simp, by simp, fun j y H9 gj D9 => ?_⟩
        have e39 := D9.at (up (up (up (up (up (up e38 n1) n2) n3) n4) n5) ml) n3w
        have vy : ∃ n, VT H9 y n ∧ (∀ b xs, y = .ref b → H9 b = some (.tup xs) → xs.length ≠ 4) ∧ spanB H9 y = false := by
          have hy := get_mem gj
          simp only [List.mem_cons, List.not_mem_nil, or_false] at hy
          have lst : ∀ (b : Addr) (zs : List V), H9 b = some (.lst zs) → ∃ n, VT H9 (.ref b) n ∧ (∀ b' xs, V.ref b = .ref b' → H9 b' = some (.tup xs) → xs.length ≠ 4) ∧ spanB H9 (.ref b) = false := by
            intro b zs hb
            refine ⟨_, .lst hb, fun b' xs e h => ?_, spanB_no (.lst hb) (fun z => nomatch z) (by decide)⟩
            cases e
            rw [hb] at h
            cases h
          have tup : ∀ (b : Addr) (zs : List V), H9 b = some (.tup zs) → zs.length ≠ 4 → ∃ n, VT H9 (.ref b) n ∧ (∀ b' xs, V.ref b = .ref b' → H9 b' = some (.tup xs) → xs.length ≠ 4) ∧ spanB H9 (.ref b) = false := by
            intro b zs hb hz
            refine ⟨_, .tup hb, fun b' xs e h => ?_, spanB_len hb hz⟩
            cases e
            rw [hb] at h
            cases h
            exact hz
          rcases hy with rfl | rfl | rfl | rfl | rfl | rfl | rfl | rfl | rfl
          · exact lst _ _ (D9.at (up (up (up (up (up (up hl8 n1) n2) n3) n4) n5) ml) nlw)
          · exact tup _ _ (D9.at (up (up (up (up (up (upd_same (a := u1)) n2) n3) n4) n5) ml) (W8.ne n1)) (by simp)
          · exact tup _ _ (D9.at (up (up (up (up (upd_same (a := u2)) n3) n4) n5) ml) ((W8.new n1).ne n2)) (by simp)
          · exact tup _ _ (D9.at (up (up (up (upd_same (a := u3)) n4) n5) ml) (((W8.new n1).new n2).ne n3)) (by simp)
          · exact ⟨_, .str _, (fun b xs z => nomatch z), rfl⟩
          · exact ⟨_, .int _, (fun b xs z => nomatch z), rfl⟩
          · exact ⟨_, .bl _, (fun b xs z => nomatch z), rfl⟩
          · have hb := D9.at (up (up (upd_same (a := u4)) n5) ml) ((((W8.new n1).new n2).new n3).ne n4)
            refine ⟨_, .dic hb, fun b' xs e h => ?_, spanB_no (.dic hb) (fun z => nomatch z) (by decide)⟩
            cases e
            rw [hb] at h
            cases h
          · exact lst _ _ (D9.at (up (upd_same (a := u5)) ml) (((((W8.new n1).new n2).new n3).new n4).ne n5))
        obtain ⟨ny, ty, hy4, hyB⟩ := vy
        refine ⟨y, rfl, y, ny, rfl, ty, fun b xs eb hb h4' => absurd h4' (hy4 b xs eb hb), ?_⟩
        refine ⟨_, false, rfl, rfl, _, rfl, ?_⟩
        refine ite_n (fun z => absurd hyB z) (fun _ => ?_)
        exact ⟨_, _, _, _, _, _, _, rfl, e39⟩
    · rintro σ H2 ⟨x1, x2, x3, x4, x5, x6, x7, rfl, e3⟩
      exact k H2
/-! ### the head -/
abbrev R : PySem.W.OpenRow := PySem.W.OpenLaw.row PySem.Challenge.rw_codespans_k01_spans_judged
def names0 : List Str := ["MOST", "is_int", "is_int_from", "is_span", "_law_cell_at", "_law_well", "_law_draw", "_law_one", "_law_line", "_law_column", "_law_span", "_law_spans", "_law_whole", "_law_is_span"]
abbrev names : List Str := names0
def ob (s : PySem.W.SharedT) : LookT := lookAt fa fn ex (partOf 4 (HandSHeadRun.getT s))
theorem run (w : World) : HandSHeadRun.RunEq R (PySem.W.view R.prog [17]) (hk 4 fa fn ex) ob 4000 names w := by
  intro os
  kernel_rfl
end K01
namespace K01
open PySem PySem.Spec PyProof.Rows L2 Lay
theorem law_facts {P : Program} {w : World} {K : PySem.W.Frag} {h : Heap} {mg : Str → Option Value} {f : Addr} (X : K.In h) (G : h.Ns mainGlobals mg) (hfa : mg ("law" : Str) = some (.ref f)) (c : Told fa fn ex K) :
    ∃ fd : FuncData, (∀ (s : Shared) (v : Value), BindsTo s fd ⟨[v], []⟩ [("_law_script", v)]) ∧ ∀ base : Heap, K.In base → base.Ns mainGlobals mg → FnOk P w K mg base CX0 5 f fd ["_law_script"] (sp_law K) := by
  have W : Wd K mg := ⟨⟨h, X, G⟩, c⟩
  obtain ⟨fd, F⟩ := F_law W
  have e := hfa.symm.trans (g_law W)
  cases e
  have b := FunD.bindsA (ps := ["_law_script"]) F fun _ _ _ _ _ _ us hl => match us, hl with | [_], _ => rfl
  exact ⟨fd, fun s v => b s [v] rfl, fun base _ _ => fn_law W F⟩
end K01
open PySem PySem.W PySem.Calls PyProof.Rows
set_option maxRecDepth 100000 in
set_option maxHeartbeats 0 in
theorem PySem.Challenge.cw_codespans_k01_spans_judged_holds : PySem.Challenge.rw_codespans_k01_spans_judged.Holds := by
  w_on; o_law
  refine HandSHeadRun.head_any (r := OpenLaw.row PySem.Challenge.rw_codespans_k01_spans_judged) (q := view (OpenLaw.row PySem.Challenge.rw_codespans_k01_spans_judged).prog [17]) (H := Lay.hk 4 K01.fa K01.fn K01.ex) (ob := K01.ob) (M := 4000) (loose := K01.names) (d := HandSHeadRun.topDef (OpenLaw.row PySem.Challenge.rw_codespans_k01_spans_judged).prog 17) (kwd := []) (fun s => Lay.look_eq s)
    (by kernel_rfl) (fun s => by kernel_rfl) K01.run (by kernel_rfl) (by kernel_rfl) (by kernel_rfl) (by rfl) (by first | assumption | decide +kernel) (by decide +kernel) ⟨rfl, rfl, rfl, rfl, rfl, by decide +kernel⟩ ?hw ?hc
  case hw => w_witness2
  case hc =>
    refine L2.walk_ofE (l := PySem.Challenge.rw_codespans_k01_spans_judged) (n := 63) (k := 5) (x := "_law_script") (CX := L2.CX0) rfl (by decide) (by kernel_rfl) ⟨rfl, by decide, by decide⟩ ?F (fun _ _ _ _ z => z)
    intro w mg fa h Y G hmg0
    obtain ⟨K, KX, c⟩ := Y
    have hmg : mg ("law" : PySem.Str) = some (.ref fa) := by
      have e : (HandSHeadRun.topDef (OpenLaw.row PySem.Challenge.rw_codespans_k01_spans_judged).prog 17).name = ("law" : PySem.Str) := by kernel_rfl
      rw [← e]
      exact hmg0
    obtain ⟨fd, hb, hF⟩ := K01.law_facts (P := (PySem.Challenge.rw_codespans_k01_spans_judged).prog) (w := w) KX G hmg c
    exact ⟨K, fd, K01.sp_law K, KX, hb, fun H a ns hl _ hS => ⟨a, ns, rfl, hS, hl, fun _ => rfl⟩, hF⟩

import PyProof.Rows.All
import Wide.All
import OpenK.AllK
import Wide.FinOn
import HandS.Base
import HandS.Call
import HandS.List
import HandS.Comp
import HandS.Ends
import HandS.Dict
import HandS.Iter
import HandS.Text
import HandS.More
import HandS.Words
import HandS.Codes
import HandS.Defaults
import HandS.NoneIn
import HandS.HeadHook1
import HandS.HeadHook2
import HandS.IsInst
import HandS.Style
import HandS.Walk
import HandS.CallLocal
import HandS.AnyAll
import HandS.Lambda
import HandS.EndTab
import HandS.HeadHook4
import HandS.HeadWalk
import HandS.Conv
import KE.Datum
import KE.DatumOrd
import HandS.Remove
import HandS.SortRule
import HandS.SortInts
import KE.KEqDict
import KE.KDictWalk
import KE.KDictCopyH
import KE.KDictPairs
import KE.KDictKeyed
import HandS.DictTup
import HandS.Head0
import HandS.Head1
import HandS.Head2
import HandS.HeadEnd
import HandS.HeadHook3
import PySem.Challenge.RW_rowscribe_k12_rows_come_to
set_option Elab.async false
set_option linter.all false
set_option maxRecDepth 100000
set_option maxHeartbeats 0
/-! Part 1: the text by places, short words, a walk over a written dict. -/
namespace Rs
open PySem PySem.Spec PyProof.Rows L2
def top (i : Nat) : Stmt := PySem.Challenge.pw_rowscribe_k12_rows_come_to.main.body.getD i (.Pass ⟨0, 0, 0, 0⟩)
abbrev FnP (K : PySem.W.Frag) (x q : Str) (st : Stmt) (f : Addr) (fd : FuncData) : Prop := FunD K x q (defArgs st) (defBody st) (defScope st) [] [] f fd
/-- a def of the top, as it stands under its name -/
structure DefAt (K : PySem.W.Frag) (mg : Str → Option Value) (x : Str) (st : Stmt) : Prop where
  ex : ∃ fd, FnP K x x st (He.ga K x) fd
  mgx : mg x = some (.ref (He.ga K x))
section
variable {P : Program} {w : World} {K : PySem.W.Frag} {mg : Str → Option Value} {base : Heap}
theorem fnok_of {x q : Str} {st : Stmt} {f : Addr} {fd : FuncData} {N ps : List Str} {k : Nat} {sp : Sp} (F : FnP K x q st f fd) (S : FnScope N ps (defScope st)) (len : ∀ vs H Q E, sp vs H Q E → vs.length = ps.length)
    (hbody : ∀ (cdv : Value) (A : Around) (outer : List Env) (s : Shared) (H : Hp) (vs : List V) (Q : VK) (E : XK), Room k (A.deeper (envOfC q (defScope st) s.heap.objs.size f cdv)) → sp vs H Q E →
      ∃ t, PSs (cxOf CX0 P w K mg base N q (defScope st) f cdv A outer s H E).nox (defBody st) t ∧ t { nx := fun _ H' => Q .non H', rt := Q } (start N vs) H) : FnOk P w K mg base CX0 (k + 1) f fd ps sp := by
  refine FunD.ok F S len fun cdv A outer s H vs Q E hr h => ?_
  obtain ⟨t, h1, h2⟩ := hbody cdv A outer s H vs Q E hr h
  exact ⟨t, h1.nox, h2⟩
theorem cal_of {x : Str} {st : Stmt} {N ps : List Str} {k : Nat} {sp : Sp} (D : DefAt K mg x st) (S : FnScope N ps (defScope st))
    (hb : ∀ (kV doc pm : Value) (an : Option Addr) (cdv ct : Value) (us : List Value), us.length = ps.length → bindArgs (PySem.W.fnOf x x (defArgs st) (defBody st) (defScope st) .none kV doc pm an cdv ct) ⟨us, []⟩ = pure (ps.zip us))
    (len : ∀ vs H Q E, sp vs H Q E → vs.length = ps.length)
    (hbody : ∀ (cdv : Value) (A : Around) (outer : List Env) (s : Shared) (H : Hp) (vs : List V) (Q : VK) (E : XK), Room k (A.deeper (envOfC x (defScope st) s.heap.objs.size (He.ga K x) cdv)) → sp vs H Q E →
      ∃ t, PSs (cxOf CX0 P w K mg base N x (defScope st) (He.ga K x) cdv A outer s H E).nox (defBody st) t ∧ t { nx := fun _ H' => Q .non H', rt := Q } (start N vs) H) : C8.Cal P w K mg base (k + 1) x sp [] := by
  obtain ⟨fd, F⟩ := D.ex
  exact ⟨He.ga K x, fd, ps, [], fnok_of F S len hbody, D.mgx, F.kp, F.bindsN hb, .nil⟩
end
section
variable {X : Cx}
theorem pe_gI {x : Str} {pos : Pos} {i : Int} (hg : Gl X x) (h : ∃ t, X.mg x = some (.int i t)) (hd : (x == ("__debug__" : Str)) = false := by decide) : PE X (.Name x pos) (tC (.int i)) := by
  obtain ⟨t, h⟩ := h
  exact pe_glob hg h ⟨t, rfl⟩ hd
theorem pe_gR {x : Str} {pos : Pos} {a : Addr} (hg : Gl X x) (h : X.mg x = some (.ref a)) (hd : (x == ("__debug__" : Str)) = false := by decide) : PE X (.Name x pos) (tC (.ref a)) := pe_glob hg h rfl hd
end
end Rs
namespace Rs
open PySem PySem.Spec PyProof.Rows L2
/-- a written dict with text keys, these in their order -/
structure KTab (K : PySem.W.Frag) (w : World) (d : Addr) (ks : List Str) : Prop where
  ex : ∃ (es : Array DictEntry) (n : Nat), K.lookup d = some ⟨.type "dict", none, .dict es n, #[]⟩ ∧ PySem.W.KeysLit w.params es.toList ∧ (d == sysModules) = false ∧ es.size = ks.length ∧
    ∀ (i : Nat) (k : Str), ks[i]? = some k → ∃ (en : DictEntry) (t : Tok), es[i]? = some en ∧ en.key = .str k t
def ItkK (ks : List Str) : It := ⟨fun i _ => i < ks.length, fun i H x H' => H' = H ∧ ∃ k, ks[i]? = some k ∧ x = .str k, fun i _ => ks.length ≤ i⟩
section
variable {P : Program} {w : World} {K : PySem.W.Frag} {tg : Expr} {d : Addr}
theorem turn_keysK {ks : List Str} {es : Array DictEntry} {n : Nat} (it : Addr) (hl : K.lookup d = some ⟨.type "dict", none, .dict es n, #[]⟩) (hsz : es.size = ks.length)
    (hk : ∀ (i : Nat) (k : Str), ks[i]? = some k → ∃ (en : DictEntry) (t : Tok), es[i]? = some en ∧ en.key = .str k t) : Turn P w K tg (ItkK ks) [it] it (fun i h => h.IsKeyIter it d i ks.length n) where
  mem := List.mem_singleton.mpr rfl
  obj := fun n hp sti b hm => by
    obtain rfl : b = it := List.mem_singleton.mp hm
    obtain ⟨itO, at1, _, fields⟩ := sti
    refine ⟨itO, at1, fun v absurdCell => ?_⟩
    rw [fields] at absurdCell
    cases absurdCell
  keep := fun n hp hp' sti kept => sti.at fun itO at1 => kept it (List.mem_singleton.mpr rfl) itO at1
  item := by
    intro Y eP eW eK calm n pns sh τ G Er inv fresh sti below
    subst eP eW eK
    obtain ⟨g0, g1, _, g3, g4, g5⟩ := fresh it (List.mem_singleton.mpr rfl)
    have below' : n < ks.length := below
    obtain ⟨key, atKey⟩ : ∃ key, ks[n]? = some key := ⟨ks[n], List.getElem?_eq_getElem below'⟩
    obtain ⟨entry, tok, atEntry, isKey⟩ := hk n key atKey
    refine next_key_item sti (inv.kIn _ _ hl) rfl hsz atEntry fun hp' stn unch => ?_
    have inv' := inv.turned (t' := sh.toks) (h' := hp') (fun b o nb at1 => (unch.2 b nb).trans at1) g0 g1 g3 g4 g5
    obtain ⟨itO, at1, cls1, fields⟩ := id stn
    refine ⟨entry.key, rfl, go_of (s := { sh with heap := hp' }) at1 cls1 fields (by decide) ?_⟩
    exact ⟨.str key, G, inv', ⟨tok, isKey⟩, ⟨rfl, key, atKey, rfl⟩, stn, fun b hm => (fresh b hm).1⟩
  done := by
    intro Y eP eW eK calm n pns sh τ G Er inv fresh sti over
    subst eP eW eK
    obtain ⟨g0, g1, _, g3, g4, g5⟩ := fresh it (List.mem_singleton.mpr rfl)
    have over' : ks.length ≤ n := over
    refine next_key_end (inv.ok.hd calm) sti (inv.kIn _ _ hl) rfl hsz over' fun hp' unch => ?_
    exact ⟨rfl, inv.turned (t' := sh.toks) (fun b o nb at1 => unch b o nb at1) g0 g1 g3 g4 g5⟩
  self := fun _ _ _ _ _ sti wish => wpAny_pyIter_keyiter sti wish
end
def iKeysK (K : PySem.W.Frag) (w : World) (td : TE) : TI := fun σ H R => td σ H fun x H1 => ∃ d ks, x = .ref d ∧ KTab K w d ks ∧ R (ItkK ks) H1
theorem pi_keysK {X : Cx} {tg e : Expr} {td : TE} (he : PE X e td) : PI X tg e (iKeysK X.K X.w td) :=
  ⟨fun pns sh τ G Rest inv wish => by
    refine thn (he.run pns sh τ G _ inv wish) fun val sh1 ⟨x, G1, inv1, relx, d, ks, isD, tab, rest⟩ => ?_
    subst isD
    cases relx
    obtain ⟨es, n, hl, _, low, hsz, hk⟩ := tab.ex
    refine iter_keys low (inv1.kIn _ _ hl) ⟨rfl, rfl, rfl⟩ rfl (pi_one (tk := sh1.toks) inv1 _ (turn_keysK _ hl hsz hk) ⟨_, Heap.get?_push_size _ rfl, rfl, ?_⟩ rest)
    rw [hsz] <;> rfl⟩
theorem for_keysK {ks : List Str} {g : TG} {tb : TS} {D : Ends} {σ : L2.St} {H : Hp} (Pv : Nat → L2.St → Hp → Prop) (h0 : Pv 0 σ H)
    (hs : ∀ i k σ H, ks[i]? = some k → Pv i σ H → g (.str k) σ H fun σ2 H2 => tb { D with nx := Pv (i + 1), ct := Pv (i + 1), bk := D.nx } σ2 H2) (hd : ∀ σ H, Pv ks.length σ H → D.nx σ H) :
    ∃ W : Nat → Nat → L2.St → Hp → Prop, (∃ m, W 0 m σ H) ∧ ∀ i m σ H, W i m σ H →
      ((ItkK ks).stop i H ∧ D.nx σ H) ∨ ((ItkK ks).go i H ∧ ∃ N : L2.St → Hp → Prop, (∀ σ' H', N σ' H' → ∃ m', m' < m ∧ W (i + 1) m' σ' H') ∧ ∀ x H', (ItkK ks).yld i H x H' → g x σ H' fun σ2 H2 => tb { D with nx := N, ct := N, bk := D.nx } σ2 H2) := by
  refine ⟨fun i m σ H => m = ks.length - i ∧ i ≤ ks.length ∧ Pv i σ H, ⟨ks.length, by simp, Nat.zero_le _, h0⟩, ?_⟩
  rintro i m σ H ⟨rfl, hi, p⟩
  by_cases hlt : i < ks.length
  · refine .inr ⟨hlt, Pv (i + 1), fun σ' H' p' => ⟨ks.length - (i + 1), by omega, rfl, hlt, p'⟩, fun x H' y => ?_⟩
    obtain ⟨e, k, hk, ex⟩ := y
    subst e ex
    exact hs i k σ _ hk p
  · have e : i = ks.length := by omega
    subst e
    exact .inl ⟨Nat.le_refl _, hd _ _ p⟩
end Rs
/-! The machine as a plain function. -/
namespace Rs
open PySem
inductive Kd where
  | stop | back | say | takeL | move | add | less | load | store | jump | call | skip | zero | same | copy | take
  deriving DecidableEq
def Kd.str : Kd → Str
  | .stop => "stop" | .back => "back" | .say => "say" | .takeL => "take!" | .move => "move" | .add => "add" | .less => "less" | .load => "load" | .store => "store"
  | .jump => "jump" | .call => "call" | .skip => "skip" | .zero => "zero" | .same => "same" | .copy => "copy" | .take => "take"
abbrev Code := Kd × Int × Nat × Nat
def codes : List Code := [(.stop, 0, 0, 0), (.back, 1, 0, 0), (.say, 4, 1, 0), (.takeL, 16, 1, 1), (.move, 32, 2, 0), (.add, 48, 2, 0), (.less, 64, 2, 0), (.load, 80, 1, 1), (.store, 84, 1, 1),
  (.jump, 96, 0, 1), (.call, 97, 0, 1), (.skip, 99, 0, 1), (.zero, 100, 1, 1), (.same, 112, 2, 1), (.copy, 128, 0, 2)]
def span : Nat → Int
  | 0 => 1
  | 1 => 4
  | _ => 16
def findC : List Code → Int → Option Code
  | [], _ => none
  | c :: r, w => if c.2.1 ≤ w ∧ w < c.2.1 + span c.2.2.1 then some c else findC r w
theorem findC_mem {w : Int} {c : Code} : ∀ {l : List Code}, findC l w = some c → c ∈ l ∧ c.2.1 ≤ w ∧ w < c.2.1 + span c.2.2.1
  | [], h => by cases h
  | d :: r, h => by
    unfold findC at h
    by_cases q : d.2.1 ≤ w ∧ w < d.2.1 + span d.2.2.1
    · rw [if_pos q] at h
      cases h
      exact ⟨List.mem_cons_self, q.1, q.2⟩
    · rw [if_neg q] at h
      obtain ⟨a, b⟩ := findC_mem h
      exact ⟨List.mem_cons_of_mem _ a, b⟩
def boxesOf (base : Int) (many : Nat) (w : Int) : List Int := match many with
  | 0 => []
  | 1 => [w - base]
  | _ => [(w - base) / 4, (w - base) % 4]
structure Row where
  k : Kd
  bx : List Int
  nm : List Int
  size : Nat
def rowAt (ws : List Int) (p : Int) : Option Row :=
  if 0 ≤ p ∧ p < (ws.length : Int) then
    if 144 ≤ ws.getD p.toNat 0 ∧ ws.getD p.toNat 0 < 176 then some ⟨.take, [(ws.getD p.toNat 0 - 144) / 8], [(ws.getD p.toNat 0 - 144) % 8], 1⟩
    else match findC codes (ws.getD p.toNat 0) with
      | none => none
      | some c => if p + (1 + c.2.2.2 : Nat) > ws.length then none else some ⟨c.1, boxesOf c.2.1 c.2.2.1 (ws.getD p.toNat 0), (ws.drop (p.toNat + 1)).take c.2.2.2, 1 + c.2.2.2⟩
  else none
structure M where
  cells : List Int
  boxes : List Int
  calls : List Int
  says : List Int
  past : List Int
  place : Int
  why : Str
def doK (k : Kd) (bx nm : List Int) (m : M) : M :=
  let b0 := (bx.getD 0 0).toNat
  let b1 := (bx.getD 1 0).toNat
  let n0 := nm.getD 0 0
  let n1 := nm.getD 1 0
  let x := m.boxes.getD b0 0
  let y := m.boxes.getD b1 0
  match k with
  | .stop => { m with why := "stop" }
  | .back => if m.calls = [] then { m with why := "back" } else { m with place := m.calls.getLastD 0, calls := m.calls.dropLast }
  | .say => { m with says := m.says ++ [x] }
  | .takeL => { m with boxes := m.boxes.set b0 n0 }
  | .take => { m with boxes := m.boxes.set b0 n0 }
  | .move => { m with boxes := m.boxes.set b0 y }
  | .add => { m with boxes := m.boxes.set b0 ((x + y) % 256) }
  | .less => { m with boxes := m.boxes.set b0 ((x - y) % 256) }
  | .load => { m with boxes := m.boxes.set b0 (m.cells.getD n0.toNat 0) }
  | .store => { m with cells := m.cells.set n0.toNat x }
  | .jump => { m with place := n0 }
  | .call => if m.calls.length = 16 then { m with why := "deep" } else { m with calls := m.calls ++ [m.place], place := n0 }
  | .skip => { m with place := m.place + (if n0 < 128 then n0 else n0 - 256) }
  | .zero => if x = 0 then { m with place := n0 } else m
  | .same => if x = y then { m with place := n0 } else m
  | .copy => { m with cells := m.cells.set n1.toNat (m.cells.getD n0.toNat 0) }
def step (ws : List Int) (m : M) : M := match rowAt ws m.place with
  | none => { m with why := if 0 ≤ m.place ∧ m.place < (ws.length : Int) then "none" else "end" }
  | some r => doK r.k r.bx r.nm { m with past := m.past ++ [m.place], place := m.place + r.size }
theorem ne_stop : ¬ (("stop" : Str) = "") := by decide +kernel
theorem ne_back : ¬ (("back" : Str) = "") := by decide +kernel
theorem ne_deep : ¬ (("deep" : Str) = "") := by decide +kernel
theorem ne_none : ¬ (("none" : Str) = "") := by decide +kernel
theorem ne_end : ¬ (("end" : Str) = "") := by decide +kernel
theorem doK_past (k : Kd) (bx nm : List Int) (m : M) : (doK k bx nm m).past = m.past := by
  unfold doK
  cases k <;> dsimp only <;> (try split) <;> rfl
theorem step_none {ws : List Int} {m : M} (h : rowAt ws m.place = none) : step ws m = { m with why := if 0 ≤ m.place ∧ m.place < (ws.length : Int) then "none" else "end" } := by
  unfold step
  rw [h]
theorem step_some {ws : List Int} {m : M} {r : Row} (h : rowAt ws m.place = some r) : step ws m = doK r.k r.bx r.nm { m with past := m.past ++ [m.place], place := m.place + r.size } := by
  unfold step
  rw [h]
def mu (most : Nat) (m : M) : Nat := (most - m.past.length) + (if m.why = "" then 1 else 0)
theorem mu_step {ws : List Int} {most : Nat} {m : M} (h1 : m.why = "") (h2 : m.past.length < most) : mu most (step ws m) < mu most m := by
  unfold mu
  rw [if_pos h1]
  cases e : rowAt ws m.place with
  | none =>
    rw [step_none e]
    dsimp only
    have : ¬ ((if 0 ≤ m.place ∧ m.place < (ws.length : Int) then ("none" : Str) else "end") = "") := by
      split
      · exact ne_none
      · exact ne_end
    rw [if_neg this]
    omega
  | some r =>
    rw [step_some e, doK_past]
    dsimp only
    rw [List.length_append, List.length_singleton]
    split <;> omega
def runW (ws : List Int) (most : Nat) (m : M) : M :=
  if h : m.why = "" ∧ m.past.length < most then runW ws most (step ws m) else m
termination_by mu most m
decreasing_by exact mu_step h.1 h.2
theorem runW_go {ws : List Int} {most : Nat} {m : M} (h1 : m.why = "") (h2 : m.past.length < most) : runW ws most m = runW ws most (step ws m) := by
  rw [runW, dif_pos ⟨h1, h2⟩]
theorem runW_end {ws : List Int} {most : Nat} {m : M} (h : ¬ (m.why = "" ∧ m.past.length < most)) : runW ws most m = m := by
  rw [runW, dif_neg h]
/-- a number that a word may be -/
def Byte (i : Int) : Prop := 0 ≤ i ∧ i < 256
structure Good (m : M) : Prop where
  c : m.cells.length = 256
  b : m.boxes.length = 4
  cv : ∀ x ∈ m.cells, Byte x
  bv : ∀ x ∈ m.boxes, Byte x
  k : m.calls.length ≤ 16
  s : m.says.length ≤ m.past.length
/-- what a row that is read keeps to -/
def nBox : Kd → Nat
  | .stop | .back | .jump | .call | .skip | .copy => 0
  | .say | .takeL | .take | .load | .store | .zero => 1
  | .move | .add | .less | .same => 2
def nNum : Kd → Nat
  | .stop | .back | .say | .move | .add | .less => 0
  | .takeL | .take | .load | .store | .jump | .call | .skip | .zero | .same => 1
  | .copy => 2
def rSize (k : Kd) : Nat := if k = .take then 1 else 1 + nNum k
structure Ok (r : Row) : Prop where
  bl : r.bx.length = nBox r.k
  nl : r.nm.length = nNum r.k
  bv : ∀ x ∈ r.bx, 0 ≤ x ∧ x < 4
  nv : ∀ x ∈ r.nm, Byte x
  sz : r.size = rSize r.k
theorem codes_ok : ∀ c ∈ codes, c.2.2.1 = nBox c.1 ∧ c.2.2.2 = nNum c.1 ∧ c.1 ≠ .take ∧ c.2.2.1 ≤ 2 := by decide
theorem getD_mem {ws : List Int} {i : Nat} (h : i < ws.length) : ws.getD i 0 ∈ ws := by
  rw [List.getD_eq_getElem?_getD, List.getElem?_eq_getElem h]
  exact List.getElem_mem h
theorem byte_getD {ws : List Int} (hw : ∀ x ∈ ws, Byte x) (i : Nat) : Byte (ws.getD i 0) := by
  by_cases h : i < ws.length
  · exact hw _ (getD_mem h)
  · rw [List.getD_eq_getElem?_getD, List.getElem?_eq_none (by omega)]
    exact ⟨by decide, by decide⟩
theorem rowAt_ok {ws : List Int} {p : Int} {r : Row} (hw : ∀ x ∈ ws, Byte x) (h : rowAt ws p = some r) : Ok r := by
  unfold rowAt at h
  by_cases hp : 0 ≤ p ∧ p < (ws.length : Int)
  · rw [if_pos hp] at h
    by_cases ht : 144 ≤ ws.getD p.toNat 0 ∧ ws.getD p.toNat 0 < 176
    · rw [if_pos ht] at h
      cases h
      refine ⟨rfl, rfl, fun x hx => ?_, fun x hx => ?_, rfl⟩
      · have e : x = (ws.getD p.toNat 0 - 144) / 8 := by simpa using hx
        rw [e]
        omega
      · have e : x = (ws.getD p.toNat 0 - 144) % 8 := by simpa using hx
        rw [e]
        constructor <;> omega
    · rw [if_neg ht] at h
      cases e : findC codes (ws.getD p.toNat 0) with
      | none =>
        rw [e] at h
        cases h
      | some c =>
        rw [e] at h
        dsimp only at h
        by_cases hl : p + (1 + c.2.2.2 : Nat) > ws.length
        · rw [if_pos hl] at h
          cases h
        · rw [if_neg hl] at h
          cases h
          obtain ⟨cm, c1, c2⟩ := findC_mem e
          obtain ⟨k1, k2, k3, k4⟩ := codes_ok c cm
          refine ⟨?_, ?_, ?_, fun x hx => ?_, ?_⟩
          · dsimp only
            rw [← k1]
            unfold boxesOf
            generalize hm : c.2.2.1 = mm
            rw [hm] at k4
            match mm, k4 with
            | 0, _ => rfl
            | 1, _ => rfl
            | 2, _ => rfl
          · dsimp only
            rw [List.length_take, List.length_drop, ← k2]
            omega
          · dsimp only
            unfold boxesOf
            generalize hm : c.2.2.1 = mm
            rw [hm] at k4 c2
            intro x hx
            match mm, k4 with
            | 0, _ => cases hx
            | 1, _ =>
              have e : x = ws.getD p.toNat 0 - c.2.1 := by simpa using hx
              have : span 1 = 4 := rfl
              omega
            | 2, _ =>
              have e : x = (ws.getD p.toNat 0 - c.2.1) / 4 ∨ x = (ws.getD p.toNat 0 - c.2.1) % 4 := by simpa using hx
              have : span 2 = 16 := rfl
              omega
          · dsimp only at hx
            exact hw x (List.mem_of_mem_drop (List.mem_of_mem_take hx))
          · dsimp only
            unfold rSize
            rw [if_neg k3, k2]
  · rw [if_neg hp] at h
    cases h
theorem mem_set_byte {l : List Int} {i : Nat} {v : Int} (hl : ∀ x ∈ l, Byte x) (hv : Byte v) : ∀ x ∈ l.set i v, Byte x := fun x hx => by
  rcases List.mem_or_eq_of_mem_set hx with h | h
  · exact hl x h
  · rw [h]; exact hv
theorem doK_good {r : Row} {m : M} (ho : Ok r) (g : Good m) (hs : r.k = .say → m.says.length < m.past.length) : Good (doK r.k r.bx r.nm m) := by
  have by_ := byte_getD g.bv
  have cy := byte_getD g.cv
  have nv : ∀ i, Byte (r.nm.getD i 0) := byte_getD ho.nv
  have m1 : ∀ z : Int, Byte (z % 256) := fun z => by constructor <;> omega
  obtain ⟨k, bx, nm, sz⟩ := r
  unfold doK
  cases k <;> dsimp only
  case stop => exact ⟨g.c, g.b, g.cv, g.bv, g.k, g.s⟩
  case back =>
    split
    · exact ⟨g.c, g.b, g.cv, g.bv, g.k, g.s⟩
    · refine ⟨g.c, g.b, g.cv, g.bv, ?_, g.s⟩
      have := g.k
      simp only [List.length_dropLast]
      omega
  case say =>
    refine ⟨g.c, g.b, g.cv, g.bv, g.k, ?_⟩
    simp only [List.length_append, List.length_singleton]
    exact hs rfl
  case takeL => exact ⟨g.c, by simp [g.b], g.cv, mem_set_byte g.bv (nv 0), g.k, g.s⟩
  case take => exact ⟨g.c, by simp [g.b], g.cv, mem_set_byte g.bv (nv 0), g.k, g.s⟩
  case move => exact ⟨g.c, by simp [g.b], g.cv, mem_set_byte g.bv (by_ _), g.k, g.s⟩
  case add => exact ⟨g.c, by simp [g.b], g.cv, mem_set_byte g.bv (m1 _), g.k, g.s⟩
  case less => exact ⟨g.c, by simp [g.b], g.cv, mem_set_byte g.bv (m1 _), g.k, g.s⟩
  case load => exact ⟨g.c, by simp [g.b], g.cv, mem_set_byte g.bv (cy _), g.k, g.s⟩
  case store => exact ⟨by simp [g.c], g.b, mem_set_byte g.cv (by_ _), g.bv, g.k, g.s⟩
  case jump => exact ⟨g.c, g.b, g.cv, g.bv, g.k, g.s⟩
  case call =>
    split
    · exact ⟨g.c, g.b, g.cv, g.bv, g.k, g.s⟩
    · refine ⟨g.c, g.b, g.cv, g.bv, ?_, g.s⟩
      have := g.k
      simp only [List.length_append, List.length_singleton]
      omega
  case skip => exact ⟨g.c, g.b, g.cv, g.bv, g.k, g.s⟩
  case zero => split <;> exact ⟨g.c, g.b, g.cv, g.bv, g.k, g.s⟩
  case same => split <;> exact ⟨g.c, g.b, g.cv, g.bv, g.k, g.s⟩
  case copy => exact ⟨by simp [g.c], g.b, mem_set_byte g.cv (cy _), g.bv, g.k, g.s⟩
theorem step_good {ws : List Int} {m : M} (hw : ∀ x ∈ ws, Byte x) (g : Good m) : Good (step ws m) := by
  cases e : rowAt ws m.place with
  | none =>
    rw [step_none e]
    exact ⟨g.c, g.b, g.cv, g.bv, g.k, g.s⟩
  | some r =>
    rw [step_some e]
    have gs := g.s
    refine doK_good (rowAt_ok hw e) ⟨g.c, g.b, g.cv, g.bv, g.k, ?_⟩ fun _ => ?_
    · simp only [List.length_append, List.length_singleton]
      omega
    · simp only [List.length_append, List.length_singleton]
      omega
def init (ws : List Int) (begin : Int) : M := ⟨ws ++ List.replicate (256 - ws.length) 0, [0, 0, 0, 0], [], [], [], begin, ""⟩
theorem init_good {ws : List Int} {begin : Int} (hl : ws.length ≤ 256) (hw : ∀ x ∈ ws, Byte x) : Good (init ws begin) := by
  refine ⟨by simp [init]; omega, rfl, fun x hx => ?_, fun x hx => ?_, Nat.zero_le _, Nat.zero_le _⟩
  · rcases List.mem_append.mp hx with h | h
    · exact hw x h
    · rw [(List.mem_replicate.mp h).2]
      exact ⟨by decide, by decide⟩
  · have e : x = 0 := by simpa [init] using hx
    rw [e]
    exact ⟨by decide, by decide⟩
end Rs
namespace Rs
open PySem PySem.Spec PyProof.Rows L2
abbrev sD_row_size : Stmt := top 6
abbrev N_row_size : List Str := ["op"]
theorem sc_row_size : FnScope N_row_size ["op"] (defScope sD_row_size) := ⟨rfl, rfl, rfl, by decide +kernel, rfl, by decide +kernel, by decide +kernel⟩
abbrev sD_signed : Stmt := top 7
abbrev N_signed : List Str := ["word"]
theorem sc_signed : FnScope N_signed ["word"] (defScope sD_signed) := ⟨rfl, rfl, rfl, by decide +kernel, rfl, by decide +kernel, by decide +kernel⟩
abbrev sD_op_of : Stmt := top 8
abbrev N_op_of : List Str := ["word", "op", "first", "boxes", "numbers"]
theorem sc_op_of : FnScope N_op_of ["word"] (defScope sD_op_of) := ⟨rfl, rfl, rfl, by decide +kernel, rfl, by decide +kernel, by decide +kernel⟩
abbrev sD_boxes_of : Stmt := top 9
abbrev N_boxes_of : List Str := ["op", "word", "first", "many", "numbers"]
theorem sc_boxes_of : FnScope N_boxes_of ["op", "word"] (defScope sD_boxes_of) := ⟨rfl, rfl, rfl, by decide +kernel, rfl, by decide +kernel, by decide +kernel⟩
abbrev sD_row_at : Stmt := top 10
abbrev N_row_at : List Str := ["words", "place", "word", "op"]
theorem sc_row_at : FnScope N_row_at ["words", "place"] (defScope sD_row_at) := ⟨rfl, rfl, rfl, by decide +kernel, rfl, by decide +kernel, by decide +kernel⟩
abbrev sD_Walkinit : Stmt := inClass (top 15) 0
abbrev N_Walkinit : List Str := ["self"]
theorem sc_Walkinit : FnScope N_Walkinit ["self"] (defScope sD_Walkinit) := ⟨rfl, rfl, rfl, by decide +kernel, rfl, by decide +kernel, by decide +kernel⟩
abbrev sD_goal_of : Stmt := top 16
abbrev N_goal_of : List Str := ["place", "row", "op", "boxes", "numbers"]
theorem sc_goal_of : FnScope N_goal_of ["place", "row"] (defScope sD_goal_of) := ⟨rfl, rfl, rfl, by decide +kernel, rfl, by decide +kernel, by decide +kernel⟩
abbrev sD_leads_of : Stmt := top 17
abbrev N_leads_of : List Str := ["place", "row", "goal", "leads"]
theorem sc_leads_of : FnScope N_leads_of ["place", "row"] (defScope sD_leads_of) := ⟨rfl, rfl, rfl, by decide +kernel, rfl, by decide +kernel, by decide +kernel⟩
abbrev sD_come : Stmt := top 18
abbrev N_come : List Str := ["walk", "words", "place", "origin", "row", "places", "spot"]
theorem sc_come : FnScope N_come ["walk", "words", "place", "origin"] (defScope sD_come) := ⟨rfl, rfl, rfl, by decide +kernel, rfl, by decide +kernel, by decide +kernel⟩
abbrev sD_walked : Stmt := top 19
abbrev N_walked : List Str := ["words", "begins", "walk", "waiting", "least", "place", "origin", "leads", "begin", "lead"]
theorem sc_walked : FnScope N_walked ["words", "begins"] (defScope sD_walked) := ⟨rfl, rfl, rfl, by decide +kernel, rfl, by decide +kernel, by decide +kernel⟩
abbrev sD_is_whole : Stmt := top 28
abbrev N_is_whole : List Str := ["number", "most"]
theorem sc_is_whole : FnScope N_is_whole ["number", "most"] (defScope sD_is_whole) := ⟨rfl, rfl, rfl, by decide +kernel, rfl, by decide +kernel, by decide +kernel⟩
abbrev sD_check_words : Stmt := top 29
abbrev N_check_words : List Str := ["words", "number", "word"]
theorem sc_check_words : FnScope N_check_words ["words"] (defScope sD_check_words) := ⟨rfl, rfl, rfl, by decide +kernel, rfl, by decide +kernel, by decide +kernel⟩
abbrev sD_check_begins : Stmt := top 30
abbrev N_check_begins : List Str := ["begins", "number", "begin"]
theorem sc_check_begins : FnScope N_check_begins ["begins"] (defScope sD_check_begins) := ⟨rfl, rfl, rfl, by decide +kernel, rfl, by decide +kernel, by decide +kernel⟩
abbrev sD_checked_walk : Stmt := top 32
abbrev N_checked_walk : List Str := ["words", "begins"]
theorem sc_checked_walk : FnScope N_checked_walk ["words", "begins"] (defScope sD_checked_walk) := ⟨rfl, rfl, rfl, by decide +kernel, rfl, by decide +kernel, by decide +kernel⟩
abbrev sD_come_to : Stmt := top 33
abbrev N_come_to : List Str := ["words", "begins", "rows", "place"]
theorem sc_come_to : FnScope N_come_to ["words", "begins"] (defScope sD_come_to) := ⟨rfl, rfl, rfl, by decide +kernel, rfl, by decide +kernel, by decide +kernel⟩
abbrev sD_middles : Stmt := top 34
abbrev N_middles : List Str := ["words", "begins"]
theorem sc_middles : FnScope N_middles ["words", "begins"] (defScope sD_middles) := ⟨rfl, rfl, rfl, by decide +kernel, rfl, by decide +kernel, by decide +kernel⟩
abbrev sD__law_start : Stmt := top 36
abbrev N__law_start : List Str := ["_law_script", "_law_mixed", "_law_cell"]
theorem sc__law_start : FnScope N__law_start ["_law_script"] (defScope sD__law_start) := ⟨rfl, rfl, rfl, by decide +kernel, rfl, by decide +kernel, by decide +kernel⟩
abbrev sD__law_drawn : Stmt := top 37
abbrev N__law_drawn : List Str := ["_law_state", "_law_many", "_law_found", "_law_cell"]
theorem sc__law_drawn : FnScope N__law_drawn ["_law_state", "_law_many"] (defScope sD__law_drawn) := ⟨rfl, rfl, rfl, by decide +kernel, rfl, by decide +kernel, by decide +kernel⟩
abbrev sD__law_same : Stmt := top 38
abbrev N__law_same : List Str := ["_law_found", "_law_due", "_law_is_so", "_law_k"]
theorem sc__law_same : FnScope N__law_same ["_law_found", "_law_due"] (defScope sD__law_same) := ⟨rfl, rfl, rfl, by decide +kernel, rfl, by decide +kernel, by decide +kernel⟩
abbrev sD__law_all_codes : Stmt := top 39
abbrev N__law_all_codes : List Str := ["_law_some"]
theorem sc__law_all_codes : FnScope N__law_all_codes [] (defScope sD__law_all_codes) := ⟨rfl, rfl, rfl, by decide +kernel, rfl, by decide +kernel, by decide +kernel⟩
abbrev sD__law_forms : Stmt := top 40
abbrev N__law_forms : List Str := ["_law_row"]
theorem sc__law_forms : FnScope N__law_forms [] (defScope sD__law_forms) := ⟨rfl, rfl, rfl, by decide +kernel, rfl, by decide +kernel, by decide +kernel⟩
abbrev sD__law_read : Stmt := top 41
abbrev N__law_read : List Str := ["_law_words", "_law_place", "_law_first", "_law_op", "_law_base", "_law_many", "_law_more", "_law_one", "_law_two"]
theorem sc__law_read : FnScope N__law_read ["_law_words", "_law_place"] (defScope sD__law_read) := ⟨rfl, rfl, rfl, by decide +kernel, rfl, by decide +kernel, by decide +kernel⟩
abbrev sD__law_any_words : Stmt := top 42
abbrev N__law_any_words : List Str := ["_law_state", "_law_some", "_law_many", "_law_found", "_law_codes", "_law_way", "_law_op", "_law_base", "_law_boxes", "_law_more", "_law_k", "_law_near"]
theorem sc__law_any_words : FnScope N__law_any_words ["_law_state"] (defScope sD__law_any_words) := ⟨rfl, rfl, rfl, by decide +kernel, rfl, by decide +kernel, by decide +kernel⟩
abbrev sD__law_trace : Stmt := top 43
abbrev N__law_trace : List Str := ["_law_words", "_law_begins_here", "_law_rows", "_law_waiting", "_law_apart", "_law_place", "_law_start_here", "_law_taken", "_law_other", "_law_row", "_law_mine", "_law_op", "_law_behind", "_law_k", "_law_one"]
theorem sc__law_trace : FnScope N__law_trace ["_law_words", "_law_begins_here"] (defScope sD__law_trace) := ⟨rfl, rfl, rfl, by decide +kernel, rfl, by decide +kernel, by decide +kernel⟩
abbrev sD__law_begins : Stmt := top 44
abbrev N__law_begins : List Str := ["_law_state", "_law_words", "_law_many", "_law_k"]
theorem sc__law_begins : FnScope N__law_begins ["_law_state", "_law_words"] (defScope sD__law_begins) := ⟨rfl, rfl, rfl, by decide +kernel, rfl, by decide +kernel, by decide +kernel⟩
abbrev sD_law : Stmt := top 45
abbrev N_law : List Str := ["_law_script", "_law_state", "_law_turn", "_law_words", "_law_begins_here", "_law_rows", "_law_apart", "_law_due", "_law_handed", "_law_again", "_law_found", "_law_place"]
theorem sc_law : FnScope N_law ["_law_script"] (defScope sD_law) := ⟨rfl, rfl, rfl, by decide +kernel, rfl, by decide +kernel, by decide +kernel⟩

/-- what the top has left, as far as it is asked -/
structure Txt (w : World) (K : PySem.W.Frag) (mg : Str → Option Value) : Prop where
  free_any : mg "any" = none
  free_bool : mg "bool" = none
  free_dict : mg "dict" = none
  free_enumerate : mg "enumerate" = none
  free_int : mg "int" = none
  free_isinstance : mg "isinstance" = none
  free_len : mg "len" = none
  free_list : mg "list" = none
  free_min : mg "min" = none
  free_range : mg "range" = none
  free_sorted : mg "sorted" = none
  free_tuple : mg "tuple" = none
  g_TAKE_FIRST : ∃ t, mg "TAKE_FIRST" = some (.int 144 t)
  g_TAKE_SPAN : ∃ t, mg "TAKE_SPAN" = some (.int 32 t)
  g_TAKE_NUMBERS : ∃ t, mg "TAKE_NUMBERS" = some (.int 8 t)
  g_BEGIN : ∃ t, mg "BEGIN" = some (.int (-1) t)
  g_WORDS_MOST : ∃ t, mg "WORDS_MOST" = some (.int 256 t)
  g_WORD_MOST : ∃ t, mg "WORD_MOST" = some (.int 255 t)
  g_BEGINS_MOST : ∃ t, mg "BEGINS_MOST" = some (.int 16 t)
  g_OPS : mg "OPS" = some (.ref (He.ga K "OPS"))
  g_SPANS : mg "SPANS" = some (.ref (He.ga K "SPANS"))
  g_GOING : mg "GOING" = some (.ref (He.ga K "GOING"))
  g_NOT_BEHIND : mg "NOT_BEHIND" = some (.ref (He.ga K "NOT_BEHIND"))
  t_SPANS : ∀ H, SqT K H (He.ga K "SPANS") [.int 1, .int 4, .int 16]
  t_GOING : ∀ H, SqT K H (He.ga K "GOING") [.str "jump", .str "call", .str "zero", .str "same"]
  t_NOT_BEHIND : ∀ H, SqT K H (He.ga K "NOT_BEHIND") [.str "stop", .str "back", .str "jump", .str "skip"]
  tab : KTab K w (He.ga K "OPS") (codes.map fun c => c.1.str)
  ops : ∀ c ∈ codes, ∃ a, KDct K w (He.ga K "OPS") c.1.str (.ref a) ∧ ∀ H, SqT K H a [.int c.2.1, .int c.2.2.1, .int c.2.2.2]
end Rs
namespace Rs
open PySem PySem.Spec PyProof.Rows L2 C8
section
variable {P : Program} {w : World} {K : PySem.W.Frag} {mg : Str → Option Value} {base : Heap}
def spWhole : Sp := fun vs H Q _ => ∃ n m : Int, vs = [.int n, .int m] ∧ Q (.bl (decide (0 ≤ n ∧ n ≤ m))) H
theorem ok_is_whole (D : DefAt K mg "is_whole" sD_is_whole) (T : Txt w K mg) : Cal P w K mg base 1 "is_whole" spWhole [] := by
  refine cal_of D sc_is_whole (fun _ _ _ _ _ _ us hl => match us, hl with | [_, _], _ => rfl) (fun vs H Q E h => ?_) (fun cdv A outer s H vs Q E hr h => ?_)
  · obtain ⟨n, m, rfl, _⟩ := h
    rfl
  · obtain ⟨n, m, rfl, k⟩ := h
    refine ⟨_, (pss_one (ps_ret (pe_and (pe_callB call_isi (by rfl) T.free_isinstance (by decide +kernel) (pa_cons (pv 0) (pa_cons (pe_bltn (by rfl) T.free_int (by decide +kernel) (v := .ty "int") rfl) pa_nil))) (pe_and (pe_not (pe_callB call_isi (by rfl) T.free_isinstance (by decide +kernel) (pa_cons (pv 0) (pa_cons (pe_bltn (by rfl) T.free_bool (by decide +kernel) (v := .ty "bool") rfl) pa_nil)))) (pe_one (pe_chain op_le op_le pe_int (pv 0) (pv 1))))))), ?_⟩
    refine ⟨_, rfl, _, _, _, _, true, rfl, .ty _, .base (.int _), kit_ty (by decide +kernel), true, rfl, iteT ?_⟩
    refine ⟨_, rfl, _, _, _, _, false, rfl, .ty _, .base (.int _), kit_ty (by decide +kernel), false, rfl, true, rfl, iteT ?_⟩
    refine ⟨_, rfl, _, _, rfl, rfl, _, rfl, ?_⟩
    by_cases h0 : 0 ≤ n
    · rw [decide_eq_true h0]
      refine iteT ⟨_, rfl, _, _, rfl, rfl, ?_⟩
      have e : decide (0 ≤ n ∧ n ≤ m) = decide (n ≤ m) := by simp [h0]
      rw [e] at k
      exact k
    · rw [decide_eq_false h0]
      refine iteF ?_
      have e : decide (0 ≤ n ∧ n ≤ m) = false := by simp [h0]
      rw [e] at k
      exact k
def spSigned : Sp := fun vs H Q _ => ∃ n : Int, vs = [.int n] ∧ Q (.int (if n < 128 then n else n - 256)) H
theorem ok_signed (D : DefAt K mg "signed" sD_signed) : Cal P w K mg base 1 "signed" spSigned [] := by
  refine cal_of D sc_signed (fun _ _ _ _ _ _ us hl => match us, hl with | [_], _ => rfl) (fun vs H Q E h => ?_) (fun cdv A outer s H vs Q E hr h => ?_)
  · obtain ⟨n, rfl, _⟩ := h
    rfl
  · obtain ⟨n, rfl, k⟩ := h
    refine ⟨_, (pss_one (ps_ret (pe_ifExp (pt_cmpR op_lt (pv 0) pe_int (nomark _)) (pv 0) (pe_op op_sub (pv 0) pe_int)))), ?_⟩
    refine ⟨_, rfl, _, _, rfl, rfl, _, rfl, ?_⟩
    by_cases h0 : n < 128
    · rw [decide_eq_true h0]
      rw [if_pos h0] at k
      exact iteT ⟨_, rfl, k⟩
    · rw [decide_eq_false h0]
      rw [if_neg h0] at k
      exact iteF ⟨_, rfl, _, _, rfl, rfl, k⟩
def spSize : Sp := fun vs H Q _ => ∃ k : Kd, vs = [.str k.str] ∧ Q (.int (rSize k : Nat)) H
theorem code_of : ∀ k : Kd, k ≠ .take → ∃ c ∈ codes, c.1 = k ∧ rSize k = 1 + c.2.2.2 := by
  intro k h
  cases k <;> first | exact absurd rfl h | decide
theorem str_take : ∀ k : Kd, k ≠ .take → ¬ (k.str = ("take" : Str)) := by
  intro k h
  cases k <;> first | exact absurd rfl h | decide +kernel
theorem ok_row_size (D : DefAt K mg "row_size" sD_row_size) (T : Txt w K mg) : Cal P w K mg base 1 "row_size" spSize [] := by
  refine cal_of D sc_row_size (fun _ _ _ _ _ _ us hl => match us, hl with | [_], _ => rfl) (fun vs H Q E h => ?_) (fun cdv A outer s H vs Q E hr h => ?_)
  · obtain ⟨n, rfl, _⟩ := h
    rfl
  · obtain ⟨d, rfl, k⟩ := h
    refine ⟨_, (pss_one (ps_ret (pe_ifExp (pt_cmpR op_eq (pv 0) pe_str (nomark _)) pe_int (pe_op op_add pe_int (pe_ix ix_tup (pe_ix ix_kdict (pe_gR (by rfl) T.g_OPS) (pv 0) (fun _ _ => rfl)) pe_int (fun _ _ => rfl)))))), ?_⟩
    refine ⟨_, rfl, rfl, _, rfl, ?_⟩
    by_cases hd : d = .take
    · subst hd
      refine ite2 (fun _ => k) (fun q => absurd (decide_eq_true rfl) q)
    · refine ite2 (fun q => absurd (V.str.inj (of_decide_eq_true q)) (str_take d hd)) (fun _ => ?_)
      obtain ⟨c, cm, rfl, ce⟩ := code_of d hd
      obtain ⟨a, ha, hT⟩ := T.ops c cm
      refine ⟨_, rfl, _, _, _, rfl, rfl, ha, _, _, _, _, rfl, rfl, hT _, atI_nat (j := 2) rfl, _, _, rfl, rfl, ?_⟩
      rw [ce] at k
      have e : ((1 + c.2.2.2 : Nat) : Int) = 1 + (c.2.2.2 : Int) := by omega
      rw [e] at k
      exact k
end
end Rs
namespace Rs
open PySem PySem.Spec PyProof.Rows L2 C8
theorem findC_cons (c : Code) (r : List Code) (n : Int) : findC (c :: r) n = if c.2.1 ≤ n ∧ n < c.2.1 + span c.2.2.1 then some c else findC r n := rfl
abbrev il (ws : List Int) : List V := ws.map V.int
theorem ints_get {ws : List Int} {i : Nat} {x : V} (h : (il ws)[i]? = some x) : i < ws.length ∧ x = V.int (ws.getD i 0) := by
  rw [List.getElem?_map] at h
  cases e : ws[i]? with
  | none =>
    rw [e] at h
    cases h
  | some u =>
    rw [e] at h
    obtain ⟨hi, _⟩ := List.getElem?_eq_some_iff.mp e
    refine ⟨hi, ?_⟩
    rw [List.getD_eq_getElem?_getD, e]
    exact (Option.some.inj h).symm
theorem ints_at {ws : List Int} {i : Nat} (h : i < ws.length) : (il ws)[i]? = some (V.int (ws.getD i 0)) := by
  rw [List.getElem?_map, List.getD_eq_getElem?_getD, List.getElem?_eq_getElem h]
  rfl
theorem ints_atI {ws : List Int} {p : Int} (h0 : 0 ≤ p) (h : p < (ws.length : Int)) : atI (il ws) p = some (V.int (ws.getD p.toNat 0)) := by
  have e : p = ((p.toNat : Nat) : Int) := by omega
  rw [e]
  have := atI_nat (ints_at (ws := ws) (i := p.toNat) (by omega))
  exact this
theorem _root_.L2.Same.new {H : Hp} {p : Addr} {o : HO} (h : H p = none) : Same H (upd H p o) := fun b u e => by rw [upd_ne (ne_of_none e h)]; exact e
theorem _root_.L2.Same.add {H H' : Hp} {p : Addr} {o : HO} (s : Same H H') (h : H' p = none) : Same H (upd H' p o) := s.trans (Same.new h)
theorem _root_.L2.Same.putNew {H H' : Hp} {p : Addr} {o : HO} (s : Same H H') (h : H p = none) : Same H (upd H' p o) := fun b u e => by rw [upd_ne (ne_of_none e h)]; exact s _ _ e
theorem _root_.L2.Same.tup {K : PySem.W.Frag} {H H' : Hp} {a : Addr} {xs : List V} (e : Same H H') (h : SqT K H a xs) : SqT K H' a xs := by
  rcases h with (h | ⟨o, h⟩) | h
  · exact .inl (.inl (e _ _ h))
  · exact .inl (.inr ⟨o, e _ _ h⟩)
  · exact .inr h
section
variable {P : Program} {w : World} {K : PySem.W.Frag} {mg : Str → Option Value} {base : Heap}
def Bytes (ws : List Int) : Prop := ∀ x ∈ ws, Byte x
def spCheckW (K : PySem.W.Frag) : Sp := fun vs H Q _ => ∃ (a : Addr) (ws : List Int), vs = [.ref a] ∧ SqL K H a (il ws) ∧ ws.length ≤ 256 ∧ Bytes ws ∧ ∀ H', Same H H' → Q .non H'
theorem ok_check_words (D : DefAt K mg "check_words" sD_check_words) (T : Txt w K mg) (c_is_whole : Cal P w K mg base 1 "is_whole" spWhole []) : Cal P w K mg base 2 "check_words" (spCheckW K) [] := by
  refine cal_of D sc_check_words (fun _ _ _ _ _ _ us hl => match us, hl with | [_], _ => rfl) (fun vs H Q E h => ?_) (fun cdv A outer s H vs Q E hr h => ?_)
  · obtain ⟨a, ws, rfl, _⟩ := h
    rfl
  · obtain ⟨a, ws, rfl, hS, hl, hb, k⟩ := h
    refine ⟨_, (pss_one (ps_for PassesOwn.never rfl (pi_enum (by rfl) T.free_enumerate (pa_cons (pv 0) pa_nil)) (pg_tup rfl (pgs_cons (pg_name (i := 1) sc_check_words.nd rfl (Or.inl rfl)) (pgs_cons (pg_name (i := 2) sc_check_words.nd rfl (Or.inl rfl)) pgs_nil)))
   (pss_one (ps_if (PW.pt (pw_or (pt_cmpR op_ge (pv 1) (pe_gI (by rfl) T.g_WORDS_MOST) (nomark _)) (pw_or1 (pt_not (pt_val (pe_c c_is_whole hr (by decide) (by rfl) (pa_cons (pv 2) (pa_cons (pe_gI (by rfl) T.g_WORD_MOST) pa_nil))))))))
   (pss_one ps_never)
   pss_nil)))), ?_⟩
    refine ⟨_, rfl, a, _, rfl, hS, for_it (walk_enum (K := K) (a := a) (xs := il ws)) (fun i σ H' => Same H H' ∧ ∃ x y, σ = [some (.ref a), x, y]) ⟨Same.refl _, _, _, rfl⟩ (fun i σ H' _ ⟨s, _⟩ => s.seq hS) ?_ (fun σ H' ⟨s, _⟩ => k _ s)⟩
    rintro i v σ H1 H2 hi ⟨s1, x, y, rfl⟩ ⟨T', x1, y1, rfl, hn, rfl, e1, e2⟩
    cases e1
    obtain ⟨hi2, rfl⟩ := ints_get e2
    have hby := hb _ (getD_mem hi2)
    refine ⟨T', _, rfl, SqT.of upd_same, rfl, _, _, rfl, _, _, rfl, rfl, ?_⟩
    refine ⟨_, rfl, _, _, rfl, rfl, _, rfl, ?_⟩
    have e0 : decide ((256 : Int) ≤ ((i : Nat) : Int)) = false := decide_eq_false (by omega)
    rw [e0]
    refine iteF ?_
    refine ⟨_, rfl, _, _, rfl, _, rfl, ?_⟩
    have e3 : decide (0 ≤ ws.getD i 0 ∧ ws.getD i 0 ≤ 255) = true := decide_eq_true ⟨hby.1, by have := hby.2; omega⟩
    rw [e3]
    exact iteF ⟨s1.add hn, _, _, rfl⟩
def spCheckB : Sp := fun vs H Q _ => ∃ n : Int, vs = [.int n] ∧ 0 ≤ n ∧ n ≤ 255 ∧ Q .non H
def spCheckM : Sp := fun vs H Q _ => ∃ n : Int, vs = [.int n] ∧ 0 ≤ n ∧ n ≤ 1000 ∧ Q .non H
def opOf (w : Int) : Option Kd := if 144 ≤ w ∧ w < 176 then some .take else (findC codes w).map (·.1)
def spOpOf : Sp := fun vs H Q _ => ∃ n : Int, vs = [.int n] ∧ Q (match opOf n with | none => .non | some k => .str k.str) H
theorem span_at : ∀ c ∈ codes, ([V.int 1, V.int 4, V.int 16] : List V)[c.2.2.1]? = some (V.int (span c.2.2.1)) := by decide
theorem ok_op_of (D : DefAt K mg "op_of" sD_op_of) (T : Txt w K mg) : Cal P w K mg base 1 "op_of" spOpOf [] := by
  refine cal_of D sc_op_of (fun _ _ _ _ _ _ us hl => match us, hl with | [_], _ => rfl) (fun vs H Q E h => ?_) (fun cdv A outer s H vs Q E hr h => ?_)
  · obtain ⟨n, rfl, _⟩ := h
    rfl
  · obtain ⟨n, rfl, k⟩ := h
    refine ⟨_, (pss_cut (ps_if (pt_chain op_le op_lt (pe_gI (by rfl) T.g_TAKE_FIRST) (pv 0) (pe_op op_add (pe_gI (by rfl) T.g_TAKE_FIRST) (pe_gI (by rfl) T.g_TAKE_SPAN)))
   (pss_one (ps_ret pe_str))
   pss_nil)
  (pss_cons (ps_for PassesOwn.never rfl (pi_keysK (pe_gR (by rfl) T.g_OPS)) (pg_name (i := 1) sc_op_of.nd rfl (Or.inl rfl))
   (pss_cons (ps_asg (pe_ix ix_kdict (pe_gR (by rfl) T.g_OPS) (pv 1) (fun _ _ => rfl)) (pg_tup rfl (pgs_cons (pg_name (i := 2) sc_op_of.nd rfl (Or.inl rfl)) (pgs_cons (pg_name (i := 3) sc_op_of.nd rfl (Or.inl rfl)) (pgs_cons (pg_name (i := 4) sc_op_of.nd rfl (Or.inl rfl)) pgs_nil)))))
  (pss_one (ps_if (pt_chain op_le op_lt (pv 2) (pv 0) (pe_op op_add (pv 2) (pe_ix ix_tup (pe_gR (by rfl) T.g_SPANS) (pv 3) (fun _ _ => rfl))))
   (pss_one (ps_ret (pv 1)))
   pss_nil))))
  (pss_one (ps_ret pe_non)))), ?_⟩
    refine ⟨fun σ' H' => σ' = start N_op_of [.int n] ∧ H' = H ∧ ¬ (144 ≤ n ∧ n < 176), ?_, ?_⟩
    · refine ⟨_, rfl, _, _, rfl, rfl, _, rfl, ?_⟩
      by_cases h1 : 144 ≤ n
      · rw [decide_eq_true h1]
        refine iteT ⟨_, _, rfl, rfl, _, _, rfl, rfl, _, rfl, ?_⟩
        by_cases h2 : n < 144 + 32
        · rw [decide_eq_true h2]
          refine iteT ?_
          have e : opOf n = some .take := if_pos ⟨h1, by omega⟩
          rw [e] at k
          exact k
        · rw [decide_eq_false h2]
          exact iteF ⟨rfl, rfl, by omega⟩
      · rw [decide_eq_false h1]
        exact iteF ⟨_, rfl, iteF ⟨rfl, rfl, by omega⟩⟩
    · rintro σ' H' ⟨rfl, rfl, hn⟩
      have eo : opOf n = (findC codes n).map (·.1) := if_neg hn
      rw [eo] at k
      refine ⟨_, _, rfl, T.tab, for_keysK (fun i σ H1 => H1 = H' ∧ findC (codes.drop i) n = findC codes n ∧ ∃ x y z u, σ = [some (.int n), x, y, z, u]) ⟨rfl, rfl, _, _, _, _, rfl⟩ ?_ ?_⟩
      · rintro i op σ H1 hop ⟨rfl, hf, x, y, z, u, rfl⟩
        rw [List.getElem?_map] at hop
        cases ec : codes[i]? with
        | none =>
          rw [ec] at hop
          cases hop
        | some c =>
          rw [ec] at hop
          cases hop
          have cm : c ∈ codes := List.mem_of_getElem? ec
          obtain ⟨hi, ei⟩ := List.getElem?_eq_some_iff.mp ec
          obtain ⟨a, ha, hT⟩ := T.ops c cm
          rw [List.drop_eq_getElem_cons hi, ei] at hf
          rw [findC_cons] at hf
          refine ⟨_, rfl, _, _, _, rfl, rfl, ha, a, _, rfl, hT _, rfl, _, _, rfl, _, _, rfl, _, _, rfl, rfl, ?_⟩
          refine ⟨_, rfl, _, rfl, _, _, rfl, rfl, _, rfl, ?_⟩
          by_cases h1 : c.2.1 ≤ n
          · rw [decide_eq_true h1]
            refine iteT ⟨_, rfl, _, rfl, _, _, _, _, rfl, rfl, T.t_SPANS _, atI_nat (span_at c cm), _, _, rfl, rfl, _, _, rfl, rfl, _, rfl, ?_⟩
            by_cases h2 : n < c.2.1 + span c.2.2.1
            · rw [decide_eq_true h2]
              refine iteT ⟨_, rfl, ?_⟩
              rw [if_pos ⟨h1, h2⟩] at hf
              rw [← hf] at k
              exact k
            · rw [decide_eq_false h2]
              rw [if_neg (fun q => h2 q.2)] at hf
              exact iteF ⟨rfl, hf, _, _, _, _, rfl⟩
          · rw [decide_eq_false h1]
            rw [if_neg (fun q => h1 q.1)] at hf
            exact iteF ⟨_, rfl, iteF ⟨rfl, hf, _, _, _, _, rfl⟩⟩
      · rintro σ H1 ⟨rfl, hf, x, y, z, u, rfl⟩
        have e0 : codes.drop (codes.map fun c => c.1.str).length = [] := by rw [List.length_map]; exact List.drop_length
        rw [e0] at hf
        rw [← hf] at k
        exact k
end
end Rs
namespace Rs
open PySem PySem.Spec PyProof.Rows L2 C8
section
variable {P : Program} {w : World} {K : PySem.W.Frag} {mg : Str → Option Value} {base : Heap}
def spBoxes : Sp := fun vs H Q _ => ∃ (c : Code) (n : Int), vs = [.str c.1.str, .int n] ∧ c ∈ codes ∧ ∀ H' b, Same H H' → H b = none → H' b = some (.lst (il (boxesOf c.2.1 c.2.2.1 n))) → Q (.ref b) H'
theorem ok_boxes_of (D : DefAt K mg "boxes_of" sD_boxes_of) (T : Txt w K mg) : Cal P w K mg base 1 "boxes_of" spBoxes [] := by
  refine cal_of D sc_boxes_of (fun _ _ _ _ _ _ us hl => match us, hl with | [_, _], _ => rfl) (fun vs H Q E h => ?_) (fun cdv A outer s H vs Q E hr h => ?_)
  · obtain ⟨c, n, rfl, _⟩ := h
    rfl
  · obtain ⟨c, n, rfl, cm, k⟩ := h
    refine ⟨_, (pss_cons (ps_asg (pe_ix ix_kdict (pe_gR (by rfl) T.g_OPS) (pv 0) (fun _ _ => rfl)) (pg_tup rfl (pgs_cons (pg_name (i := 2) sc_boxes_of.nd rfl (Or.inl rfl)) (pgs_cons (pg_name (i := 3) sc_boxes_of.nd rfl (Or.inl rfl)) (pgs_cons (pg_name (i := 4) sc_boxes_of.nd rfl (Or.inl rfl)) pgs_nil)))))
  (pss_cons (ps_if (pt_cmpR op_eq (pv 3) pe_int (nomark _))
   (pss_one (ps_ret (pe_lst (pa_cons (pe_op op_fdiv (pe_op op_sub (pv 1) (pv 2)) pe_int) (pa_cons (pe_op op_mod (pe_op op_sub (pv 1) (pv 2)) pe_int) pa_nil)))))
   pss_nil)
  (pss_one (ps_ret (pe_op op_rep (pe_lst (pa_cons (pe_op op_sub (pv 1) (pv 2)) pa_nil)) (pv 3)))))), ?_⟩
    obtain ⟨a, ha, hT⟩ := T.ops c cm
    obtain ⟨k1, k2, k3, k4⟩ := codes_ok c cm
    refine ⟨_, rfl, _, _, _, rfl, rfl, ha, a, _, rfl, hT _, rfl, _, _, rfl, _, _, rfl, _, _, rfl, rfl, ?_⟩
    generalize hm : c.2.2.1 = mm at k k4
    refine ⟨_, rfl, rfl, _, rfl, ?_⟩
    by_cases h2 : mm = 2
    · subst h2
      refine ite2 (fun _ => ?_) (fun q => absurd (decide_eq_true rfl) q)
      refine ⟨_, rfl, _, rfl, _, _, rfl, rfl, _, _, rfl, rfl, ⟨by decide, by decide⟩, _, rfl, _, rfl, _, _, rfl, rfl, _, _, rfl, rfl, (by show (0 : Int) < 4; decide), (by show 2 ≤ sizeLine; decide), fun b hb => ?_⟩
      exact k _ b (Same.new hb) hb upd_same
    · refine ite2 (fun q => absurd (V.int.inj (of_decide_eq_true q)) (by omega)) (fun _ => ?_)
      refine ⟨_, rfl, _, rfl, _, _, rfl, rfl, (by show 1 ≤ sizeLine; decide), fun p hp => ?_⟩
      refine ⟨_, rfl, p, _, _, rfl, rfl, upd_same, by omega, by omega, ?_, fun b hb => ?_⟩
      · have : mm ≤ 2 := k4
        have e : (((mm : Nat) : Int)).toNat = mm := by omega
        rw [e]
        have : ([V.int (n - c.2.1)] : List V).length * mm ≤ 2 := by simp; omega
        exact Nat.le_trans this (by decide)
      · have hb0 : H b = none := (Same.new (o := .lst [V.int (n - c.2.1)]) hp).free hb
        refine k _ b ((Same.new hp).add hb) hb0 ?_
        rw [upd_same]
        match mm, k4, h2 with
        | 0, _, _ => rfl
        | 1, _, _ => rfl
        | 2, _, h => exact absurd rfl h
def spRowAt (K : PySem.W.Frag) : Sp := fun vs H Q _ => ∃ (a : Addr) (ws : List Int) (p : Int), vs = [.ref a, .int p] ∧ SqL K H a (il ws) ∧ ws.length ≤ 256 ∧
  (rowAt ws p = none → Q .non H) ∧ ∀ r, rowAt ws p = some r → ∀ H' t b n, Same H H' → H t = none → H b = none → H n = none → H' t = some (.tup [.str r.k.str, .ref b, .ref n]) → H' b = some (.lst (il r.bx)) → H' n = some (.lst (il r.nm)) → Q (.ref t) H'
theorem cut_il {ws : List Int} {lo : Nat} (hi : Nat) (h : lo ≤ ws.length) : cutV (il ws) (some (lo : Int)) (some (hi : Int)) = il ((ws.drop lo).take (hi - lo)) := by
  unfold cutV il
  rw [HT.sIx_nat, HT.sIx_nat, List.length_map, ← List.map_drop, ← List.map_take]
  congr 1
  rw [Nat.min_eq_left h]
  by_cases h2 : hi ≤ ws.length
  · rw [Nat.min_eq_left h2]
  · rw [Nat.min_eq_right (by omega), List.take_of_length_le (by rw [List.length_drop]; omega), List.take_of_length_le (by rw [List.length_drop]; omega)]
theorem rowAt_in {ws : List Int} {p : Int} (hp : 0 ≤ p ∧ p < (ws.length : Int)) : rowAt ws p = (if 144 ≤ ws.getD p.toNat 0 ∧ ws.getD p.toNat 0 < 176 then some ⟨.take, [(ws.getD p.toNat 0 - 144) / 8], [(ws.getD p.toNat 0 - 144) % 8], 1⟩
    else match findC codes (ws.getD p.toNat 0) with
      | none => none
      | some c => if p + (1 + c.2.2.2 : Nat) > ws.length then none else some ⟨c.1, boxesOf c.2.1 c.2.2.1 (ws.getD p.toNat 0), (ws.drop (p.toNat + 1)).take c.2.2.2, 1 + c.2.2.2⟩) := by
  unfold rowAt
  rw [if_pos hp] <;> rfl
theorem ok_row_at (D : DefAt K mg "row_at" sD_row_at) (T : Txt w K mg) (c_op_of : Cal P w K mg base 1 "op_of" spOpOf []) (c_row_size : Cal P w K mg base 1 "row_size" spSize []) (c_boxes_of : Cal P w K mg base 1 "boxes_of" spBoxes []) :
    Cal P w K mg base 2 "row_at" (spRowAt K) [] := by
  refine cal_of D sc_row_at (fun _ _ _ _ _ _ us hl => match us, hl with | [_, _], _ => rfl) (fun vs H Q E h => ?_) (fun cdv A outer s H vs Q E hr h => ?_)
  · obtain ⟨c, n, p, rfl, _⟩ := h
    rfl
  · obtain ⟨a, ws, p, rfl, hS, hl, k0, k⟩ := h
    refine ⟨_, (pss_cut (ps_if (pt_not (pt_chain op_le op_lt pe_int (pv 1) (pe_callB call_len_seq (by rfl) T.free_len (by decide +kernel) (pa_cons (pv 0) pa_nil))))
   (pss_one (ps_ret pe_non))
   pss_nil)
  (pss_cons (ps_set (i := 2) sc_row_at.nd rfl (Or.inl rfl) (pe_ix ix_list (pv 0) (pv 1) (fun _ _ => rfl)))
  (pss_cons (ps_set (i := 3) sc_row_at.nd rfl (Or.inl rfl) (pe_c c_op_of hr (by decide) (by rfl) (pa_cons (pv 2) pa_nil)))
  (pss_cut (ps_if (PW.pt (pw_or (pt_cmpR op_isN (pv 3) pe_non (nomark _)) (pw_or1 (pt_cmpR op_gt (pe_op op_add (pv 1) (pe_c c_row_size hr (by decide) (by rfl) (pa_cons (pv 3) pa_nil))) (pe_callB call_len_seq (by rfl) T.free_len (by decide +kernel) (pa_cons (pv 0) pa_nil)) (nomark _)))))
   (pss_one (ps_ret pe_non))
   pss_nil)
  (pss_cons (ps_if (pt_cmpR op_eq (pv 3) pe_str (nomark _))
   (pss_one (ps_ret (pe_tup (pa_cons (pv 3) (pa_cons (pe_lst (pa_cons (pe_op op_fdiv (pe_op op_sub (pv 2) (pe_gI (by rfl) T.g_TAKE_FIRST)) (pe_gI (by rfl) T.g_TAKE_NUMBERS)) pa_nil)) (pa_cons (pe_lst (pa_cons (pe_op op_mod (pe_op op_sub (pv 2) (pe_gI (by rfl) T.g_TAKE_FIRST)) (pe_gI (by rfl) T.g_TAKE_NUMBERS)) pa_nil)) pa_nil))))))
   pss_nil)
  (pss_one (ps_ret (pe_tup (pa_cons (pv 3) (pa_cons (pe_c c_boxes_of hr (by decide) (by rfl) (pa_cons (pv 3) (pa_cons (pv 2) pa_nil))) (pa_cons (pe_slice sl_list (pv 0) (po_some (pe_op op_add (pv 1) pe_int)) (po_some (pe_op op_add (pv 1) (pe_c c_row_size hr (by decide) (by rfl) (pa_cons (pv 3) pa_nil))))) pa_nil))))))))))), ?_⟩
    refine ⟨fun σ' H' => σ' = start N_row_at [.ref a, .int p] ∧ H = H' ∧ (0 ≤ p ∧ p < (ws.length : Int)), ?_, ?_⟩
    · refine ⟨_, rfl, _, _, rfl, rfl, _, rfl, ?_⟩
      by_cases h1 : 0 ≤ p
      · rw [decide_eq_true h1]
        refine iteT ⟨_, rfl, a, _, rfl, .inl hS, _, _, rfl, rfl, _, rfl, ?_⟩
        rw [List.length_map]
        by_cases h2 : p < (ws.length : Int)
        · rw [decide_eq_true h2]
          exact iteF ⟨rfl, rfl, h1, h2⟩
        · rw [decide_eq_false h2]
          exact iteT (k0 (if_neg fun q => h2 q.2))
      · rw [decide_eq_false h1]
        exact iteF ⟨_, rfl, iteT (k0 (if_neg fun q => h1 q.1))⟩
    · rintro σ' H' ⟨rfl, rfl, hp⟩
      have er := rowAt_in hp
      refine ⟨_, rfl, _, rfl, a, _, _, _, rfl, rfl, hS, ints_atI hp.1 hp.2, ?_⟩
      generalize hw : ws.getD p.toNat 0 = n at er
      refine ⟨_, rfl, _, rfl, ?_⟩
      by_cases ht : 144 ≤ n ∧ n < 176
      · have eo : opOf n = some .take := if_pos ht
        rw [if_pos ht] at er
        rw [eo]
        dsimp only
        refine ⟨fun σ' H' => σ' = [some (.ref a), some (.int p), some (.int n), some (.str Kd.take.str)] ∧ H = H', ?_, ?_⟩
        · refine ⟨_, rfl, rfl, _, rfl, ?_⟩
          refine ite2 (fun q => absurd (of_decide_eq_true q) (by intro z; cases z)) (fun _ => ?_)
          refine ⟨_, rfl, _, rfl, .take, rfl, _, _, rfl, rfl, _, rfl, a, _, rfl, .inl hS, _, _, rfl, rfl, _, rfl, ?_⟩
          rw [List.length_map]
          have e : decide ((ws.length : Int) < p + ((rSize Kd.take : Nat) : Int)) = false := decide_eq_false (by have : rSize Kd.take = 1 := rfl; omega)
          rw [e]
          exact iteF ⟨rfl, rfl⟩
        · rintro σ' H' ⟨rfl, rfl⟩
          refine ⟨_, rfl, rfl, _, rfl, ?_⟩
          refine ite2 (fun _ => ?_) (fun q => absurd (decide_eq_true rfl) q)
          refine ⟨_, rfl, _, rfl, _, _, rfl, rfl, _, _, rfl, rfl, ⟨by decide, by decide⟩, (by show 1 ≤ sizeLine; decide), fun b hb => ?_⟩
          refine ⟨_, rfl, _, _, rfl, rfl, _, _, rfl, rfl, (by show (0 : Int) < 8; decide), (by show 1 ≤ sizeLine; decide), fun m hm => ?_⟩
          refine ⟨(by show 3 ≤ sizeLine; decide), fun t ht => ?_⟩
          have s1 := Same.new (o := .lst [V.int ((n - 144) / 8)]) hb
          have s2 := s1.add (o := .lst [V.int ((n - 144) % 8)]) hm
          have hbm : b ≠ m := ne_of_none upd_same hm
          have hbt : b ≠ t := ne_of_none (Same.new hm _ _ upd_same) ht
          have hmt : m ≠ t := ne_of_none upd_same ht
          refine k _ er _ t b m (s2.add ht) (s2.free ht) hb (s1.free hm) upd_same ?_ ?_
          · rw [upd_ne hbt, upd_ne hbm, upd_same]
            rfl
          · rw [upd_ne hmt, upd_same]
            rfl
      · have eo : opOf n = (findC codes n).map (·.1) := if_neg ht
        rw [if_neg ht] at er
        rw [eo]
        cases ef : findC codes n with
        | none =>
          rw [ef] at er
          dsimp only at er
          refine ⟨fun σ' H' => False, ?_, fun _ _ z => z.elim⟩
          refine ⟨_, rfl, rfl, _, rfl, ?_⟩
          exact iteT (k0 er)
        | some c =>
          rw [ef] at er
          dsimp only [Option.map] at er ⊢
          obtain ⟨cm, c1, c2⟩ := findC_mem ef
          obtain ⟨q1, q2, q3, q4⟩ := codes_ok c cm
          have es : rSize c.1 = 1 + c.2.2.2 := by
            unfold rSize
            rw [if_neg q3, q2]
          refine ⟨fun σ' H' => σ' = [some (.ref a), some (.int p), some (.int n), some (.str c.1.str)] ∧ H = H' ∧ ¬ (p + (1 + c.2.2.2 : Nat) > ws.length), ?_, ?_⟩
          · refine ⟨_, rfl, rfl, _, rfl, ?_⟩
            refine ite2 (fun q => absurd (of_decide_eq_true q) (by intro z; cases z)) (fun _ => ?_)
            refine ⟨_, rfl, _, rfl, c.1, rfl, _, _, rfl, rfl, _, rfl, a, _, rfl, .inl hS, _, _, rfl, rfl, _, rfl, ?_⟩
            rw [List.length_map, es]
            by_cases hlen : p + (1 + c.2.2.2 : Nat) > ws.length
            · rw [decide_eq_true hlen]
              rw [if_pos hlen] at er
              exact iteT (k0 er)
            · rw [decide_eq_false hlen]
              exact iteF ⟨rfl, rfl, hlen⟩
          · rintro σ' H' ⟨rfl, rfl, hlen⟩
            rw [if_neg hlen] at er
            refine ⟨_, rfl, rfl, _, rfl, ?_⟩
            refine ite2 (fun q => absurd (V.str.inj (of_decide_eq_true q)) (str_take _ q3)) (fun _ => ?_)
            refine ⟨_, rfl, _, rfl, _, rfl, c, n, rfl, cm, fun H1 b s1 hb hb1 => ?_⟩
            refine ⟨_, rfl, _, rfl, _, _, rfl, rfl, _, rfl, _, rfl, _, rfl, c.1, rfl, _, _, rfl, rfl, _, rfl, a, _, rfl, s1.seq hS, fun m hm => ?_⟩
            refine ⟨(by show 3 ≤ sizeLine; decide), fun t ht => ?_⟩
            have e1 : p + 1 = ((p.toNat + 1 : Nat) : Int) := by omega
            have e2 : p + ((rSize c.1 : Nat) : Int) = ((p.toNat + (1 + c.2.2.2) : Nat) : Int) := by omega
            have ec : cutV (il ws) (some (p + 1)) (some (p + ((rSize c.1 : Nat) : Int))) = il ((ws.drop (p.toNat + 1)).take c.2.2.2) := by
              rw [e1, e2, cut_il _ (by omega)]
              congr 2
              omega
            rw [ec] at ht ⊢
            have s2 := s1.add (o := .lst (il ((ws.drop (p.toNat + 1)).take c.2.2.2))) hm
            have hbm : b ≠ m := ne_of_none hb1 hm
            have hbt : b ≠ t := ne_of_none (Same.new hm _ _ hb1) ht
            have hmt : m ≠ t := ne_of_none upd_same ht
            refine k _ er _ t b m (s2.add ht) (s2.free ht) hb (s1.free hm) upd_same ?_ ?_
            · rw [upd_ne hbt, upd_ne hbm]
              exact hb1
            · rw [upd_ne hmt, upd_same]
end
end Rs
namespace Rs
open PySem PySem.Spec PyProof.Rows L2 C8
/-- where a machine's parts stand -/
structure Ad where
  x : Addr
  dx : Addr
  w : Addr
  c : Addr
  b : Addr
  k : Addr
  s : Addr
def mf (A : Ad) (pl : Int) (wy : Str) : List (Str × V) := [("words", .ref A.w), ("cells", .ref A.c), ("boxes", .ref A.b), ("calls", .ref A.k), ("says", .ref A.s), ("place", .int pl), ("why", .str wy)]
theorem mf_words (A : Ad) (pl : Int) (wy : Str) : (mf A pl wy).lookup ("words" : Str) = some (.ref A.w) := rfl
theorem mf_cells (A : Ad) (pl : Int) (wy : Str) : (mf A pl wy).lookup ("cells" : Str) = some (.ref A.c) := rfl
theorem mf_boxes (A : Ad) (pl : Int) (wy : Str) : (mf A pl wy).lookup ("boxes" : Str) = some (.ref A.b) := rfl
theorem mf_calls (A : Ad) (pl : Int) (wy : Str) : (mf A pl wy).lookup ("calls" : Str) = some (.ref A.k) := rfl
theorem mf_says (A : Ad) (pl : Int) (wy : Str) : (mf A pl wy).lookup ("says" : Str) = some (.ref A.s) := rfl
theorem mf_place (A : Ad) (pl : Int) (wy : Str) : (mf A pl wy).lookup ("place" : Str) = some (.int pl) := rfl
theorem mf_why (A : Ad) (pl : Int) (wy : Str) : (mf A pl wy).lookup ("why" : Str) = some (.str wy) := rfl
theorem put_place (A : Ad) (pl p2 : Int) (wy : Str) : putF "place" (.int p2) (mf A pl wy) = mf A p2 wy := rfl
theorem put_why (A : Ad) (pl : Int) (wy w2 : Str) : putF "why" (.str w2) (mf A pl wy) = mf A pl w2 := rfl
theorem mf_few (A : Ad) (pl : Int) (wy : Str) : (mf A pl wy).length < 1000 := by show 7 < 1000; decide
structure MAt (C : Addr) (H : Hp) (A : Ad) (ws : List Int) (m : M) : Prop where
  x : H A.x = some (.ins C A.dx (mf A m.place m.why))
  w : H A.w = some (.lst (il ws))
  c : H A.c = some (.lst (il m.cells))
  b : H A.b = some (.lst (il m.boxes))
  k : H A.k = some (.lst (il m.calls))
  s : H A.s = some (.lst (il m.says))
  nd : [A.w, A.c, A.b, A.k, A.s].Nodup
def Out (A : Ad) (H H' : Hp) : Prop := ∀ q, q ≠ A.x → q ≠ A.c → q ≠ A.b → q ≠ A.k → q ≠ A.s → H' q = H q
section
variable {C : Addr} {H : Hp} {A : Ad} {ws : List Int} {m : M}
theorem MAt.ne (h : MAt C H A ws m) : (A.w ≠ A.c ∧ A.w ≠ A.b ∧ A.w ≠ A.k ∧ A.w ≠ A.s) ∧ (A.c ≠ A.b ∧ A.c ≠ A.k ∧ A.c ≠ A.s) ∧ (A.b ≠ A.k ∧ A.b ≠ A.s) ∧ A.k ≠ A.s := by
  have := h.nd
  simp only [List.nodup_cons, List.mem_cons, List.not_mem_nil, or_false, not_or] at this
  obtain ⟨⟨a1, a2, a3, a4⟩, ⟨b1, b2, b3⟩, ⟨c1, c2⟩, d1, _⟩ := this
  exact ⟨⟨a1, a2, a3, a4⟩, ⟨b1, b2, b3⟩, ⟨c1, c2⟩, d1⟩
theorem MAt.nx (h : MAt C H A ws m) : A.x ≠ A.w ∧ A.x ≠ A.c ∧ A.x ≠ A.b ∧ A.x ≠ A.k ∧ A.x ≠ A.s :=
  ⟨ne_of h.x h.w (by intro q; cases q), ne_of h.x h.c (by intro q; cases q), ne_of h.x h.b (by intro q; cases q), ne_of h.x h.k (by intro q; cases q), ne_of h.x h.s (by intro q; cases q)⟩
theorem MAt.setX (h : MAt C H A ws m) (p : Int) (y : Str) : MAt C (upd H A.x (.ins C A.dx (mf A p y))) A ws { m with place := p, why := y } := by
  obtain ⟨n1, n2, n3, n4, n5⟩ := h.nx
  exact ⟨upd_same, (upd_ne n1.symm).trans h.w, (upd_ne n2.symm).trans h.c, (upd_ne n3.symm).trans h.b, (upd_ne n4.symm).trans h.k, (upd_ne n5.symm).trans h.s, h.nd⟩
theorem MAt.setC (h : MAt C H A ws m) (l : List Int) : MAt C (upd H A.c (.lst (il l))) A ws { m with cells := l } := by
  obtain ⟨n1, n2, n3, n4, n5⟩ := h.nx
  obtain ⟨⟨a1, a2, a3, a4⟩, ⟨b1, b2, b3⟩, ⟨c1, c2⟩, d1⟩ := h.ne
  exact ⟨(upd_ne n2).trans h.x, (upd_ne a1).trans h.w, upd_same, (upd_ne b1.symm).trans h.b, (upd_ne b2.symm).trans h.k, (upd_ne b3.symm).trans h.s, h.nd⟩
theorem MAt.setB (h : MAt C H A ws m) (l : List Int) : MAt C (upd H A.b (.lst (il l))) A ws { m with boxes := l } := by
  obtain ⟨n1, n2, n3, n4, n5⟩ := h.nx
  obtain ⟨⟨a1, a2, a3, a4⟩, ⟨b1, b2, b3⟩, ⟨c1, c2⟩, d1⟩ := h.ne
  exact ⟨(upd_ne n3).trans h.x, (upd_ne a2).trans h.w, (upd_ne b1).trans h.c, upd_same, (upd_ne c1.symm).trans h.k, (upd_ne c2.symm).trans h.s, h.nd⟩
theorem MAt.setK (h : MAt C H A ws m) (l : List Int) : MAt C (upd H A.k (.lst (il l))) A ws { m with calls := l } := by
  obtain ⟨n1, n2, n3, n4, n5⟩ := h.nx
  obtain ⟨⟨a1, a2, a3, a4⟩, ⟨b1, b2, b3⟩, ⟨c1, c2⟩, d1⟩ := h.ne
  exact ⟨(upd_ne n4).trans h.x, (upd_ne a3).trans h.w, (upd_ne b2).trans h.c, (upd_ne c1).trans h.b, upd_same, (upd_ne d1.symm).trans h.s, h.nd⟩
theorem MAt.setS (h : MAt C H A ws m) (l : List Int) : MAt C (upd H A.s (.lst (il l))) A ws { m with says := l } := by
  obtain ⟨n1, n2, n3, n4, n5⟩ := h.nx
  obtain ⟨⟨a1, a2, a3, a4⟩, ⟨b1, b2, b3⟩, ⟨c1, c2⟩, d1⟩ := h.ne
  exact ⟨(upd_ne n5).trans h.x, (upd_ne a4).trans h.w, (upd_ne b3).trans h.c, (upd_ne c2).trans h.b, (upd_ne d1).trans h.k, upd_same, h.nd⟩
end
theorem Out.refl (A : Ad) (H : Hp) : Out A H H := fun _ _ _ _ _ _ => rfl
theorem Out.x {A : Ad} {H H' : Hp} (h : Out A H H') (o : HO) : Out A H (upd H' A.x o) := fun q n1 n2 n3 n4 n5 => (upd_ne n1).trans (h q n1 n2 n3 n4 n5)
theorem Out.c {A : Ad} {H H' : Hp} (h : Out A H H') (o : HO) : Out A H (upd H' A.c o) := fun q n1 n2 n3 n4 n5 => (upd_ne n2).trans (h q n1 n2 n3 n4 n5)
theorem Out.b {A : Ad} {H H' : Hp} (h : Out A H H') (o : HO) : Out A H (upd H' A.b o) := fun q n1 n2 n3 n4 n5 => (upd_ne n3).trans (h q n1 n2 n3 n4 n5)
theorem Out.k {A : Ad} {H H' : Hp} (h : Out A H H') (o : HO) : Out A H (upd H' A.k o) := fun q n1 n2 n3 n4 n5 => (upd_ne n4).trans (h q n1 n2 n3 n4 n5)
theorem Out.s {A : Ad} {H H' : Hp} (h : Out A H H') (o : HO) : Out A H (upd H' A.s o) := fun q n1 n2 n3 n4 n5 => (upd_ne n5).trans (h q n1 n2 n3 n4 n5)
theorem Out.trans {A : Ad} {H H1 H2 : Hp} (h : Out A H H1) (k : Out A H1 H2) : Out A H H2 := fun q n1 n2 n3 n4 n5 => (k q n1 n2 n3 n4 n5).trans (h q n1 n2 n3 n4 n5)
/-- the class -/
structure TxtM (K : PySem.W.Frag) (mg : Str → Option Value) (C : Addr) : Prop where
  cl : Cls K C
  words : NoAttr K C "words"
  cells : NoAttr K C "cells"
  boxes : NoAttr K C "boxes"
  calls : NoAttr K C "calls"
  says : NoAttr K C "says"
  place : NoAttr K C "place"
  why : NoAttr K C "why"
def spDo (C : Addr) (k : Kd) : Sp := fun vs H Q _ => ∃ (A : Ad) (ws : List Int) (m : M) (bx nm : List Int) (b n : Addr), vs = [.ref A.x, .ref b, .ref n] ∧ MAt C H A ws m ∧ Good m ∧ H b = some (.lst (il bx)) ∧ H n = some (.lst (il nm)) ∧
  (bx.length = nBox k ∧ nm.length = nNum k ∧ (∀ x ∈ bx, 0 ≤ x ∧ x < 4) ∧ Bytes nm) ∧ m.says.length ≤ 1001 ∧ n ≠ A.k ∧ ∀ H', MAt C H' A ws (doK k bx nm m) → Out A H H' → Q .non H'
theorem one_of {p : Int → Prop} {l : List Int} (h : l.length = 1) (hp : ∀ x ∈ l, p x) : ∃ a, l = [a] ∧ p a := by
  match l, h with
  | [a], _ => exact ⟨a, rfl, hp a (by simp)⟩
theorem two_of {p : Int → Prop} {l : List Int} (h : l.length = 2) (hp : ∀ x ∈ l, p x) : ∃ a b, l = [a, b] ∧ p a ∧ p b := by
  match l, h with
  | [a, b], _ => exact ⟨a, b, rfl, hp a (by simp), hp b (by simp)⟩
theorem ixN_in {n : Nat} {i : Int} (h0 : 0 ≤ i) (h1 : i < (n : Int)) : ixN n i = some i.toNat := by
  unfold ixN
  rw [if_pos h0, if_pos h1]
theorem il_set (l : List Int) (j : Nat) (v : Int) : (il l).set j (V.int v) = il (l.set j v) := (List.map_set (f := V.int)).symm
theorem il_app (l : List Int) (v : Int) : il l ++ [V.int v] = il (l ++ [v]) := by simp [il]
section
variable {P : Program} {w : World} {K : PySem.W.Frag} {mg : Str → Option Value} {base : Heap} {C : Addr}
end
end Rs
namespace Rs
open PySem PySem.Spec PyProof.Rows L2 C8
def doName : Kd → Str
  | .stop => "do_stop" | .back => "do_back" | .say => "do_say" | .takeL => "do_take" | .move => "do_move" | .add => "do_add" | .less => "do_less" | .load => "do_load" | .store => "do_store"
  | .jump => "do_jump" | .call => "do_call" | .skip => "do_skip" | .zero => "do_zero" | .same => "do_same" | .copy => "do_copy" | .take => "do_take"
section
variable {X : Cx}
theorem pe_callAt {k j i : Nat} {f : Addr} {sp : Sp} {x : Str} {p pos : Pos} {e : Expr} {es : List Expr} {t : TA} (c : CalAt X.prog X.w X.K X.mg X.base k f sp) (hr : Room j X.A) (hk : k ≤ j) (hN : X.N[i]? = some x) (hv : Vis X.env.scope x) (ha : PA X (e :: es) t)
    (hdb : (x == ("__debug__" : Str)) = false := by decide) (hcd : (x == ("__classdict__" : Str)) = false := by decide)
    (he : starEach (e :: es) X.env = (false, eval e X.env) :: starEach es X.env := by rfl) (hpl : (backTo pos (starEach es X.env)).any (·.1) = false := by rfl) : PE X (.Call (.Name x p) (e :: es) [] pos) (tCallL i f sp [] L2.E0 t) := by
  obtain ⟨fd, ps, F, kp, b⟩ := c.ex
  exact pe_callL F (hr.mono hk) hN hv kp b .nil L2.pass0 ha hdb hcd he hpl
end
section
variable {P : Program} {w : World} {K : PySem.W.Frag} {mg : Str → Option Value} {base : Heap} {C : Addr}
theorem calAt_of {k : Nat} {x : Str} {sp : Sp} {a : Addr} (c : Cal P w K mg base k x sp []) (e : mg x = some (.ref a)) : CalAt P w K mg base k a sp := by
  obtain ⟨f, fd, ps, ds, F, hm, kp, b, d⟩ := c.ex
  rw [hm] at e
  cases e
  cases d
  exact ⟨fd, ps, F, kp, b⟩
theorem CalAt.up {k j : Nat} {a : Addr} {sp : Sp} (c : CalAt P w K mg base k a sp) (h : k ≤ j) : k ≤ j := h
def spDoRow (C : Addr) : Sp := fun vs H Q _ => ∃ (A : Ad) (ws : List Int) (m : M) (r : Row) (t b n : Addr), vs = [.ref A.x, .ref t] ∧ H t = some (.tup [.str r.k.str, .ref b, .ref n]) ∧ MAt C H A ws m ∧ Good m ∧ H b = some (.lst (il r.bx)) ∧ H n = some (.lst (il r.nm)) ∧ Ok r ∧
  m.says.length ≤ 1001 ∧ n ≠ A.k ∧ ∀ H', MAt C H' A ws (doK r.k r.bx r.nm { m with place := m.place + r.size }) → Out A H H' → Q .non H'
def spInit (K : PySem.W.Frag) (C : Addr) : Sp := fun vs H Q _ => ∃ (x dx a : Addr) (ws : List Int) (begin : Int), vs = [.ref x, .ref a, .int begin] ∧ H x = some (.ins C dx []) ∧ SqL K H a (il ws) ∧ ws.length ≤ 256 ∧ x ≠ a ∧
  ∀ (H' : Hp) (A : Ad), A.x = x → A.dx = dx → MAt C H' A ws (init ws begin) → H A.w = none → H A.c = none → H A.b = none → H A.k = none → H A.s = none → (∀ q o, H q = some o → q ≠ x → H' q = some o) → Q .non H'
def Pr (x : Addr) (H H1 : Hp) : Prop := ∀ q o, H q = some o → q ≠ x → H1 q = some o
theorem Pr.fresh {x p : Addr} {H H1 : Hp} {o : HO} (pr : Pr x H H1) (hx : H1 x = some o) (hp : H1 p = none) : H p = none := by
  cases e : H p with
  | none => rfl
  | some u =>
    by_cases q : p = x
    · rw [q, hx] at hp
      cases hp
    · rw [pr p u e q] at hp
      cases hp
theorem Pr.seq {x a : Addr} {H H1 : Hp} {xs : List V} (pr : Pr x H H1) (h : SqL K H a xs) (n : x ≠ a) : SqL K H1 a xs := by
  rcases h with (h | ⟨o, h⟩) | h
  · exact .inl (.inl (pr _ _ h n.symm))
  · exact .inl (.inr ⟨o, pr _ _ h n.symm⟩)
  · exact .inr h
theorem Pr.add {x p : Addr} {H H1 : Hp} {o : HO} (pr : Pr x H H1) (h : H1 p = none) : Pr x H (upd H1 p o) := fun q u e n => by
  rw [upd_ne (ne_of_none (pr q u e n) h)]
  exact pr q u e n
theorem Pr.at {x : Addr} {H H1 : Hp} {o : HO} (pr : Pr x H H1) : Pr x H (upd H1 x o) := fun q u e n => by
  rw [upd_ne n]
  exact pr q u e n
theorem MAt.same {H H' : Hp} {A : Ad} {ws : List Int} {m : M} (h : MAt C H A ws m) (s : Same H H') : MAt C H' A ws m := ⟨s _ _ h.x, s _ _ h.w, s _ _ h.c, s _ _ h.b, s _ _ h.k, s _ _ h.s, h.nd⟩
/-- apart from all parts -/
def Apart (A : Ad) (q : Addr) : Prop := A.x ≠ q ∧ A.w ≠ q ∧ A.c ≠ q ∧ A.b ≠ q ∧ A.k ≠ q ∧ A.s ≠ q
theorem MAt.other {H : Hp} {A : Ad} {ws : List Int} {m : M} {q : Addr} {o : HO} (h : MAt C H A ws m) (n : Apart A q) : MAt C (upd H q o) A ws m :=
  ⟨(upd_ne n.1).trans h.x, (upd_ne n.2.1).trans h.w, (upd_ne n.2.2.1).trans h.c, (upd_ne n.2.2.2.1).trans h.b, (upd_ne n.2.2.2.2.1).trans h.k, (upd_ne n.2.2.2.2.2).trans h.s, h.nd⟩
theorem MAt.apart {H : Hp} {A : Ad} {ws : List Int} {m : M} {q : Addr} (h : MAt C H A ws m) (n : H q = none) : Apart A q :=
  ⟨ne_of_none h.x n, ne_of_none h.w n, ne_of_none h.c n, ne_of_none h.b n, ne_of_none h.k n, ne_of_none h.s n⟩
theorem Out.at {A : Ad} {H H' : Hp} {q : Addr} (h : Out A H H') (n : Apart A q) : H' q = H q := h q n.1.symm n.2.2.1.symm n.2.2.2.1.symm n.2.2.2.2.1.symm n.2.2.2.2.2.symm
def spRun (K : PySem.W.Frag) : Sp := fun vs H Q _ => ∃ (a : Addr) (ws : List Int) (begin : Int) (most : Nat), vs = [.ref a, .int begin, .int most] ∧ H a = some (.lst (il ws)) ∧ ws.length ≤ 256 ∧ Bytes ws ∧ 0 ≤ begin ∧ begin ≤ 255 ∧ most ≤ 1000 ∧
  ∀ (H' : Hp) (t s p : Addr), Same H H' → H t = none → H s = none → H p = none → s ≠ p → H' t = some (.tup [.ref s, .str (runW ws most (init ws begin)).why, .ref p]) → H' s = some (.lst (il (runW ws most (init ws begin)).says)) →
    H' p = some (.lst (il (runW ws most (init ws begin)).past)) → Q (.ref t) H'
end
end Rs
namespace Rs
open PySem PySem.Spec PyProof.Rows L2 C8
theorem pe_c0 {X : Cx} {k j : Nat} {x : Str} {sp : Sp} {dvs : List V} {p pos : Pos} (c : Cal X.prog X.w X.K X.mg X.base k x sp dvs) (hr : Room j X.A) (hk : k ≤ j) (hg : Gl X x) (hdb : (x == ("__debug__" : Str)) = false := by decide) :
    PE X (.Call (.Name x p) [] [] pos) (tCall sp dvs L2.E0 tNil) := by
  obtain ⟨f, fd, ps, ds, F, hm, kp, b, d⟩ := c.ex
  exact pe_call0 F (hr.mono hk) hg hm kp b d L2.pass0 hdb
section
variable {P : Program} {w : World} {K : PySem.W.Frag} {mg : Str → Option Value} {base : Heap}
def stt (a : Addr) (i m r : Int) : List V := [.ref a, .int i, .int m, .int r]
def spStart (K : PySem.W.Frag) : Sp := fun vs H Q _ => ∃ (a : Addr) (ns : List Int), vs = [.ref a] ∧ SqL K H a (il ns) ∧ ∀ p m, H p = none → Q (.ref p) (upd H p (.lst (stt a 0 m 0)))
theorem ok_start (D : DefAt K mg "_law_start" sD__law_start) : Cal P w K mg base 1 "_law_start" (spStart K) [] := by
  refine cal_of D sc__law_start (fun _ _ _ _ _ _ us hl => match us, hl with | [_], _ => rfl) (fun vs H Q E h => ?_) (fun cdv A outer s H vs Q E hr h => ?_)
  · obtain ⟨a, ns, rfl, _⟩ := h
    rfl
  · obtain ⟨a, ns, rfl, hS, k⟩ := h
    refine ⟨_, (pss_cons (ps_set (i := 1) sc__law_start.nd rfl (Or.inl rfl) pe_int)
  (pss_cons (ps_for PassesOwn.never rfl (pi_list (pv 0)) (pg_name (i := 2) sc__law_start.nd rfl (Or.inl rfl))
   (pss_one (ps_set (i := 1) sc__law_start.nd rfl (Or.inl rfl) (pe_op op_mod (pe_op op_add (pe_op op_add (pe_op op_mul (pv 1) pe_int) (pv 2)) pe_int) pe_int))))
  (pss_one (ps_ret (pe_lst (pa_cons (pv 0) (pa_cons pe_int (pa_cons (pv 1) (pa_cons pe_int pa_nil))))))))), ?_⟩
    refine ⟨_, rfl, a, rfl, ⟨_, hS⟩, for_list (K := K) (a := a) (xs := il ns) (fun i σ H' => H = H' ∧ ∃ (m : Int) (v : Option V), σ = [some (.ref a), some (.int m), v]) ⟨rfl, _, _, rfl⟩ (fun i σ H' _ ⟨e, _⟩ => e ▸ hS) ?_ ?_⟩
    · rintro i x σ H' hx ⟨rfl, m, v, rfl⟩
      obtain ⟨hi, rfl⟩ := ints_get hx
      exact ⟨_, rfl, _, _, rfl, rfl, .inr ⟨by decide, by decide⟩, _, rfl, _, _, rfl, rfl, _, _, rfl, rfl, _, _, rfl, rfl, (by show (0 : Int) < 2147483647; decide), rfl, _, _, rfl⟩
    · rintro σ H' ⟨rfl, m, v, rfl⟩
      exact ⟨_, rfl, _, rfl, (by show 4 ≤ sizeLine; decide), fun p hp => k p m hp⟩
/-- the script may be read, whatever is done to st -/
def Scr (K : PySem.W.Frag) (H : Hp) (st a : Addr) (ns : List Int) : Prop := (a ≠ st ∧ Rd H a (.lst (il ns))) ∨ ∀ H', SqL K H' a (il ns)
theorem Scr.seq {K : PySem.W.Frag} {H : Hp} {st a : Addr} {ns : List Int} (h : Scr K H st a ns) : SqL K H a (il ns) := by
  rcases h with ⟨_, h⟩ | h
  · exact .inl h
  · exact h H
theorem Scr.pr {K : PySem.W.Frag} {H H' : Hp} {st a : Addr} {ns : List Int} (h : Scr K H st a ns) (p : Pr st H H') : Scr K H' st a ns := by
  rcases h with ⟨n, h | ⟨o, h⟩⟩ | h
  · exact .inl ⟨n, .inl (p _ _ h n)⟩
  · exact .inl ⟨n, .inr ⟨o, p _ _ h n⟩⟩
  · exact .inr h
theorem Scr.of {K : PySem.W.Frag} {H : Hp} {st a : Addr} {ns : List Int} (h : SqL K H a (il ns)) (n : H st = none) (o : HO) : Scr K (upd H st o) st a ns := by
  rcases h with (h | ⟨u, h⟩) | h
  · exact .inl ⟨ne_of_none h n, .inl ((upd_ne (ne_of_none h n)).trans h)⟩
  · exact .inl ⟨ne_of_none h n, .inr ⟨u, (upd_ne (ne_of_none h n)).trans h⟩⟩
  · exact .inr fun _ => .inr h
def St3 (H : Hp) (st a : Addr) : Prop := ∃ i m r, H st = some (.lst (stt a i m r)) ∧ 0 ≤ i
def Oth (st : Addr) (H H' : Hp) : Prop := ∀ q, q ≠ st → H' q = H q
theorem Oth.pr {st : Addr} {H H' : Hp} (h : Oth st H H') : Pr st H H' := fun q o e n => (h q n).trans e
theorem Pr.trans {x : Addr} {H H1 H2 : Hp} (p : Pr x H H1) (q : Pr x H1 H2) : Pr x H H2 := fun b o e n => q b o (p b o e n) n
theorem Pr.refl (x : Addr) (H : Hp) : Pr x H H := fun _ _ e _ => e
theorem Pr.put {x p : Addr} {H H1 : Hp} {o : HO} (pr : Pr x H H1) (h : H p = none) : Pr x H (upd H1 p o) := fun q u e n => by
  rw [upd_ne (ne_of_none e h)]
  exact pr q u e n
theorem Same.pr {H H' : Hp} (s : Same H H') (x : Addr) : Pr x H H' := fun q o e _ => s q o e
theorem St3.same {H H' : Hp} {st a : Addr} (h : St3 H st a) (s : Same H H') : St3 H' st a := by
  obtain ⟨i, m, r, e, n⟩ := h
  exact ⟨i, m, r, s _ _ e, n⟩
theorem St3.put {H : Hp} {st a p : Addr} {o : HO} (h : St3 H st a) (n : st ≠ p) : St3 (upd H p o) st a := by
  obtain ⟨i, m, r, e, z⟩ := h
  exact ⟨i, m, r, (upd_ne n).trans e, z⟩
theorem St3.ne {H : Hp} {st a p : Addr} (h : St3 H st a) (n : H p = none) : st ≠ p := by
  obtain ⟨i, m, r, e, z⟩ := h
  exact ne_of_none e n
def spDrawn (K : PySem.W.Frag) : Sp := fun vs H Q _ => ∃ (st a : Addr) (many : Int) (ns : List Int), vs = [.ref st, .int many] ∧ 0 < many ∧ many < 1000000 ∧ St3 H st a ∧ Scr K H st a ns ∧
  ∀ (v : Int) (H' : Hp), 0 ≤ v → v < many → St3 H' st a → Oth st H H' → Q (.int v) H'
theorem ok_drawn (D : DefAt K mg "_law_drawn" sD__law_drawn) (T : Txt w K mg) : Cal P w K mg base 1 "_law_drawn" (spDrawn K) [] := by
  refine cal_of D sc__law_drawn (fun _ _ _ _ _ _ us hl => match us, hl with | [_, _], _ => rfl) (fun vs H Q E h => ?_) (fun cdv A outer s H vs Q E hr h => ?_)
  · obtain ⟨st, a, many, ns, rfl, _⟩ := h
    rfl
  · obtain ⟨st, a, many, ns, rfl, m0, m1, ⟨i, m, r, hst, i0⟩, hSc, kk⟩ := h
    have k : ∀ v i' m' r', 0 ≤ v → v < many → 0 ≤ i' → Q (.int v) (upd H st (.lst (stt a i' m' r'))) := fun v i' m' r' h1 h2 h3 => kk v _ h1 h2 ⟨i', m', r', upd_same, h3⟩ fun q n => upd_ne n
    have hS := hSc.seq
    refine ⟨_, (pss_cons (ps_if (pt_cmpR op_gt (pe_ix ix_list (pv 0) pe_int (fun _ _ => rfl)) pe_int (nomark _))
   (pss_cons (ps_set (i := 2) sc__law_drawn.nd rfl (Or.inl rfl) (pe_op op_mod (pe_ix ix_list (pv 0) pe_int (fun _ _ => rfl)) (pv 1)))
  (pss_cons (ps_asg (pe_op op_fdiv (pe_ix ix_list (pv 0) pe_int (fun _ _ => rfl)) (pv 1)) (pg_sub (pv 0) pe_int set_list))
  (pss_one (ps_ret (pv 2)))))
   pss_nil)
  (pss_cons (ps_asg (pe_op op_add (pe_ix ix_list (pv 0) pe_int (fun _ _ => rfl)) pe_int) (pg_sub (pv 0) pe_int set_list))
  (pss_cons (ps_if (pt_cmpR op_le (pe_ix ix_list (pv 0) pe_int (fun _ _ => rfl)) (pe_callB call_len_seq (by rfl) T.free_len (by decide +kernel) (pa_cons (pe_ix ix_list (pv 0) pe_int (fun _ _ => rfl)) pa_nil)) (nomark _))
   (pss_cons (ps_set (i := 3) sc__law_drawn.nd rfl (Or.inl rfl) (pe_ix ix_list (pe_ix ix_list (pv 0) pe_int (fun _ _ => rfl)) (pe_op op_sub (pe_ix ix_list (pv 0) pe_int (fun _ _ => rfl)) pe_int) (fun _ _ => rfl)))
  (pss_cons (ps_asg (pe_ifExp (pt_cmpR op_ge (pv 3) (pe_op op_pow pe_int pe_int) (nomark _)) (pe_op op_fdiv (pv 3) (pv 1)) pe_int) (pg_sub (pv 0) pe_int set_list))
  (pss_one (ps_ret (pe_op op_mod (pv 3) (pv 1))))))
   pss_nil)
  (pss_cons (ps_asg (pe_op op_mod (pe_op op_add (pe_op op_mul (pe_ix ix_list (pv 0) pe_int (fun _ _ => rfl)) pe_int) pe_int) pe_int) (pg_sub (pv 0) pe_int set_list))
  (pss_one (ps_ret (pe_op op_mod (pe_op op_fdiv (pe_ix ix_list (pv 0) pe_int (fun _ _ => rfl)) pe_int) (pv 1)))))))), ?_⟩
    refine ⟨_, rfl, st, _, _, _, rfl, rfl, SqL.of hst, atI_nat (j := 3) rfl, _, _, rfl, rfl, _, rfl, ?_⟩
    have md : ∀ z : Int, 0 ≤ z % many ∧ z % many < many := fun z => ⟨Int.emod_nonneg _ (by omega), Int.emod_lt_of_pos _ m0⟩
    refine ite2 (fun _ => ?_) (fun _ => ?_)
    · refine ⟨_, rfl, st, _, _, _, rfl, rfl, SqL.of hst, atI_nat (j := 3) rfl, _, rfl, _, _, rfl, rfl, m0, ?_⟩
      refine ⟨_, rfl, st, _, _, _, rfl, rfl, SqL.of hst, atI_nat (j := 3) rfl, _, rfl, _, _, rfl, rfl, ⟨m0, by omega⟩, _, rfl, st, _, _, 3, rfl, rfl, hst, rfl, ?_⟩
      exact ⟨_, rfl, k _ _ _ _ (md r).1 (md r).2 i0⟩
    · refine ⟨_, rfl, st, _, _, _, rfl, rfl, SqL.of hst, atI_nat (j := 1) rfl, _, _, rfl, rfl, _, rfl, st, _, _, 1, rfl, rfl, hst, rfl, ?_⟩
      have h1 : L2.upd H st (.lst ((stt a i m r).set 1 (.int (i + 1)))) st = some (.lst (stt a (i + 1) m r)) := upd_same
      have hS1 := (hSc.pr (Pr.at (o := .lst ((stt a i m r).set 1 (.int (i + 1)))) (Pr.refl st H))).seq
      refine ⟨_, rfl, st, _, _, _, rfl, rfl, SqL.of h1, atI_nat (j := 1) rfl, _, rfl, st, _, _, _, rfl, rfl, SqL.of h1, atI_nat (j := 0) rfl, a, _, rfl, .inl hS1, _, _, rfl, rfl, _, rfl, ?_⟩
      rw [List.length_map]
      by_cases hle : i + 1 ≤ (ns.length : Int)
      · rw [decide_eq_true hle]
        refine iteT ⟨_, rfl, st, _, _, _, rfl, rfl, SqL.of h1, atI_nat (j := 0) rfl, _, rfl, st, _, _, _, rfl, rfl, SqL.of h1, atI_nat (j := 1) rfl, _, _, rfl, rfl, a, _, _, _, rfl, rfl, hS1, ints_atI (by omega) (by omega), ?_⟩
        refine ⟨_, rfl, _, _, rfl, rfl, ⟨by decide, by decide, by decide⟩, _, _, rfl, rfl, _, rfl, ?_⟩
        refine ite2 (fun _ => ?_) (fun _ => ?_)
        · refine ⟨_, rfl, _, rfl, _, _, rfl, rfl, ⟨m0, by omega⟩, _, rfl, st, _, _, 3, rfl, rfl, h1, rfl, ?_⟩
          rw [upd_upd]
          exact ⟨_, rfl, _, rfl, _, _, rfl, rfl, m0, k _ _ _ _ (md _).1 (md _).2 (by omega)⟩
        · refine ⟨_, rfl, st, _, _, 3, rfl, rfl, h1, rfl, ?_⟩
          rw [upd_upd]
          exact ⟨_, rfl, _, rfl, _, _, rfl, rfl, m0, k _ _ _ _ (md _).1 (md _).2 (by omega)⟩
      · rw [decide_eq_false hle]
        refine iteF ⟨_, rfl, st, _, _, _, rfl, rfl, SqL.of h1, atI_nat (j := 2) rfl, _, _, rfl, rfl, .inr ⟨by decide, by decide⟩, _, _, rfl, rfl, _, _, rfl, rfl, (by show (0 : Int) < 2147483647; decide), _, rfl, st, _, _, 2, rfl, rfl, h1, rfl, ?_⟩
        rw [upd_upd]
        refine ⟨_, rfl, st, _, _, _, rfl, rfl, SqL.of upd_same, atI_nat (j := 2) rfl, _, _, rfl, rfl, ⟨by decide, by decide⟩, _, rfl, _, _, rfl, rfl, m0, k _ _ _ _ (md _).1 (md _).2 (by omega)⟩
def ctup (c : Code) : List V := [.str c.1.str, .int c.2.1, .int c.2.2.1, .int c.2.2.2]
def Cds (H : Hp) (ts : List Addr) (cs : List Code) : Prop := ts.length = cs.length ∧ ∀ (i : Nat) (t : Addr) (c : Code), ts[i]? = some t → cs[i]? = some c → H t = some (.tup (ctup c))
theorem Cds.mono {H H' : Hp} {ts : List Addr} {cs : List Code} (h : Cds H ts cs) (s : Same H H') : Cds H' ts cs := ⟨h.1, fun i t c a b => s _ _ (h.2 i t c a b)⟩
theorem Cds.snoc {H : Hp} {ts : List Addr} {cs : List Code} {t : Addr} (h : Cds H ts cs) (c : Code) (n : H t = none) : Cds (upd H t (.tup (ctup c))) (ts ++ [t]) (cs ++ [c]) := by
  refine ⟨by rw [List.length_append, List.length_append, h.1] <;> rfl, fun i u d a b => ?_⟩
  by_cases q : i < ts.length
  · rw [List.getElem?_append_left q] at a
    rw [List.getElem?_append_left (by rw [← h.1]; exact q)] at b
    exact Same.new n _ _ (h.2 i u d a b)
  · rw [List.getElem?_append_right (by omega)] at a
    rw [List.getElem?_append_right (by rw [← h.1]; omega), ← h.1] at b
    cases e : i - ts.length with
    | zero =>
      rw [e] at a b
      cases a
      cases b
      exact upd_same
    | succ j =>
      rw [e] at a
      cases a
def spCodes : Sp := fun vs H Q _ => vs = [] ∧ ∀ (H' : Hp) (p : Addr) (ts : List Addr), Same H H' → H p = none → H' p = some (.lst (ts.map V.ref)) → Cds H' ts codes → Q (.ref p) H'
theorem ok_all_codes (D : DefAt K mg "_law_all_codes" sD__law_all_codes) : Cal P w K mg base 1 "_law_all_codes" spCodes [] := by
  refine cal_of D sc__law_all_codes (fun _ _ _ _ _ _ us hl => match us, hl with | [], _ => rfl) (fun vs H Q E h => ?_) (fun cdv A outer s H vs Q E hr h => ?_)
  · obtain ⟨rfl, _⟩ := h
    rfl
  · obtain ⟨rfl, k⟩ := h
    refine ⟨_, (pss_cons (ps_set (i := 0) sc__law_all_codes.nd rfl (Or.inl rfl) (pe_lst (pa_cons (pe_tup (pa_cons pe_str (pa_cons pe_int (pa_cons pe_int (pa_cons pe_int pa_nil))))) (pa_cons (pe_tup (pa_cons pe_str (pa_cons pe_int (pa_cons pe_int (pa_cons pe_int pa_nil))))) (pa_cons (pe_tup (pa_cons pe_str (pa_cons pe_int (pa_cons pe_int (pa_cons pe_int pa_nil))))) (pa_cons (pe_tup (pa_cons pe_str (pa_cons pe_int (pa_cons pe_int (pa_cons pe_int pa_nil))))) (pa_cons (pe_tup (pa_cons pe_str (pa_cons pe_int (pa_cons pe_int (pa_cons pe_int pa_nil))))) pa_nil)))))))
  (pss_cons (ps_set (i := 0) sc__law_all_codes.nd rfl (Or.inl rfl) (pe_op op_cat (pv 0) (pe_lst (pa_cons (pe_tup (pa_cons pe_str (pa_cons pe_int (pa_cons pe_int (pa_cons pe_int pa_nil))))) (pa_cons (pe_tup (pa_cons pe_str (pa_cons pe_int (pa_cons pe_int (pa_cons pe_int pa_nil))))) (pa_cons (pe_tup (pa_cons pe_str (pa_cons pe_int (pa_cons pe_int (pa_cons pe_int pa_nil))))) (pa_cons (pe_tup (pa_cons pe_str (pa_cons pe_int (pa_cons pe_int (pa_cons pe_int pa_nil))))) (pa_cons (pe_tup (pa_cons pe_str (pa_cons pe_int (pa_cons pe_int (pa_cons pe_int pa_nil))))) pa_nil))))))))
  (pss_cons (ps_set (i := 0) sc__law_all_codes.nd rfl (Or.inl rfl) (pe_op op_cat (pv 0) (pe_lst (pa_cons (pe_tup (pa_cons pe_str (pa_cons pe_int (pa_cons pe_int (pa_cons pe_int pa_nil))))) (pa_cons (pe_tup (pa_cons pe_str (pa_cons pe_int (pa_cons pe_int (pa_cons pe_int pa_nil))))) (pa_cons (pe_tup (pa_cons pe_str (pa_cons pe_int (pa_cons pe_int (pa_cons pe_int pa_nil))))) (pa_cons (pe_tup (pa_cons pe_str (pa_cons pe_int (pa_cons pe_int (pa_cons pe_int pa_nil))))) pa_nil)))))))
  (pss_one (ps_ret (pe_op op_cat (pv 0) (pe_lst (pa_cons (pe_tup (pa_cons pe_str (pa_cons pe_int (pa_cons pe_int (pa_cons pe_int pa_nil))))) pa_nil)))))))), ?_⟩
    have sG0 : Same H H := Same.refl H
    have cG0 : Cds H [] [] := ⟨rfl, fun i t c a => by cases a⟩
    refine ⟨(by show 4 ≤ sizeLine; decide), fun t0 h0 => ?_⟩
    have sG1 : Same H (upd H t0 (.tup [.str "stop", .int 0, .int 0, .int 0])) := sG0.add h0
    have cG1 : Cds (upd H t0 (.tup [.str "stop", .int 0, .int 0, .int 0])) ([] ++ [t0]) ([] ++ [(.stop, 0, 0, 0)]) := cG0.snoc (.stop, 0, 0, 0) h0
    generalize upd H t0 (.tup [.str "stop", .int 0, .int 0, .int 0]) = G1 at sG1 cG1 ⊢
    refine ⟨(by show 4 ≤ sizeLine; decide), fun t1 h1 => ?_⟩
    have sG2 : Same H (upd G1 t1 (.tup [.str "back", .int 1, .int 0, .int 0])) := sG1.add h1
    have cG2 : Cds (upd G1 t1 (.tup [.str "back", .int 1, .int 0, .int 0])) ([t0] ++ [t1]) ([(.stop, 0, 0, 0)] ++ [(.back, 1, 0, 0)]) := cG1.snoc (.back, 1, 0, 0) h1
    generalize upd G1 t1 (.tup [.str "back", .int 1, .int 0, .int 0]) = G2 at sG2 cG2 ⊢
    refine ⟨(by show 4 ≤ sizeLine; decide), fun t2 h2 => ?_⟩
    have sG3 : Same H (upd G2 t2 (.tup [.str "say", .int 4, .int 1, .int 0])) := sG2.add h2
    have cG3 : Cds (upd G2 t2 (.tup [.str "say", .int 4, .int 1, .int 0])) ([t0, t1] ++ [t2]) ([(.stop, 0, 0, 0), (.back, 1, 0, 0)] ++ [(.say, 4, 1, 0)]) := cG2.snoc (.say, 4, 1, 0) h2
    generalize upd G2 t2 (.tup [.str "say", .int 4, .int 1, .int 0]) = G3 at sG3 cG3 ⊢
    refine ⟨(by show 4 ≤ sizeLine; decide), fun t3 h3 => ?_⟩
    have sG4 : Same H (upd G3 t3 (.tup [.str "take!", .int 16, .int 1, .int 1])) := sG3.add h3
    have cG4 : Cds (upd G3 t3 (.tup [.str "take!", .int 16, .int 1, .int 1])) ([t0, t1, t2] ++ [t3]) ([(.stop, 0, 0, 0), (.back, 1, 0, 0), (.say, 4, 1, 0)] ++ [(.takeL, 16, 1, 1)]) := cG3.snoc (.takeL, 16, 1, 1) h3
    generalize upd G3 t3 (.tup [.str "take!", .int 16, .int 1, .int 1]) = G4 at sG4 cG4 ⊢
    refine ⟨(by show 4 ≤ sizeLine; decide), fun t4 h4 => ?_⟩
    have sG5 : Same H (upd G4 t4 (.tup [.str "move", .int 32, .int 2, .int 0])) := sG4.add h4
    have cG5 : Cds (upd G4 t4 (.tup [.str "move", .int 32, .int 2, .int 0])) ([t0, t1, t2, t3] ++ [t4]) ([(.stop, 0, 0, 0), (.back, 1, 0, 0), (.say, 4, 1, 0), (.takeL, 16, 1, 1)] ++ [(.move, 32, 2, 0)]) := cG4.snoc (.move, 32, 2, 0) h4
    generalize upd G4 t4 (.tup [.str "move", .int 32, .int 2, .int 0]) = G5 at sG5 cG5 ⊢
    refine ⟨(by show 5 ≤ sizeLine; decide), fun l0 hl0 => ?_⟩
    have sL0 : Same H (upd G5 l0 (.lst [.ref t0, .ref t1, .ref t2, .ref t3, .ref t4])) := sG5.add hl0
    have cL0 := cG5.mono (Same.new (o := .lst [.ref t0, .ref t1, .ref t2, .ref t3, .ref t4]) hl0)
    have pL0 : (upd G5 l0 (.lst [.ref t0, .ref t1, .ref t2, .ref t3, .ref t4])) l0 = some (.lst [.ref t0, .ref t1, .ref t2, .ref t3, .ref t4]) := upd_same
    have zL0 : H l0 = none := sG5.free hl0
    generalize upd G5 l0 (.lst [.ref t0, .ref t1, .ref t2, .ref t3, .ref t4]) = L0 at sL0 cL0 pL0 ⊢
    refine ⟨_, rfl, ?_⟩
    refine ⟨(by show 4 ≤ sizeLine; decide), fun t5 h5 => ?_⟩
    have sG6 : Same H (upd L0 t5 (.tup [.str "add", .int 48, .int 2, .int 0])) := sL0.add h5
    have cG6 : Cds (upd L0 t5 (.tup [.str "add", .int 48, .int 2, .int 0])) ([t0, t1, t2, t3, t4] ++ [t5]) ([(.stop, 0, 0, 0), (.back, 1, 0, 0), (.say, 4, 1, 0), (.takeL, 16, 1, 1), (.move, 32, 2, 0)] ++ [(.add, 48, 2, 0)]) := cL0.snoc (.add, 48, 2, 0) h5
    have qG6 := Same.new (o := .tup [.str "add", .int 48, .int 2, .int 0]) h5 _ _ pL0
    generalize upd L0 t5 (.tup [.str "add", .int 48, .int 2, .int 0]) = G6 at sG6 cG6 qG6 ⊢
    refine ⟨(by show 4 ≤ sizeLine; decide), fun t6 h6 => ?_⟩
    have sG7 : Same H (upd G6 t6 (.tup [.str "less", .int 64, .int 2, .int 0])) := sG6.add h6
    have cG7 : Cds (upd G6 t6 (.tup [.str "less", .int 64, .int 2, .int 0])) ([t0, t1, t2, t3, t4, t5] ++ [t6]) ([(.stop, 0, 0, 0), (.back, 1, 0, 0), (.say, 4, 1, 0), (.takeL, 16, 1, 1), (.move, 32, 2, 0), (.add, 48, 2, 0)] ++ [(.less, 64, 2, 0)]) := cG6.snoc (.less, 64, 2, 0) h6
    have qG7 := Same.new (o := .tup [.str "less", .int 64, .int 2, .int 0]) h6 _ _ qG6
    generalize upd G6 t6 (.tup [.str "less", .int 64, .int 2, .int 0]) = G7 at sG7 cG7 qG7 ⊢
    refine ⟨(by show 4 ≤ sizeLine; decide), fun t7 h7 => ?_⟩
    have sG8 : Same H (upd G7 t7 (.tup [.str "load", .int 80, .int 1, .int 1])) := sG7.add h7
    have cG8 : Cds (upd G7 t7 (.tup [.str "load", .int 80, .int 1, .int 1])) ([t0, t1, t2, t3, t4, t5, t6] ++ [t7]) ([(.stop, 0, 0, 0), (.back, 1, 0, 0), (.say, 4, 1, 0), (.takeL, 16, 1, 1), (.move, 32, 2, 0), (.add, 48, 2, 0), (.less, 64, 2, 0)] ++ [(.load, 80, 1, 1)]) := cG7.snoc (.load, 80, 1, 1) h7
    have qG8 := Same.new (o := .tup [.str "load", .int 80, .int 1, .int 1]) h7 _ _ qG7
    generalize upd G7 t7 (.tup [.str "load", .int 80, .int 1, .int 1]) = G8 at sG8 cG8 qG8 ⊢
    refine ⟨(by show 4 ≤ sizeLine; decide), fun t8 h8 => ?_⟩
    have sG9 : Same H (upd G8 t8 (.tup [.str "store", .int 84, .int 1, .int 1])) := sG8.add h8
    have cG9 : Cds (upd G8 t8 (.tup [.str "store", .int 84, .int 1, .int 1])) ([t0, t1, t2, t3, t4, t5, t6, t7] ++ [t8]) ([(.stop, 0, 0, 0), (.back, 1, 0, 0), (.say, 4, 1, 0), (.takeL, 16, 1, 1), (.move, 32, 2, 0), (.add, 48, 2, 0), (.less, 64, 2, 0), (.load, 80, 1, 1)] ++ [(.store, 84, 1, 1)]) := cG8.snoc (.store, 84, 1, 1) h8
    have qG9 := Same.new (o := .tup [.str "store", .int 84, .int 1, .int 1]) h8 _ _ qG8
    generalize upd G8 t8 (.tup [.str "store", .int 84, .int 1, .int 1]) = G9 at sG9 cG9 qG9 ⊢
    refine ⟨(by show 4 ≤ sizeLine; decide), fun t9 h9 => ?_⟩
    have sG10 : Same H (upd G9 t9 (.tup [.str "jump", .int 96, .int 0, .int 1])) := sG9.add h9
    have cG10 : Cds (upd G9 t9 (.tup [.str "jump", .int 96, .int 0, .int 1])) ([t0, t1, t2, t3, t4, t5, t6, t7, t8] ++ [t9]) ([(.stop, 0, 0, 0), (.back, 1, 0, 0), (.say, 4, 1, 0), (.takeL, 16, 1, 1), (.move, 32, 2, 0), (.add, 48, 2, 0), (.less, 64, 2, 0), (.load, 80, 1, 1), (.store, 84, 1, 1)] ++ [(.jump, 96, 0, 1)]) := cG9.snoc (.jump, 96, 0, 1) h9
    have qG10 := Same.new (o := .tup [.str "jump", .int 96, .int 0, .int 1]) h9 _ _ qG9
    generalize upd G9 t9 (.tup [.str "jump", .int 96, .int 0, .int 1]) = G10 at sG10 cG10 qG10 ⊢
    refine ⟨(by show 5 ≤ sizeLine; decide), fun l1 hl1 => ?_⟩
    have sL1 : Same H (upd G10 l1 (.lst [.ref t5, .ref t6, .ref t7, .ref t8, .ref t9])) := sG10.add hl1
    have cL1 := cG10.mono (Same.new (o := .lst [.ref t5, .ref t6, .ref t7, .ref t8, .ref t9]) hl1)
    have pL1 : (upd G10 l1 (.lst [.ref t5, .ref t6, .ref t7, .ref t8, .ref t9])) l1 = some (.lst [.ref t5, .ref t6, .ref t7, .ref t8, .ref t9]) := upd_same
    have zL1 : H l1 = none := sG10.free hl1
    have qL1 := Same.new (o := .lst [.ref t5, .ref t6, .ref t7, .ref t8, .ref t9]) hl1 _ _ qG10
    generalize upd G10 l1 (.lst [.ref t5, .ref t6, .ref t7, .ref t8, .ref t9]) = L1 at sL1 cL1 pL1 qL1 ⊢
    refine ⟨l0, l1, _, _, rfl, rfl, qL1, pL1, (by show 10 ≤ sizeLine; decide), fun m1 hm1 => ?_⟩
    have sC1 : Same H (upd L1 m1 (.lst ([.ref t0, .ref t1, .ref t2, .ref t3, .ref t4] ++ [.ref t5, .ref t6, .ref t7, .ref t8, .ref t9]))) := sL1.add hm1
    have cC1 := cL1.mono (Same.new (o := .lst ([.ref t0, .ref t1, .ref t2, .ref t3, .ref t4] ++ [.ref t5, .ref t6, .ref t7, .ref t8, .ref t9])) hm1)
    have pC1 : (upd L1 m1 (.lst ([.ref t0, .ref t1, .ref t2, .ref t3, .ref t4] ++ [.ref t5, .ref t6, .ref t7, .ref t8, .ref t9]))) m1 = some (.lst [.ref t0, .ref t1, .ref t2, .ref t3, .ref t4, .ref t5, .ref t6, .ref t7, .ref t8, .ref t9]) := upd_same
    have zC1 : H m1 = none := sL1.free hm1
    generalize upd L1 m1 (.lst ([.ref t0, .ref t1, .ref t2, .ref t3, .ref t4] ++ [.ref t5, .ref t6, .ref t7, .ref t8, .ref t9])) = C1 at sC1 cC1 pC1 ⊢
    refine ⟨_, rfl, ?_⟩
    refine ⟨(by show 4 ≤ sizeLine; decide), fun t10 h10 => ?_⟩
    have sG11 : Same H (upd C1 t10 (.tup [.str "call", .int 97, .int 0, .int 1])) := sC1.add h10
    have cG11 : Cds (upd C1 t10 (.tup [.str "call", .int 97, .int 0, .int 1])) ([t0, t1, t2, t3, t4, t5, t6, t7, t8, t9] ++ [t10]) ([(.stop, 0, 0, 0), (.back, 1, 0, 0), (.say, 4, 1, 0), (.takeL, 16, 1, 1), (.move, 32, 2, 0), (.add, 48, 2, 0), (.less, 64, 2, 0), (.load, 80, 1, 1), (.store, 84, 1, 1), (.jump, 96, 0, 1)] ++ [(.call, 97, 0, 1)]) := cC1.snoc (.call, 97, 0, 1) h10
    have qG11 := Same.new (o := .tup [.str "call", .int 97, .int 0, .int 1]) h10 _ _ pC1
    generalize upd C1 t10 (.tup [.str "call", .int 97, .int 0, .int 1]) = G11 at sG11 cG11 qG11 ⊢
    refine ⟨(by show 4 ≤ sizeLine; decide), fun t11 h11 => ?_⟩
    have sG12 : Same H (upd G11 t11 (.tup [.str "skip", .int 99, .int 0, .int 1])) := sG11.add h11
    have cG12 : Cds (upd G11 t11 (.tup [.str "skip", .int 99, .int 0, .int 1])) ([t0, t1, t2, t3, t4, t5, t6, t7, t8, t9, t10] ++ [t11]) ([(.stop, 0, 0, 0), (.back, 1, 0, 0), (.say, 4, 1, 0), (.takeL, 16, 1, 1), (.move, 32, 2, 0), (.add, 48, 2, 0), (.less, 64, 2, 0), (.load, 80, 1, 1), (.store, 84, 1, 1), (.jump, 96, 0, 1), (.call, 97, 0, 1)] ++ [(.skip, 99, 0, 1)]) := cG11.snoc (.skip, 99, 0, 1) h11
    have qG12 := Same.new (o := .tup [.str "skip", .int 99, .int 0, .int 1]) h11 _ _ qG11
    generalize upd G11 t11 (.tup [.str "skip", .int 99, .int 0, .int 1]) = G12 at sG12 cG12 qG12 ⊢
    refine ⟨(by show 4 ≤ sizeLine; decide), fun t12 h12 => ?_⟩
    have sG13 : Same H (upd G12 t12 (.tup [.str "zero", .int 100, .int 1, .int 1])) := sG12.add h12
    have cG13 : Cds (upd G12 t12 (.tup [.str "zero", .int 100, .int 1, .int 1])) ([t0, t1, t2, t3, t4, t5, t6, t7, t8, t9, t10, t11] ++ [t12]) ([(.stop, 0, 0, 0), (.back, 1, 0, 0), (.say, 4, 1, 0), (.takeL, 16, 1, 1), (.move, 32, 2, 0), (.add, 48, 2, 0), (.less, 64, 2, 0), (.load, 80, 1, 1), (.store, 84, 1, 1), (.jump, 96, 0, 1), (.call, 97, 0, 1), (.skip, 99, 0, 1)] ++ [(.zero, 100, 1, 1)]) := cG12.snoc (.zero, 100, 1, 1) h12
    have qG13 := Same.new (o := .tup [.str "zero", .int 100, .int 1, .int 1]) h12 _ _ qG12
    generalize upd G12 t12 (.tup [.str "zero", .int 100, .int 1, .int 1]) = G13 at sG13 cG13 qG13 ⊢
    refine ⟨(by show 4 ≤ sizeLine; decide), fun t13 h13 => ?_⟩
    have sG14 : Same H (upd G13 t13 (.tup [.str "same", .int 112, .int 2, .int 1])) := sG13.add h13
    have cG14 : Cds (upd G13 t13 (.tup [.str "same", .int 112, .int 2, .int 1])) ([t0, t1, t2, t3, t4, t5, t6, t7, t8, t9, t10, t11, t12] ++ [t13]) ([(.stop, 0, 0, 0), (.back, 1, 0, 0), (.say, 4, 1, 0), (.takeL, 16, 1, 1), (.move, 32, 2, 0), (.add, 48, 2, 0), (.less, 64, 2, 0), (.load, 80, 1, 1), (.store, 84, 1, 1), (.jump, 96, 0, 1), (.call, 97, 0, 1), (.skip, 99, 0, 1), (.zero, 100, 1, 1)] ++ [(.same, 112, 2, 1)]) := cG13.snoc (.same, 112, 2, 1) h13
    have qG14 := Same.new (o := .tup [.str "same", .int 112, .int 2, .int 1]) h13 _ _ qG13
    generalize upd G13 t13 (.tup [.str "same", .int 112, .int 2, .int 1]) = G14 at sG14 cG14 qG14 ⊢
    refine ⟨(by show 4 ≤ sizeLine; decide), fun l2 hl2 => ?_⟩
    have sL2 : Same H (upd G14 l2 (.lst [.ref t10, .ref t11, .ref t12, .ref t13])) := sG14.add hl2
    have cL2 := cG14.mono (Same.new (o := .lst [.ref t10, .ref t11, .ref t12, .ref t13]) hl2)
    have pL2 : (upd G14 l2 (.lst [.ref t10, .ref t11, .ref t12, .ref t13])) l2 = some (.lst [.ref t10, .ref t11, .ref t12, .ref t13]) := upd_same
    have zL2 : H l2 = none := sG14.free hl2
    have qL2 := Same.new (o := .lst [.ref t10, .ref t11, .ref t12, .ref t13]) hl2 _ _ qG14
    generalize upd G14 l2 (.lst [.ref t10, .ref t11, .ref t12, .ref t13]) = L2 at sL2 cL2 pL2 qL2 ⊢
    refine ⟨m1, l2, _, _, rfl, rfl, qL2, pL2, (by show 14 ≤ sizeLine; decide), fun m2 hm2 => ?_⟩
    have sC2 : Same H (upd L2 m2 (.lst ([.ref t0, .ref t1, .ref t2, .ref t3, .ref t4, .ref t5, .ref t6, .ref t7, .ref t8, .ref t9] ++ [.ref t10, .ref t11, .ref t12, .ref t13]))) := sL2.add hm2
    have cC2 := cL2.mono (Same.new (o := .lst ([.ref t0, .ref t1, .ref t2, .ref t3, .ref t4, .ref t5, .ref t6, .ref t7, .ref t8, .ref t9] ++ [.ref t10, .ref t11, .ref t12, .ref t13])) hm2)
    have pC2 : (upd L2 m2 (.lst ([.ref t0, .ref t1, .ref t2, .ref t3, .ref t4, .ref t5, .ref t6, .ref t7, .ref t8, .ref t9] ++ [.ref t10, .ref t11, .ref t12, .ref t13]))) m2 = some (.lst [.ref t0, .ref t1, .ref t2, .ref t3, .ref t4, .ref t5, .ref t6, .ref t7, .ref t8, .ref t9, .ref t10, .ref t11, .ref t12, .ref t13]) := upd_same
    have zC2 : H m2 = none := sL2.free hm2
    generalize upd L2 m2 (.lst ([.ref t0, .ref t1, .ref t2, .ref t3, .ref t4, .ref t5, .ref t6, .ref t7, .ref t8, .ref t9] ++ [.ref t10, .ref t11, .ref t12, .ref t13])) = C2 at sC2 cC2 pC2 ⊢
    refine ⟨_, rfl, ?_⟩
    refine ⟨(by show 4 ≤ sizeLine; decide), fun t14 h14 => ?_⟩
    have sG15 : Same H (upd C2 t14 (.tup [.str "copy", .int 128, .int 0, .int 2])) := sC2.add h14
    have cG15 : Cds (upd C2 t14 (.tup [.str "copy", .int 128, .int 0, .int 2])) ([t0, t1, t2, t3, t4, t5, t6, t7, t8, t9, t10, t11, t12, t13] ++ [t14]) ([(.stop, 0, 0, 0), (.back, 1, 0, 0), (.say, 4, 1, 0), (.takeL, 16, 1, 1), (.move, 32, 2, 0), (.add, 48, 2, 0), (.less, 64, 2, 0), (.load, 80, 1, 1), (.store, 84, 1, 1), (.jump, 96, 0, 1), (.call, 97, 0, 1), (.skip, 99, 0, 1), (.zero, 100, 1, 1), (.same, 112, 2, 1)] ++ [(.copy, 128, 0, 2)]) := cC2.snoc (.copy, 128, 0, 2) h14
    have qG15 := Same.new (o := .tup [.str "copy", .int 128, .int 0, .int 2]) h14 _ _ pC2
    generalize upd C2 t14 (.tup [.str "copy", .int 128, .int 0, .int 2]) = G15 at sG15 cG15 qG15 ⊢
    refine ⟨(by show 1 ≤ sizeLine; decide), fun l3 hl3 => ?_⟩
    have sL3 : Same H (upd G15 l3 (.lst [.ref t14])) := sG15.add hl3
    have cL3 := cG15.mono (Same.new (o := .lst [.ref t14]) hl3)
    have pL3 : (upd G15 l3 (.lst [.ref t14])) l3 = some (.lst [.ref t14]) := upd_same
    have zL3 : H l3 = none := sG15.free hl3
    have qL3 := Same.new (o := .lst [.ref t14]) hl3 _ _ qG15
    generalize upd G15 l3 (.lst [.ref t14]) = L3 at sL3 cL3 pL3 qL3 ⊢
    refine ⟨m2, l3, _, _, rfl, rfl, qL3, pL3, (by show 15 ≤ sizeLine; decide), fun m3 hm3 => ?_⟩
    have sC3 : Same H (upd L3 m3 (.lst ([.ref t0, .ref t1, .ref t2, .ref t3, .ref t4, .ref t5, .ref t6, .ref t7, .ref t8, .ref t9, .ref t10, .ref t11, .ref t12, .ref t13] ++ [.ref t14]))) := sL3.add hm3
    have cC3 := cL3.mono (Same.new (o := .lst ([.ref t0, .ref t1, .ref t2, .ref t3, .ref t4, .ref t5, .ref t6, .ref t7, .ref t8, .ref t9, .ref t10, .ref t11, .ref t12, .ref t13] ++ [.ref t14])) hm3)
    have pC3 : (upd L3 m3 (.lst ([.ref t0, .ref t1, .ref t2, .ref t3, .ref t4, .ref t5, .ref t6, .ref t7, .ref t8, .ref t9, .ref t10, .ref t11, .ref t12, .ref t13] ++ [.ref t14]))) m3 = some (.lst [.ref t0, .ref t1, .ref t2, .ref t3, .ref t4, .ref t5, .ref t6, .ref t7, .ref t8, .ref t9, .ref t10, .ref t11, .ref t12, .ref t13, .ref t14]) := upd_same
    have zC3 : H m3 = none := sL3.free hm3
    generalize upd L3 m3 (.lst ([.ref t0, .ref t1, .ref t2, .ref t3, .ref t4, .ref t5, .ref t6, .ref t7, .ref t8, .ref t9, .ref t10, .ref t11, .ref t12, .ref t13] ++ [.ref t14])) = C3 at sC3 cC3 pC3 ⊢
    exact k C3 m3 [t0, t1, t2, t3, t4, t5, t6, t7, t8, t9, t10, t11, t12, t13, t14] sC3 zC3 pC3 cC3
end
end Rs
namespace Rs
open PySem PySem.Spec PyProof.Rows L2 C8
theorem ite_tC {b : Bool} {x y : V} {σ : L2.St} {H : Hp} {Q : VK} (h : Q (if b = true then x else y) H) : if b = true then tC x σ H Q else tC y σ H Q := by
  cases b <;> exact h
def val (mm : Nat) (o t : Int) : Int := match mm with
  | 0 => 0
  | 1 => o
  | _ => 4 * o + t
theorem val_at {mm : Nat} (h : mm ≤ 2) (o t : Int) : ([V.int 0, V.int o, V.int (4 * o + t)] : List V)[mm]? = some (V.int (val mm o t)) := by
  match mm, h with
  | 0, _ => rfl
  | 1, _ => rfl
  | 2, _ => rfl
def cnt (c : Prop) [Decidable c] : Nat := if c then 4 else 1
theorem cnt_eq (c : Prop) [Decidable c] : (if decide c = true then V.int 4 else V.int 1) = V.int ((cnt c : Nat) : Int) := by
  unfold cnt
  by_cases h : c
  · rw [if_pos (decide_eq_true h), if_pos h] <;> rfl
  · rw [if_neg (by rw [decide_eq_false h]; decide), if_neg h] <;> rfl
theorem val_none {mm : Nat} {b n : Int} (hm : mm ≤ 2) (h : ∀ o t : Nat, o < cnt ((0 : Int) < (mm : Int)) → t < cnt ((1 : Int) < (mm : Int)) → n ≠ b + val mm o t) : ¬ (b ≤ n ∧ n < b + span mm) := by
  intro ⟨h1, h2⟩
  match mm, hm with
  | 0, _ =>
    have := h 0 0 (by decide) (by decide)
    have e1 : val 0 ((0 : Nat) : Int) ((0 : Nat) : Int) = 0 := rfl
    have e2 : span 0 = 1 := rfl
    omega
  | 1, _ =>
    have e2 : span 1 = 4 := rfl
    have := h (n - b).toNat 0 (by have : cnt ((0 : Int) < ((1 : Nat) : Int)) = 4 := rfl; omega) (by decide)
    have e1 : val 1 (((n - b).toNat : Nat) : Int) ((0 : Nat) : Int) = (((n - b).toNat : Nat) : Int) := rfl
    omega
  | 2, _ =>
    have e2 : span 2 = 16 := rfl
    have := h ((n - b) / 4).toNat ((n - b) % 4).toNat (by have : cnt ((0 : Int) < ((2 : Nat) : Int)) = 4 := rfl; omega) (by have : cnt ((1 : Int) < ((2 : Nat) : Int)) = 4 := rfl; omega)
    have e1 : val 2 ((((n - b) / 4).toNat : Nat) : Int) ((((n - b) % 4).toNat : Nat) : Int) = 4 * ((((n - b) / 4).toNat : Nat) : Int) + ((((n - b) % 4).toNat : Nat) : Int) := rfl
    omega
def pick (mm : Nat) (o t : Int) : List Int := match mm with
  | 0 => []
  | 1 => [o]
  | _ => [o, t]
theorem val_in {mm : Nat} {b n : Int} {o t : Nat} (hm : mm ≤ 2) (ho : o < cnt ((0 : Int) < (mm : Int))) (ht : t < cnt ((1 : Int) < (mm : Int))) (e : n = b + val mm o t) : (b ≤ n ∧ n < b + span mm) ∧ boxesOf b mm n = pick mm o t := by
  match mm, hm with
  | 0, _ =>
    have e1 : val 0 (o : Int) (t : Int) = 0 := rfl
    have e2 : span 0 = 1 := rfl
    exact ⟨by omega, rfl⟩
  | 1, _ =>
    have e1 : val 1 (o : Int) (t : Int) = o := rfl
    have e2 : span 1 = 4 := rfl
    have : cnt ((0 : Int) < ((1 : Nat) : Int)) = 4 := rfl
    refine ⟨by omega, ?_⟩
    show [n - b] = [(o : Int)]
    rw [show n - b = (o : Int) by omega]
  | 2, _ =>
    have e1 : val 2 (o : Int) (t : Int) = 4 * (o : Int) + (t : Int) := rfl
    have e2 : span 2 = 16 := rfl
    have : cnt ((0 : Int) < ((2 : Nat) : Int)) = 4 := rfl
    have : cnt ((1 : Int) < ((2 : Nat) : Int)) = 4 := rfl
    refine ⟨by omega, ?_⟩
    show [(n - b) / 4, (n - b) % 4] = [(o : Int), (t : Int)]
    rw [show (n - b) / 4 = (o : Int) by omega, show (n - b) % 4 = (t : Int) by omega]
section
variable {P : Program} {w : World} {K : PySem.W.Frag} {mg : Str → Option Value} {base : Heap}
def spRead : Sp := fun vs H Q _ => ∃ (a : Addr) (ws : List Int) (p : Int), vs = [.ref a, .int p] ∧ H a = some (.lst (il ws)) ∧ ws.length ≤ 256 ∧
  (rowAt ws p = none → ∀ H', Same H H' → Q .non H') ∧ ∀ r, rowAt ws p = some r → ∀ H' t b n, Same H H' → H t = none → H b = none → H n = none → H' t = some (.tup [.str r.k.str, .ref b, .ref n, .int (r.size : Nat)]) → H' b = some (.lst (il r.bx)) → H' n = some (.lst (il r.nm)) → Q (.ref t) H'
theorem ok_read (D : DefAt K mg "_law_read" sD__law_read) (T : Txt w K mg) (c__law_all_codes : Cal P w K mg base 1 "_law_all_codes" spCodes []) : Cal P w K mg base 2 "_law_read" spRead [] := by
  refine cal_of D sc__law_read (fun _ _ _ _ _ _ us hl => match us, hl with | [_, _], _ => rfl) (fun vs H Q E h => ?_) (fun cdv A outer s H vs Q E hr h => ?_)
  · obtain ⟨c, n, p, rfl, _⟩ := h
    rfl
  · obtain ⟨a, ws, p, rfl, hS, hl, k0, k⟩ := h
    refine ⟨_, (pss_cut (ps_if (pt_not (pt_chain op_le op_lt pe_int (pv 1) (pe_callB call_len_seq (by rfl) T.free_len (by decide +kernel) (pa_cons (pv 0) pa_nil))))
   (pss_one (ps_ret pe_non))
   pss_nil)
  (pss_cons (ps_set (i := 2) sc__law_read.nd rfl (Or.inl rfl) (pe_ix ix_list (pv 0) (pv 1) (fun _ _ => rfl)))
  (pss_cut (ps_if (pt_chain op_le op_lt pe_int (pv 2) pe_int)
   (pss_one (ps_ret (pe_tup (pa_cons pe_str (pa_cons (pe_lst (pa_cons (pe_op op_fdiv (pe_op op_sub (pv 2) pe_int) pe_int) pa_nil)) (pa_cons (pe_lst (pa_cons (pe_op op_mod (pe_op op_sub (pv 2) pe_int) pe_int) pa_nil)) (pa_cons pe_int pa_nil)))))))
   pss_nil)
  (pss_cons (ps_for PassesOwn.never rfl (pi_list (pe_c0 c__law_all_codes hr (by decide) (by rfl))) (pg_tup rfl (pgs_cons (pg_name (i := 3) sc__law_read.nd rfl (Or.inl rfl)) (pgs_cons (pg_name (i := 4) sc__law_read.nd rfl (Or.inl rfl)) (pgs_cons (pg_name (i := 5) sc__law_read.nd rfl (Or.inl rfl)) (pgs_cons (pg_name (i := 6) sc__law_read.nd rfl (Or.inl rfl)) pgs_nil)))))
   (pss_one (ps_for PassesOwn.never rfl (pi_range1 (by rfl) T.free_range (pa_cons (pe_ifExp (pt_cmpR op_gt (pv 5) pe_int (nomark _)) pe_int pe_int) pa_nil)) (pg_name (i := 7) sc__law_read.nd rfl (Or.inl rfl))
   (pss_one (ps_for PassesOwn.never rfl (pi_range1 (by rfl) T.free_range (pa_cons (pe_ifExp (pt_cmpR op_gt (pv 5) pe_int (nomark _)) pe_int pe_int) pa_nil)) (pg_name (i := 8) sc__law_read.nd rfl (Or.inl rfl))
   (pss_one (ps_if (pt_cmpR op_eq (pv 2) (pe_op op_add (pv 4) (pe_ix ix_list (pe_lst (pa_cons pe_int (pa_cons (pv 7) (pa_cons (pe_op op_add (pe_op op_mul pe_int (pv 7)) (pv 8)) pa_nil)))) (pv 5) (fun _ _ => rfl))) (nomark _))
   (pss_cons (ps_if (pt_cmpR op_ge (pe_op op_add (pv 1) (pv 6)) (pe_callB call_len_seq (by rfl) T.free_len (by decide +kernel) (pa_cons (pv 0) pa_nil)) (nomark _))
   (pss_one (ps_ret pe_non))
   pss_nil)
  (pss_one (ps_ret (pe_tup (pa_cons (pv 3) (pa_cons (pe_ix ix_list (pe_lst (pa_cons (pe_lst pa_nil) (pa_cons (pe_lst (pa_cons (pv 7) pa_nil)) (pa_cons (pe_lst (pa_cons (pv 7) (pa_cons (pv 8) pa_nil))) pa_nil)))) (pv 5) (fun _ _ => rfl)) (pa_cons (pe_slice sl_list (pv 0) (po_some (pe_op op_add (pv 1) pe_int)) (po_some (pe_op op_add (pe_op op_add (pv 1) pe_int) (pv 6)))) (pa_cons (pe_op op_add pe_int (pv 6)) pa_nil))))))))
   pss_nil)))))))
  (pss_one (ps_ret pe_non)))))), ?_⟩
    refine ⟨fun σ' H' => σ' = start N__law_read [.ref a, .int p] ∧ H = H' ∧ (0 ≤ p ∧ p < (ws.length : Int)), ?_, ?_⟩
    · refine ⟨_, rfl, _, _, rfl, rfl, _, rfl, ?_⟩
      by_cases h1 : 0 ≤ p
      · rw [decide_eq_true h1]
        refine iteT ⟨_, rfl, a, _, rfl, .inl (SqL.of hS), _, _, rfl, rfl, _, rfl, ?_⟩
        rw [List.length_map]
        by_cases h2 : p < (ws.length : Int)
        · rw [decide_eq_true h2]
          exact iteF ⟨rfl, rfl, h1, h2⟩
        · rw [decide_eq_false h2]
          exact iteT (k0 (if_neg fun q => h2 q.2) _ (Same.refl _))
      · rw [decide_eq_false h1]
        exact iteF ⟨_, rfl, iteT (k0 (if_neg fun q => h1 q.1) _ (Same.refl _))⟩
    · rintro σ' H' ⟨rfl, rfl, hp⟩
      have er := rowAt_in hp
      refine ⟨_, rfl, _, rfl, a, _, _, _, rfl, rfl, SqL.of hS, ints_atI hp.1 hp.2, ?_⟩
      generalize hw : ws.getD p.toNat 0 = n at er
      refine ⟨fun σ' H' => σ' = [some (.ref a), some (.int p), some (.int n), none, none, none, none, none, none] ∧ H = H' ∧ ¬ (144 ≤ n ∧ n < 176), ?_, ?_⟩
      · refine ⟨_, rfl, _, _, rfl, rfl, _, rfl, ?_⟩
        by_cases h1 : 144 ≤ n
        · rw [decide_eq_true h1]
          refine iteT ⟨_, _, rfl, rfl, _, rfl, ?_⟩
          by_cases h2 : n < 176
          · rw [decide_eq_true h2]
            rw [if_pos ⟨h1, h2⟩] at er
            refine iteT ?_
            refine ⟨_, rfl, _, _, rfl, rfl, _, _, rfl, rfl, ⟨by decide, by decide⟩, (by show 1 ≤ sizeLine; decide), fun b hb => ?_⟩
            refine ⟨_, rfl, _, _, rfl, rfl, _, _, rfl, rfl, (by show (0 : Int) < 8; decide), (by show 1 ≤ sizeLine; decide), fun m hm => ?_⟩
            refine ⟨(by show 4 ≤ sizeLine; decide), fun t ht => ?_⟩
            have s1 := Same.new (o := .lst [V.int ((n - 144) / 8)]) hb
            have s2 := s1.add (o := .lst [V.int ((n - 144) % 8)]) hm
            have hbm : b ≠ m := ne_of_none upd_same hm
            have hbt : b ≠ t := ne_of_none (Same.new hm _ _ upd_same) ht
            have hmt : m ≠ t := ne_of_none upd_same ht
            refine k _ er _ t b m (s2.add ht) (s2.free ht) hb (s1.free hm) upd_same ?_ ?_
            · rw [upd_ne hbt, upd_ne hbm, upd_same]
              rfl
            · rw [upd_ne hmt, upd_same]
              rfl
          · rw [decide_eq_false h2]
            exact iteF ⟨rfl, rfl, fun q => h2 q.2⟩
        · rw [decide_eq_false h1]
          exact iteF ⟨_, rfl, iteF ⟨rfl, rfl, fun q => h1 q.1⟩⟩
      · rintro σ' H' ⟨rfl, rfl, hnt⟩
        rw [if_neg hnt] at er
        refine ⟨rfl, fun H1 cl ts s1 z1 hcl hcd => ⟨cl, rfl, ⟨_, SqL.of hcl⟩, for_list (K := K) (a := cl) (xs := ts.map V.ref)
          (fun i σ H' => Same H1 H' ∧ findC (codes.drop i) n = findC codes n ∧ ∃ x3 x4 x5 x6 x7 x8, σ = [some (.ref a), some (.int p), some (.int n), x3, x4, x5, x6, x7, x8])
          ⟨Same.refl _, rfl, _, _, _, _, _, _, rfl⟩ (fun i σ H' _ ⟨e, _⟩ => SqL.of (e _ _ hcl)) ?_ ?_⟩⟩
        · rintro i x σ H2 hx ⟨s2, hf, x3, x4, x5, x6, x7, x8, rfl⟩
          rw [List.getElem?_map] at hx
          cases et : ts[i]? with
          | none =>
            rw [et] at hx
            cases hx
          | some t =>
            rw [et] at hx
            cases hx
            have hi : i < codes.length := by
              rw [← hcd.1]
              exact (List.getElem?_eq_some_iff.mp et).1
            obtain ⟨c, ec⟩ : ∃ c, codes[i]? = some c := ⟨_, List.getElem?_eq_getElem hi⟩
            have cm : c ∈ codes := List.mem_of_getElem? ec
            have ei := (List.getElem?_eq_some_iff.mp ec).2
            have htc := s2 _ _ (hcd.2 i t c et ec)
            obtain ⟨q1, q2, q3, q4⟩ := codes_ok c cm
            rw [List.drop_eq_getElem_cons hi, ei, findC_cons] at hf
            refine ⟨t, _, rfl, SqT.of htc, rfl, _, _, rfl, _, _, rfl, _, _, rfl, _, _, rfl, rfl, ?_⟩
            refine ⟨_, rfl, _, _, rfl, rfl, _, rfl, ite_tC ?_⟩
            rw [cnt_eq]
            have cb : ∀ (z : Prop) [Decidable z], cnt z ≤ 4 := fun z _ => by unfold cnt; split <;> omega
            have cb1 := cb ((0 : Int) < (c.2.2.1 : Int))
            have cb2 := cb ((1 : Int) < (c.2.2.1 : Int))
            refine ⟨_, rfl, by omega, by omega, for_range (n := cnt ((0 : Int) < (c.2.2.1 : Int)))
              (fun j σ H' => Same H1 H' ∧ (∀ o t : Nat, o < j → t < cnt ((1 : Int) < (c.2.2.1 : Int)) → n ≠ c.2.1 + val c.2.2.1 o t) ∧ ∃ x7 x8, σ = [some (.ref a), some (.int p), some (.int n), some (.str c.1.str), some (.int c.2.1), some (.int (c.2.2.1 : Nat)), some (.int (c.2.2.2 : Nat)), x7, x8])
              ⟨s2, fun o t h => absurd h (Nat.not_lt_zero _), _, _, rfl⟩ ?_ ?_⟩
            · rintro j σ H3 hj ⟨s3, hno, y7, y8, rfl⟩
              refine ⟨_, rfl, _, _, rfl, rfl, _, rfl, ite_tC ?_⟩
              rw [cnt_eq]
              refine ⟨_, rfl, by omega, by omega, for_range (n := cnt ((1 : Int) < (c.2.2.1 : Int)))
                (fun l σ H' => Same H1 H' ∧ (∀ t : Nat, t < l → n ≠ c.2.1 + val c.2.2.1 j t) ∧ ∃ x8, σ = [some (.ref a), some (.int p), some (.int n), some (.str c.1.str), some (.int c.2.1), some (.int (c.2.2.1 : Nat)), some (.int (c.2.2.2 : Nat)), some (.int (0 + (j : Int))), x8])
                ⟨s3, fun t h => absurd h (Nat.not_lt_zero _), _, rfl⟩ ?_ ?_⟩
              · rintro l σ H4 hlc ⟨s4, hnl, z8, rfl⟩
                refine ⟨_, rfl, _, rfl, _, rfl, _, rfl, _, _, rfl, rfl, .inl ⟨by decide, by decide⟩, _, rfl, _, _, rfl, rfl, (by show 3 ≤ sizeLine; decide), fun q hq => ?_⟩
                refine ⟨_, rfl, q, _, _, _, rfl, rfl, SqL.of upd_same, atI_nat (val_at q4 _ _), _, _, rfl, rfl, rfl, _, rfl, ?_⟩
                have e0 : ∀ z : Nat, (0 : Int) + (z : Int) = (z : Int) := fun z => by omega
                rw [e0, e0] at *
                by_cases he : n = c.2.1 + val c.2.2.1 j l
                · rw [decide_eq_true (congrArg V.int he)]
                  refine iteT ?_
                  obtain ⟨hin, ebx⟩ := val_in q4 hj hlc he
                  rw [if_pos hin] at hf
                  rw [← hf] at er
                  dsimp only at er
                  have s5 : Same H (upd H4 q (.lst [V.int 0, V.int (j : Int), V.int (4 * (j : Int) + (l : Int))])) := (s1.trans s4).add hq
                  generalize upd H4 q (.lst [V.int 0, V.int (j : Int), V.int (4 * (j : Int) + (l : Int))]) = H5 at s5 ⊢
                  have hS5 := s5 _ _ hS
                  refine ⟨_, rfl, _, rfl, _, _, rfl, rfl, _, rfl, a, _, rfl, .inl (SqL.of hS5), _, _, rfl, rfl, _, rfl, ?_⟩
                  rw [List.length_map]
                  by_cases hlen : (ws.length : Int) ≤ p + (c.2.2.2 : Int)
                  · rw [decide_eq_true hlen]
                    rw [if_pos (by omega)] at er
                    exact iteT (k0 er _ s5)
                  · rw [decide_eq_false hlen]
                    rw [if_neg (by omega)] at er
                    refine iteF ?_
                    refine ⟨_, rfl, Nat.zero_le _, fun e0 he0 => ?_⟩
                    refine ⟨_, rfl, (by show 1 ≤ sizeLine; decide), fun e1 he1 => ?_⟩
                    refine ⟨_, rfl, _, rfl, (by show 2 ≤ sizeLine; decide), fun e2 he2 => ?_⟩
                    have z0 : H e0 = none := s5.free he0
                    have s6 := s5.add (o := .lst []) he0
                    have z1' : H e1 = none := s6.free he1
                    have s7 := s6.add (o := .lst [V.int (j : Int)]) he1
                    have z2 : H e2 = none := s7.free he2
                    have s8 := s7.add (o := .lst [V.int (j : Int), V.int (l : Int)]) he2
                    have f2 : upd (upd (upd H5 e0 (.lst [])) e1 (.lst [V.int (j : Int)])) e2 (.lst [V.int (j : Int), V.int (l : Int)]) e2 = some (.lst (il [(j : Int), (l : Int)])) := upd_same
                    have f1 : upd (upd (upd H5 e0 (.lst [])) e1 (.lst [V.int (j : Int)])) e2 (.lst [V.int (j : Int), V.int (l : Int)]) e1 = some (.lst (il [(j : Int)])) := Same.new he2 _ _ upd_same
                    have f0 : upd (upd (upd H5 e0 (.lst [])) e1 (.lst [V.int (j : Int)])) e2 (.lst [V.int (j : Int), V.int (l : Int)]) e0 = some (.lst (il [])) := ((Same.refl _).add he1).add he2 _ _ upd_same
                    generalize upd (upd (upd H5 e0 (.lst [])) e1 (.lst [V.int (j : Int)])) e2 (.lst [V.int (j : Int), V.int (l : Int)]) = H8 at s8 f0 f1 f2 ⊢
                    refine ⟨(by show 3 ≤ sizeLine; decide), fun e3 he3 => ?_⟩
                    obtain ⟨eb, pk, zb, fb⟩ : ∃ eb, ([V.ref e0, V.ref e1, V.ref e2] : List V)[c.2.2.1]? = some (V.ref eb) ∧ H eb = none ∧ H8 eb = some (.lst (il (boxesOf c.2.1 c.2.2.1 n))) := by
                      rw [ebx]
                      generalize c.2.2.1 = mm at q4
                      match mm, q4 with
                      | 0, _ => exact ⟨e0, rfl, z0, f0⟩
                      | 1, _ => exact ⟨e1, rfl, z1', f1⟩
                      | 2, _ => exact ⟨e2, rfl, z2, f2⟩
                    refine ⟨_, rfl, e3, _, _, _, rfl, rfl, SqL.of upd_same, atI_nat pk, ?_⟩
                    have s9 := s8.add (o := .lst [V.ref e0, V.ref e1, V.ref e2]) he3
                    have fb9 := Same.new (o := .lst [V.ref e0, V.ref e1, V.ref e2]) he3 _ _ fb
                    generalize upd H8 e3 (.lst [V.ref e0, V.ref e1, V.ref e2]) = H9 at s9 fb9 ⊢
                    refine ⟨_, rfl, _, rfl, _, _, rfl, rfl, _, rfl, _, rfl, _, _, rfl, rfl, _, rfl, _, _, rfl, rfl, _, rfl, a, _, rfl, SqL.of (s9 _ _ hS), fun m hm => ?_⟩
                    refine ⟨_, rfl, _, _, rfl, rfl, (by show 4 ≤ sizeLine; decide), fun t ht => ?_⟩
                    have e1' : p + 1 = ((p.toNat + 1 : Nat) : Int) := by omega
                    have e2' : p + 1 + ((c.2.2.2 : Nat) : Int) = ((p.toNat + (1 + c.2.2.2) : Nat) : Int) := by omega
                    have ecut : cutV (il ws) (some (p + 1)) (some (p + 1 + ((c.2.2.2 : Nat) : Int))) = il ((ws.drop (p.toNat + 1)).take c.2.2.2) := by
                      rw [e2', e1', cut_il _ (by omega)]
                      congr 2
                      omega
                    rw [ecut] at ht ⊢
                    have s10 := s9.add (o := .lst (il ((ws.drop (p.toNat + 1)).take c.2.2.2))) hm
                    have hbm : eb ≠ m := ne_of_none fb9 hm
                    have hbt : eb ≠ t := ne_of_none (Same.new hm _ _ fb9) ht
                    have hmt : m ≠ t := ne_of_none upd_same ht
                    refine k _ er _ t eb m (s10.add ht) (s10.free ht) zb (s9.free hm) ?_ ?_ ?_
                    · rw [upd_same]
                      have e5 : ((1 + c.2.2.2 : Nat) : Int) = 1 + (c.2.2.2 : Int) := by omega
                      rw [e5]
                    · rw [upd_ne hbt, upd_ne hbm]
                      exact fb9
                    · rw [upd_ne hmt, upd_same]
                · rw [decide_eq_false (fun q => he (V.int.inj q))]
                  refine iteF ⟨s4.add hq, fun t ht => ?_, _, rfl⟩
                  by_cases q : t = l
                  · rw [q]
                    exact he
                  · exact hnl t (by omega)
              · rintro σ H4 ⟨s4, hnl, z8, rfl⟩
                refine ⟨s4, fun o t ho ht => ?_, _, _, rfl⟩
                by_cases q : o = j
                · rw [q]
                  exact hnl t ht
                · exact hno o t (by omega) ht
            · rintro σ H3 ⟨s3, hno, y7, y8, rfl⟩
              rw [if_neg (val_none q4 hno)] at hf
              exact ⟨s3, hf, _, _, _, _, _, _, rfl⟩
        · rintro σ H2 ⟨s2, hf, x3, x4, x5, x6, x7, x8, rfl⟩
          have e0 : codes.drop (ts.map V.ref).length = [] := by
            rw [List.length_map, hcd.1]
            exact List.drop_length
          rw [e0] at hf
          rw [← hf] at er
          exact k0 er _ (s1.trans s2)
end
end Rs
/-! What is come to, as a plain function; what a run does was come to. -/
namespace Rs
open PySem
def sgn (n : Int) : Int := if n < 128 then n else n - 256
def goals (r : Row) (p : Int) : List Int := match r.k with
  | .jump | .call | .zero | .same => [r.nm.getD 0 0]
  | .skip => [p + r.size + sgn (r.nm.getD 0 0)]
  | _ => []
def onward (r : Row) (p : Int) : List Int := match r.k with
  | .stop | .back | .jump | .skip => []
  | _ => [p + r.size]
def leads (r : Row) (p : Int) : List Int := goals r p ++ onward r p
abbrev Pt := Int × Int
structure TS where
  rows : List (Int × Row)
  wait : List Pt
  apart : List Pt
def lt2 (a b : Pt) : Bool := decide (a.1 < b.1 ∨ (a.1 = b.1 ∧ a.2 < b.2))
def minP : Pt → List Pt → Pt
  | m, [] => m
  | m, x :: r => minP (if lt2 x m = true then x else m) r
theorem minP_mem : ∀ (l : List Pt) (m : Pt), minP m l = m ∨ minP m l ∈ l
  | [], m => .inl rfl
  | x :: r, m => by
    unfold minP
    by_cases h : lt2 x m = true
    · rw [if_pos h]
      rcases minP_mem r x with q | q
      · rw [q]
        exact .inr List.mem_cons_self
      · exact .inr (List.mem_cons_of_mem _ q)
    · rw [if_neg h]
      rcases minP_mem r m with q | q
      · exact .inl q
      · exact .inr (List.mem_cons_of_mem _ q)
def insP (w : List Pt) (x : Pt) : List Pt := if x ∈ w then w else w ++ [x]
theorem mem_insP {w : List Pt} {x y : Pt} : y ∈ insP w x ↔ y ∈ w ∨ y = x := by
  unfold insP
  by_cases h : x ∈ w
  · rw [if_pos h]
    constructor
    · exact .inl
    · rintro (q | rfl)
      · exact q
      · exact h
  · rw [if_neg h]
    simp
def covers (rows : List (Int × Row)) (q : Int) : Bool := rows.any fun e => decide (e.1 ≤ q ∧ q < e.1 + e.2.size)
def hits (rows : List (Int × Row)) (p : Int) (n : Nat) : Bool := (List.range n).any fun k => covers rows (p + (k : Nat))
def isRow (rows : List (Int × Row)) (p : Int) : Bool := rows.any fun e => decide (e.1 = p)
/-- one that waits is looked at -/
def look (ws : List Int) (s : TS) (m : Pt) : TS :=
  if ¬ (0 ≤ m.1 ∧ m.1 < (ws.length : Int)) ∨ isRow s.rows m.1 = true then s
  else match rowAt ws m.1 with
    | none => if covers s.rows m.1 = true then { s with apart := insP s.apart (m.2, m.1) } else s
    | some r => if hits s.rows m.1 r.size = true then { s with apart := insP s.apart (m.2, m.1) }
      else { s with rows := s.rows ++ [(m.1, r)], wait := (leads r m.1).foldl (fun w q => insP w (q, m.1)) s.wait }
def tstep (ws : List Int) (s : TS) : TS := match s.wait with
  | [] => s
  | x :: r => look ws { s with wait := (x :: r).filter fun y => decide (y ≠ minP x r) } (minP x r)
/-! ### what holds between two looks -/
def RowsP (s : TS) (p : Int) : Prop := ∃ r, (p, r) ∈ s.rows
def Done (ws : List Int) (s : TS) (q f : Int) : Prop := rowAt ws q = none ∨ RowsP s q ∨ (f, q) ∈ s.apart
structure Tr (ws bs : List Int) (s : TS) : Prop where
  is : ∀ p r, (p, r) ∈ s.rows → rowAt ws p = some r
  led : ∀ p r, (p, r) ∈ s.rows → ∀ q ∈ leads r p, (q, p) ∈ s.wait ∨ Done ws s q p
  beg : ∀ b ∈ bs, (b, -1) ∈ s.wait ∨ Done ws s b (-1)
  src : ∀ q f, (q, f) ∈ s.wait → (f = -1 ∧ q ∈ bs) ∨ ∃ r, (f, r) ∈ s.rows ∧ q ∈ leads r f
  ord : ∀ (i : Nat) p r, s.rows[i]? = some (p, r) → p ∈ bs ∨ ∃ (j : Nat) (p' : Int) (r' : Row), j < i ∧ s.rows[j]? = some (p', r') ∧ p ∈ leads r' p'
theorem Done.mono {ws : List Int} {s t : TS} {q f : Int} (h : Done ws s q f) (h1 : ∀ e ∈ s.rows, e ∈ t.rows) (h2 : ∀ e ∈ s.apart, e ∈ t.apart) : Done ws t q f := by
  rcases h with h | ⟨r, h⟩ | h
  · exact .inl h
  · exact .inr (.inl ⟨r, h1 _ h⟩)
  · exact .inr (.inr (h2 _ h))
theorem isRow_iff {rows : List (Int × Row)} {p : Int} : isRow rows p = true ↔ ∃ r, (p, r) ∈ rows := by
  unfold isRow
  rw [List.any_eq_true]
  constructor
  · rintro ⟨⟨a, r⟩, h, e⟩
    have : a = p := of_decide_eq_true e
    subst this
    exact ⟨r, h⟩
  · rintro ⟨r, h⟩
    exact ⟨_, h, decide_eq_true rfl⟩
theorem rowAt_out {ws : List Int} {p : Int} (h : ¬ (0 ≤ p ∧ p < (ws.length : Int))) : rowAt ws p = none := by
  unfold rowAt
  rw [if_neg h]
theorem foldl_ins {l : List Int} {w : List Pt} {p : Int} {y : Pt} : y ∈ l.foldl (fun w q => insP w (q, p)) w ↔ y ∈ w ∨ ∃ q ∈ l, y = (q, p) := by
  induction l generalizing w with
  | nil => simp
  | cons a r ih =>
    rw [List.foldl_cons, ih, mem_insP]
    constructor
    · rintro ((h | h) | ⟨q, h1, h2⟩)
      · exact .inl h
      · exact .inr ⟨a, List.mem_cons_self, h⟩
      · exact .inr ⟨q, List.mem_cons_of_mem _ h1, h2⟩
    · rintro (h | ⟨q, h1, h2⟩)
      · exact .inl (.inl h)
      · rcases List.mem_cons.mp h1 with rfl | h1
        · exact .inl (.inr h2)
        · exact .inr ⟨q, h1, h2⟩
/-- the looked one is done, the rest as it was -/
theorem look_tr {ws bs : List Int} {s : TS} {m : Pt} (h : Tr ws bs { s with wait := m :: s.wait }) : Tr ws bs (look ws s m) := by
  obtain ⟨q, f⟩ := m
  -- all that wait, but the looked one, wait still or are done
  have base : ∀ t : TS, (∀ e ∈ s.rows, e ∈ t.rows) → (∀ e ∈ s.apart, e ∈ t.apart) → (∀ e ∈ s.wait, e ∈ t.wait) → Done ws t q f →
      (∀ p r, (p, r) ∈ s.rows → ∀ q' ∈ leads r p, (q', p) ∈ t.wait ∨ Done ws t q' p) ∧ ∀ b ∈ bs, (b, -1) ∈ t.wait ∨ Done ws t b (-1) := fun t h1 h2 h3 hd => by
    constructor
    · intro p r hp q' hq
      rcases h.led p r hp q' hq with z | z
      · rcases List.mem_cons.mp z with z | z
        · obtain ⟨z1, z2⟩ := Prod.mk.inj z
          subst z1 z2
          exact .inr hd
        · exact .inl (h3 _ z)
      · exact .inr (Done.mono z h1 h2)
    · intro b hb
      rcases h.beg b hb with z | z
      · rcases List.mem_cons.mp z with z | z
        · obtain ⟨z1, z2⟩ := Prod.mk.inj z
          subst z1 z2
          exact .inr hd
        · exact .inl (h3 _ z)
      · exact .inr (Done.mono z h1 h2)
  have ssrc : ∀ a b, (a, b) ∈ s.wait → (b = -1 ∧ a ∈ bs) ∨ ∃ r, (b, r) ∈ s.rows ∧ a ∈ leads r b := fun a b z => h.src a b (List.mem_cons_of_mem _ z)
  unfold look
  by_cases c1 : ¬ (0 ≤ q ∧ q < (ws.length : Int)) ∨ isRow s.rows q = true
  · rw [if_pos c1]
    have hd : Done ws s q f := by
      rcases c1 with c | c
      · exact .inl (rowAt_out c)
      · exact .inr (.inl (isRow_iff.mp c))
    obtain ⟨b1, b2⟩ := base s (fun _ z => z) (fun _ z => z) (fun _ z => z) hd
    exact ⟨h.is, b1, b2, ssrc, h.ord⟩
  · rw [if_neg c1]
    have apart : ∀ t : TS, t = { s with apart := insP s.apart (f, q) } → Tr ws bs t := fun t e => by
      subst e
      obtain ⟨b1, b2⟩ := base { s with apart := insP s.apart (f, q) } (fun _ z => z) (fun _ z => mem_insP.mpr (.inl z)) (fun _ z => z) (.inr (.inr (mem_insP.mpr (.inr rfl))))
      exact ⟨h.is, b1, b2, ssrc, h.ord⟩
    cases er : rowAt ws q with
    | none =>
      dsimp only
      by_cases c2 : covers s.rows q = true
      · rw [if_pos c2]
        exact apart _ rfl
      · rw [if_neg c2]
        obtain ⟨b1, b2⟩ := base s (fun _ z => z) (fun _ z => z) (fun _ z => z) (.inl er)
        exact ⟨h.is, b1, b2, ssrc, h.ord⟩
    | some r =>
      dsimp only
      by_cases c2 : hits s.rows q r.size = true
      · rw [if_pos c2]
        exact apart _ rfl
      · rw [if_neg c2]
        have hin : ∀ e ∈ s.rows, e ∈ s.rows ++ [(q, r)] := fun e z => List.mem_append_left _ z
        have hnew : (q, r) ∈ s.rows ++ [(q, r)] := List.mem_append_right _ (List.mem_singleton.mpr rfl)
        obtain ⟨b1, b2⟩ := base { s with rows := s.rows ++ [(q, r)], wait := (leads r q).foldl (fun w z => insP w (z, q)) s.wait } hin (fun _ z => z) (fun _ z => foldl_ins.mpr (.inl z)) (.inr (.inl ⟨r, hnew⟩))
        refine ⟨fun p r' hp => ?_, fun p r' hp q' hq => ?_, b2, fun a b hw => ?_, fun i p r' hi => ?_⟩
        · rcases List.mem_append.mp hp with z | z
          · exact h.is p r' z
          · obtain ⟨z1, z2⟩ := Prod.mk.inj (List.mem_singleton.mp z)
            subst z1 z2
            exact er
        · rcases List.mem_append.mp hp with z | z
          · exact b1 p r' z q' hq
          · obtain ⟨z1, z2⟩ := Prod.mk.inj (List.mem_singleton.mp z)
            subst z1 z2
            exact .inl (foldl_ins.mpr (.inr ⟨q', hq, rfl⟩))
        · rcases foldl_ins.mp hw with z | ⟨z, hz, e⟩
          · rcases ssrc a b z with z | ⟨r', z1, z2⟩
            · exact .inl z
            · exact .inr ⟨r', hin _ z1, z2⟩
          · obtain ⟨e1, e2⟩ := Prod.mk.inj e
            subst e1 e2
            exact .inr ⟨r, hnew, hz⟩
        · by_cases hl : i < s.rows.length
          · rw [List.getElem?_append_left hl] at hi
            rcases h.ord i p r' hi with z | ⟨j, p', r'', z1, z2, z3⟩
            · exact .inl z
            · exact .inr ⟨j, p', r'', z1, by rw [List.getElem?_append_left (by omega)]; exact z2, z3⟩
          · rw [List.getElem?_append_right (by omega)] at hi
            cases e : i - s.rows.length with
            | succ k =>
              rw [e] at hi
              cases hi
            | zero =>
              rw [e] at hi
              cases hi
              rcases h.src q f List.mem_cons_self with ⟨_, z⟩ | ⟨r', z1, z2⟩
              · exact .inl z
              · obtain ⟨j, hj, ej⟩ := List.mem_iff_getElem.mp z1
                have hj' : j < s.rows.length := hj
                exact .inr ⟨j, f, r', by omega, by rw [List.getElem?_append_left hj, List.getElem?_eq_getElem hj, ej], z2⟩
theorem tstep_tr {ws bs : List Int} {s : TS} (h : Tr ws bs s) : Tr ws bs (tstep ws s) := by
  unfold tstep
  cases hw : s.wait with
  | nil => exact h
  | cons x r =>
    dsimp only
    have hm : minP x r ∈ x :: r := by
      rcases minP_mem r x with q | q
      · rw [q]
        exact List.mem_cons_self
      · exact List.mem_cons_of_mem _ q
    generalize minP x r = m at hm
    refine look_tr (s := { s with wait := (x :: r).filter fun y => decide (y ≠ m) }) ?_
    have to : ∀ y, y ∈ s.wait → y ∈ m :: (x :: r).filter fun y => decide (y ≠ m) := fun y hy => by
      by_cases e : y = m
      · rw [e]
        exact List.mem_cons_self
      · refine List.mem_cons_of_mem _ (List.mem_filter.mpr ⟨?_, decide_eq_true e⟩)
        rw [← hw]
        exact hy
    refine ⟨h.is, fun p r' hp q hq => ?_, fun b hb => ?_, fun q f hq => ?_, h.ord⟩
    · rcases h.led p r' hp q hq with z | z
      · exact .inl (to _ z)
      · exact .inr z
    · rcases h.beg b hb with z | z
      · exact .inl (to _ z)
      · exact .inr z
    · refine h.src q f ?_
      rw [hw]
      rcases List.mem_cons.mp hq with z | z
      · rw [z]
        exact hm
      · exact (List.mem_filter.mp z).1
/-! ### what a run does was come to -/
/-- of the first place that isn't in rows: it is apart -/
def Lost (R A : Int → Prop) (l : List Int) : Prop := ∀ (i : Nat) (p : Int), l[i]? = some p → (∀ (j : Nat) (q : Int), j < i → l[j]? = some q → R q) → R p ∨ A p
structure Cl (ws : List Int) (R A : Int → Prop) : Prop where
  led : ∀ p r, R p → rowAt ws p = some r → ∀ q ∈ leads r p, rowAt ws q ≠ none → R q ∨ A q
structure Jr (ws : List Int) (R A : Int → Prop) (m : M) : Prop where
  lost : Lost R A m.past
  next : (∀ p ∈ m.past, R p) → m.why = "" → rowAt ws m.place ≠ none → R m.place ∨ A m.place
  calls : (∀ p ∈ m.past, R p) → ∀ c ∈ m.calls, rowAt ws c ≠ none → R c ∨ A c
theorem Lost.snoc {R A : Int → Prop} {l : List Int} {p : Int} (h : Lost R A l) (hp : (∀ q ∈ l, R q) → R p ∨ A p) : Lost R A (l ++ [p]) := fun i q hi hb => by
  by_cases hl : i < l.length
  · rw [List.getElem?_append_left hl] at hi
    refine h i q hi fun j z hj hz => hb j z hj ?_
    rw [List.getElem?_append_left (by omega)]
    exact hz
  · rw [List.getElem?_append_right (by omega)] at hi
    cases e : i - l.length with
    | succ k =>
      rw [e] at hi
      cases hi
    | zero =>
      rw [e] at hi
      cases hi
      refine hp fun z hz => ?_
      obtain ⟨j, hj, ej⟩ := List.mem_iff_getElem.mp hz
      exact hb j z (by omega) (by rw [List.getElem?_append_left hj, List.getElem?_eq_getElem hj, ej])
theorem getLastD_mem {l : List Int} (h : l ≠ []) : l.getLastD 0 ∈ l := by
  cases l with
  | nil => exact absurd rfl h
  | cons a r => exact List.getLast_mem (List.cons_ne_nil a r)
/-- where a row goes on: a place that it leads to, or one that a call has kept -/
theorem doK_next {ws : List Int} {R A : Int → Prop} {p : Int} {r : Row} {m : M} (cl : Cl ws R A) (hp : R p) (er : rowAt ws p = some r) (hw : m.why = "") (hpl : m.place = p + r.size)
    (hc : ∀ c ∈ m.calls, rowAt ws c ≠ none → R c ∨ A c) :
    ((doK r.k r.bx r.nm m).why = "" → rowAt ws (doK r.k r.bx r.nm m).place ≠ none → R (doK r.k r.bx r.nm m).place ∨ A (doK r.k r.bx r.nm m).place) ∧
    ∀ c ∈ (doK r.k r.bx r.nm m).calls, rowAt ws c ≠ none → R c ∨ A c := by
  have led := cl.led p r hp er
  obtain ⟨k, bx, nm, sz⟩ := r
  dsimp only at hpl
  have on : onward ⟨k, bx, nm, sz⟩ p = [p + sz] → rowAt ws m.place ≠ none → R m.place ∨ A m.place := fun e z => by
    rw [hpl] at z ⊢
    exact led _ (List.mem_append_right _ (by rw [e]; exact List.mem_singleton.mpr rfl)) z
  have go : goals ⟨k, bx, nm, sz⟩ p = [nm.getD 0 0] → rowAt ws (nm.getD 0 0) ≠ none → R (nm.getD 0 0) ∨ A (nm.getD 0 0) := fun e z =>
    led _ (List.mem_append_left _ (by rw [e]; exact List.mem_singleton.mpr rfl)) z
  cases k
  case stop => exact ⟨fun q => absurd q ne_stop, hc⟩
  case back =>
    by_cases h : m.calls = []
    · have e : doK .back bx nm m = { m with why := "back" } := if_pos h
      dsimp only
      rw [e]
      exact ⟨fun q => absurd q ne_back, hc⟩
    · have e : doK .back bx nm m = { m with place := m.calls.getLastD 0, calls := m.calls.dropLast } := if_neg h
      dsimp only
      rw [e]
      exact ⟨fun _ => hc _ (getLastD_mem h), fun c z => hc c ((List.dropLast_sublist _).subset z)⟩
  case jump => exact ⟨fun _ => go rfl, hc⟩
  case call =>
    by_cases h : m.calls.length = 16
    · have e : doK .call bx nm m = { m with why := "deep" } := if_pos h
      dsimp only
      rw [e]
      exact ⟨fun q => absurd q ne_deep, hc⟩
    · have e : doK .call bx nm m = { m with calls := m.calls ++ [m.place], place := nm.getD 0 0 } := if_neg h
      dsimp only
      rw [e]
      refine ⟨fun _ => go rfl, fun c z => ?_⟩
      rcases List.mem_append.mp z with z | z
      · exact hc c z
      · rw [List.mem_singleton.mp z]
        exact on rfl
  case skip =>
    refine ⟨fun _ z => ?_, hc⟩
    have e : (doK .skip bx nm m).place = p + sz + sgn (nm.getD 0 0) := by
      show m.place + (if nm.getD 0 0 < 128 then nm.getD 0 0 else nm.getD 0 0 - 256) = _
      rw [hpl]
      rfl
    dsimp only at z ⊢
    rw [e] at z ⊢
    exact led _ (List.mem_append_left _ (List.mem_singleton.mpr rfl)) z
  case zero =>
    by_cases h : m.boxes.getD (bx.getD 0 0).toNat 0 = 0
    · have e : doK .zero bx nm m = { m with place := nm.getD 0 0 } := if_pos h
      dsimp only
      rw [e]
      exact ⟨fun _ => go rfl, hc⟩
    · have e : doK .zero bx nm m = m := if_neg h
      dsimp only
      rw [e]
      exact ⟨fun _ => on rfl, hc⟩
  case same =>
    by_cases h : m.boxes.getD (bx.getD 0 0).toNat 0 = m.boxes.getD (bx.getD 1 0).toNat 0
    · have e : doK .same bx nm m = { m with place := nm.getD 0 0 } := if_pos h
      dsimp only
      rw [e]
      exact ⟨fun _ => go rfl, hc⟩
    · have e : doK .same bx nm m = m := if_neg h
      dsimp only
      rw [e]
      exact ⟨fun _ => on rfl, hc⟩
  all_goals exact ⟨fun _ => on rfl, hc⟩
theorem step_jr {ws : List Int} {R A : Int → Prop} {m : M} (cl : Cl ws R A) (h : Jr ws R A m) (hw : m.why = "") : Jr ws R A (step ws m) := by
  cases er : rowAt ws m.place with
  | none =>
    rw [step_none er]
    refine ⟨h.lost, fun _ q => ?_, h.calls⟩
    dsimp only at q
    exfalso
    revert q
    split
    · exact ne_none
    · exact ne_end
  | some r =>
    rw [step_some er]
    have np : rowAt ws m.place ≠ none := by
      rw [er]
      exact fun z => by cases z
    have pe := doK_past r.k r.bx r.nm { m with past := m.past ++ [m.place], place := m.place + r.size }
    refine ⟨?_, fun hall => ?_, fun hall => ?_⟩
    · rw [pe]
      exact h.lost.snoc fun z => h.next z hw np
    · rw [pe] at hall
      have h1 : ∀ p ∈ m.past, R p := fun p z => hall p (List.mem_append_left _ z)
      exact (doK_next (m := { m with past := m.past ++ [m.place], place := m.place + r.size }) cl (hall m.place (List.mem_append_right _ (List.mem_singleton.mpr rfl))) er hw rfl (h.calls h1)).1
    · rw [pe] at hall
      have h1 : ∀ p ∈ m.past, R p := fun p z => hall p (List.mem_append_left _ z)
      exact (doK_next (m := { m with past := m.past ++ [m.place], place := m.place + r.size }) cl (hall m.place (List.mem_append_right _ (List.mem_singleton.mpr rfl))) er hw rfl (h.calls h1)).2
theorem run_lost {ws : List Int} {R A : Int → Prop} {most : Nat} {be : Int} (cl : Cl ws R A) (hb : rowAt ws be ≠ none → R be ∨ A be) : Lost R A (runW ws most (init ws be)).past := by
  have key : ∀ (n : Nat) (m : M), mu most m ≤ n → Jr ws R A m → Jr ws R A (runW ws most m) := by
    intro n
    induction n with
    | zero =>
      intro m hn h
      by_cases hc : m.why = "" ∧ m.past.length < most
      · exfalso
        unfold mu at hn
        rw [if_pos hc.1] at hn
        omega
      · rw [runW_end hc]
        exact h
    | succ n ih =>
      intro m hn h
      by_cases hc : m.why = "" ∧ m.past.length < most
      · rw [runW_go hc.1 hc.2]
        have := mu_step (ws := ws) hc.1 hc.2
        exact ih _ (by omega) (step_jr cl h hc.1)
      · rw [runW_end hc]
        exact h
  exact (key _ (init ws be) (Nat.le_refl _) ⟨fun i p hi => (by cases hi), fun _ _ => hb, fun _ c hc => (by cases hc)⟩).lost
/-! ### the whole following -/
def traceN (ws : List Int) : Nat → TS → TS
  | 0, s => s
  | n + 1, s => traceN ws n (tstep ws s)
def begin0 (bs : List Int) : TS := ⟨[], bs.foldl (fun w b => insP w (b, -1)) [], []⟩
theorem begin0_mem {bs : List Int} {y : Pt} : y ∈ (begin0 bs).wait ↔ ∃ b ∈ bs, y = (b, -1) := by
  have h : ∀ (l : List Int) (w : List Pt), y ∈ l.foldl (fun w b => insP w (b, -1)) w ↔ y ∈ w ∨ ∃ b ∈ l, y = (b, -1) := by
    intro l
    induction l with
    | nil => simp
    | cons a r ih =>
      intro w
      rw [List.foldl_cons, ih, mem_insP]
      constructor
      · rintro ((h | h) | ⟨q, h1, h2⟩)
        · exact .inl h
        · exact .inr ⟨a, List.mem_cons_self, h⟩
        · exact .inr ⟨q, List.mem_cons_of_mem _ h1, h2⟩
      · rintro (h | ⟨q, h1, h2⟩)
        · exact .inl (.inl h)
        · rcases List.mem_cons.mp h1 with rfl | h1
          · exact .inl (.inr h2)
          · exact .inr ⟨q, h1, h2⟩
  have := h bs []
  simpa [begin0] using this
theorem begin0_tr (ws bs : List Int) : Tr ws bs (begin0 bs) := by
  refine ⟨fun p r h => (by cases h), fun p r h => (by cases h), fun b hb => .inl (begin0_mem.mpr ⟨b, hb, rfl⟩), fun q f h => ?_, fun i p r h => (by cases h)⟩
  obtain ⟨b, hb, e⟩ := begin0_mem.mp h
  obtain ⟨e1, e2⟩ := Prod.mk.inj e
  subst e1 e2
  exact .inl ⟨rfl, hb⟩
theorem traceN_tr {ws bs : List Int} : ∀ {n : Nat} {s : TS}, Tr ws bs s → Tr ws bs (traceN ws n s)
  | 0, _, h => h
  | n + 1, s, h => traceN_tr (n := n) (s := tstep ws s) (tstep_tr h)
theorem leads_len (r : Row) (p : Int) : (leads r p).length ≤ 2 := by
  unfold leads goals onward
  cases r.k <;> simp
theorem insP_len (w : List Pt) (x : Pt) : (insP w x).length ≤ w.length + 1 := by
  unfold insP
  split <;> simp
theorem foldl_len {p : Int} : ∀ (l : List Int) (w : List Pt), (l.foldl (fun w q => insP w (q, p)) w).length ≤ w.length + l.length
  | [], w => by simp
  | a :: r, w => by
    rw [List.foldl_cons]
    have h1 := foldl_len (p := p) r (insP w (a, p))
    have h2 := insP_len w (a, p)
    simp only [List.length_cons]
    omega
/-- rows lie apart within the words -/
structure Fit (ws : List Int) (s : TS) : Prop where
  nd : (s.rows.map (·.1)).Nodup
  lo : ∀ e ∈ s.rows, 0 ≤ e.1 ∧ e.1 < (ws.length : Int)
theorem nodup_le : ∀ {n : Nat} {l : List Int}, l.Nodup → (∀ x ∈ l, 0 ≤ x ∧ x < (n : Int)) → l.length ≤ n
  | 0, [], _, _ => Nat.le_refl _
  | 0, a :: r, _, h => by
    have := h a List.mem_cons_self
    omega
  | n + 1, l, hn, h => by
    have h1 : ((l.filter fun x => decide (x ≠ (n : Int)))).length ≤ n := by
      refine nodup_le (hn.filter _) fun x hx => ?_
      obtain ⟨h2, h3⟩ := List.mem_filter.mp hx
      have h4 := h x h2
      have h5 : x ≠ (n : Int) := of_decide_eq_true h3
      omega
    have h2 : l.length ≤ (l.filter fun x => decide (x ≠ (n : Int))).length + 1 := by
      clear h h1
      induction l with
      | nil => simp
      | cons a r ih =>
        obtain ⟨ha, hr⟩ := List.nodup_cons.mp hn
        by_cases e : a = (n : Int)
        · have e2 : r.filter (fun x => decide (x ≠ (n : Int))) = r := List.filter_eq_self.mpr fun x hx => decide_eq_true fun z => ha (by rw [e, ← z]; exact hx)
          rw [List.filter_cons_of_neg (by simp [e]), e2]
          simp
        · rw [List.filter_cons_of_pos (by simp [e])]
          have := ih hr
          simp only [List.length_cons]
          omega
    omega
def tmu (ws : List Int) (s : TS) : Nat := 2 * (ws.length - s.rows.length) + s.wait.length
theorem look_fit {ws : List Int} {s : TS} {m : Pt} (h : Fit ws s) : Fit ws (look ws s m) ∧ tmu ws (look ws s m) ≤ tmu ws s := by
  unfold look
  by_cases c1 : ¬ (0 ≤ m.1 ∧ m.1 < (ws.length : Int)) ∨ isRow s.rows m.1 = true
  · rw [if_pos c1]
    exact ⟨h, Nat.le_refl _⟩
  · rw [if_neg c1]
    cases er : rowAt ws m.1 with
    | none =>
      dsimp only
      split
      · exact ⟨⟨h.nd, h.lo⟩, Nat.le_refl _⟩
      · exact ⟨h, Nat.le_refl _⟩
    | some r =>
      dsimp only
      split
      · exact ⟨⟨h.nd, h.lo⟩, Nat.le_refl _⟩
      · have c2 : (0 ≤ m.1 ∧ m.1 < (ws.length : Int)) ∧ ¬ isRow s.rows m.1 = true := by
          constructor
          · exact Classical.byContradiction fun z => c1 (.inl z)
          · exact fun z => c1 (.inr z)
        have f2 : Fit ws { s with rows := s.rows ++ [(m.1, r)], wait := (leads r m.1).foldl (fun w q => insP w (q, m.1)) s.wait } := by
          refine ⟨?_, fun e he => ?_⟩
          · dsimp only
            rw [List.map_append, List.nodup_append]
            refine ⟨h.nd, by simp, fun a ha b hb z => ?_⟩
            have hb' : b = m.1 := by simpa using hb
            rw [z, hb'] at ha
            obtain ⟨⟨p, r'⟩, h1, h2⟩ := List.mem_map.mp ha
            have h3 : p = m.1 := h2
            rw [h3] at h1
            exact c2.2 (isRow_iff.mpr ⟨r', h1⟩)
          · rcases List.mem_append.mp he with z | z
            · exact h.lo e z
            · rw [List.mem_singleton.mp z]
              exact c2.1
        refine ⟨f2, ?_⟩
        have l1 := nodup_le f2.nd (n := ws.length) (fun x hx => by
          obtain ⟨e, h1, h2⟩ := List.mem_map.mp hx
          rw [← h2]
          exact f2.lo e h1)
        rw [List.length_map] at l1
        unfold tmu
        dsimp only at l1 ⊢
        rw [List.length_append, List.length_singleton] at l1 ⊢
        have h1 := foldl_len (p := m.1) (leads r m.1) s.wait
        have h2 := leads_len r m.1
        omega
theorem tstep_fit {ws : List Int} {s : TS} (h : Fit ws s) : Fit ws (tstep ws s) ∧ (s.wait ≠ [] → tmu ws (tstep ws s) < tmu ws s) := by
  unfold tstep
  cases hw : s.wait with
  | nil => exact ⟨h, fun z => absurd rfl z⟩
  | cons x r =>
    dsimp only
    have hm : minP x r ∈ x :: r := by
      rcases minP_mem r x with q | q
      · rw [q]
        exact List.mem_cons_self
      · exact List.mem_cons_of_mem _ q
    generalize minP x r = m at hm
    obtain ⟨h1, h2⟩ := look_fit (ws := ws) (s := { s with wait := (x :: r).filter fun y => decide (y ≠ m) }) (m := m) ⟨h.nd, h.lo⟩
    refine ⟨h1, fun _ => ?_⟩
    have h3 : ((x :: r).filter fun y => decide (y ≠ m)).length < (x :: r).length := by
      refine Nat.lt_of_le_of_ne (List.length_filter_le _ _) fun z => ?_
      have := List.length_filter_eq_length_iff.mp z m hm
      exact absurd rfl (of_decide_eq_true this)
    unfold tmu at h2 ⊢
    dsimp only at h2
    rw [hw]
    omega
theorem traceN_done {ws : List Int} : ∀ {n : Nat} {s : TS}, Fit ws s → tmu ws s ≤ n → (traceN ws n s).wait = []
  | 0, s, h, hn => by
    show s.wait = []
    unfold tmu at hn
    exact List.eq_nil_of_length_eq_zero (by omega)
  | n + 1, s, h, hn => by
    show (traceN ws n (tstep ws s)).wait = []
    obtain ⟨h1, h2⟩ := tstep_fit h
    by_cases e : s.wait = []
    · have e2 : tstep ws s = s := by
        unfold tstep
        rw [e]
      have e3 : ∀ k, (traceN ws k s).wait = [] := fun k => by
        induction k with
        | zero => exact e
        | succ k ih =>
          show (traceN ws k (tstep ws s)).wait = []
          rw [e2]
          exact ih
      rw [e2]
      exact e3 n
    · exact traceN_done h1 (by have := h2 e; omega)
/-- all that is come to, and apart -/
def trace (ws bs : List Int) : TS := traceN ws (2 * ws.length + bs.length) (begin0 bs)
theorem trace_tr (ws bs : List Int) : Tr ws bs (trace ws bs) := traceN_tr (begin0_tr ws bs)
theorem begin0_len (bs : List Int) : (begin0 bs).wait.length ≤ bs.length := by
  have h : ∀ (l : List Int) (w : List Pt), (l.foldl (fun w b => insP w (b, -1)) w).length ≤ w.length + l.length := by
    intro l
    induction l with
    | nil => simp
    | cons a r ih =>
      intro w
      rw [List.foldl_cons]
      have h1 := ih (insP w (a, -1))
      have h2 := insP_len w (a, -1)
      simp only [List.length_cons]
      omega
  have := h bs []
  simpa [begin0] using this
theorem trace_done (ws bs : List Int) : (trace ws bs).wait = [] := by
  refine traceN_done ⟨by simp [begin0], fun e h => (by cases h)⟩ ?_
  have := begin0_len bs
  unfold tmu
  have e : (begin0 bs).rows = [] := rfl
  rw [e]
  simp
  omega
def ApartP (s : TS) (q : Int) : Prop := ∃ f, (f, q) ∈ s.apart
theorem trace_cl (ws bs : List Int) : Cl ws (RowsP (trace ws bs)) (ApartP (trace ws bs)) := by
  refine ⟨fun p r ⟨r', hp⟩ er q hq hn => ?_⟩
  have h := trace_tr ws bs
  have e : r' = r := by
    have := h.is p r' hp
    rw [er] at this
    exact (Option.some.inj this).symm
  subst e
  rcases h.led p r' hp q hq with z | z | z | z
  · rw [trace_done] at z
    cases z
  · exact absurd z hn
  · exact .inl z
  · exact .inr ⟨p, z⟩
theorem trace_beg {ws bs : List Int} {b : Int} (hb : b ∈ bs) (hn : rowAt ws b ≠ none) : RowsP (trace ws bs) b ∨ ApartP (trace ws bs) b := by
  rcases (trace_tr ws bs).beg b hb with z | z | z | z
  · rw [trace_done] at z
    cases z
  · exact absurd z hn
  · exact .inl z
  · exact .inr ⟨_, z⟩
/-- more places to begin at come to no fewer, where none is apart -/
theorem trace_more {ws bs cs : List Int} (sub : ∀ b ∈ bs, b ∈ cs) (hc : (trace ws cs).apart = []) {p : Int} (hp : RowsP (trace ws bs) p) : RowsP (trace ws cs) p := by
  have h := trace_tr ws bs
  have noA : ∀ q, ¬ ApartP (trace ws cs) q := fun q ⟨f, z⟩ => by
    rw [hc] at z
    cases z
  have key : ∀ (n i : Nat) (p : Int) (r : Row), i ≤ n → (trace ws bs).rows[i]? = some (p, r) → RowsP (trace ws cs) p := by
    intro n
    induction n with
    | zero =>
      intro i p r hi he
      have hr := h.is p r (List.mem_of_getElem? he)
      have hn : rowAt ws p ≠ none := by
        rw [hr]
        exact fun z => by cases z
      rcases h.ord i p r he with z | ⟨j, p', r', z1, z2, z3⟩
      · rcases trace_beg (sub p z) hn with y | y
        · exact y
        · exact absurd y (noA p)
      · omega
    | succ n ih =>
      intro i p r hi he
      have hr := h.is p r (List.mem_of_getElem? he)
      have hn : rowAt ws p ≠ none := by
        rw [hr]
        exact fun z => by cases z
      rcases h.ord i p r he with z | ⟨j, p', r', z1, z2, z3⟩
      · rcases trace_beg (sub p z) hn with y | y
        · exact y
        · exact absurd y (noA p)
      · have h1 := ih j p' r' (by omega) z2
        rcases (trace_cl ws cs).led p' r' h1 (h.is p' r' (List.mem_of_getElem? z2)) p z3 hn with y | y
        · exact y
        · exact absurd y (noA p)
  obtain ⟨r, hp⟩ := hp
  obtain ⟨i, hi, e⟩ := List.mem_iff_getElem.mp hp
  exact key i i p r (Nat.le_refl _) (by rw [List.getElem?_eq_getElem hi, e])
end Rs
/-! The walk with repeats (a list of what waits) comes to the same as the trace. -/
namespace Rs
open PySem
theorem lt2_iff {a b : Pt} : lt2 a b = true ↔ a.1 < b.1 ∨ (a.1 = b.1 ∧ a.2 < b.2) := by
  unfold lt2
  exact decide_eq_true_iff
theorem lt2_no {a b : Pt} : lt2 a b = false ↔ b.1 < a.1 ∨ (a.1 = b.1 ∧ b.2 ≤ a.2) := by
  rw [← Bool.not_eq_true, lt2_iff]
  omega
theorem lt2_tot {a b : Pt} (h1 : lt2 a b = false) (h2 : lt2 b a = false) : a = b := by
  have := lt2_no.mp h1
  have := lt2_no.mp h2
  exact Prod.ext (by omega) (by omega)
theorem minP_le : ∀ (l : List Pt) (m : Pt), lt2 m (minP m l) = false ∧ ∀ y ∈ l, lt2 y (minP m l) = false
  | [], m => ⟨lt2_no.mpr (.inr ⟨rfl, Int.le_refl _⟩), fun y h => by cases h⟩
  | x :: r, m => by
    unfold minP
    by_cases h : lt2 x m = true
    · rw [if_pos h]
      obtain ⟨h1, h2⟩ := minP_le r x
      have a1 := lt2_iff.mp h
      have a2 := lt2_no.mp h1
      refine ⟨lt2_no.mpr (by omega), fun y hy => ?_⟩
      rcases List.mem_cons.mp hy with rfl | hy
      · exact h1
      · exact h2 y hy
    · rw [if_neg h]
      obtain ⟨h1, h2⟩ := minP_le r m
      have a1 := lt2_no.mp (Bool.eq_false_iff.mpr h)
      have a2 := lt2_no.mp h1
      refine ⟨h1, fun y hy => ?_⟩
      rcases List.mem_cons.mp hy with rfl | hy
      · exact lt2_no.mpr (by omega)
      · exact h2 y hy
theorem minP_all {x : Pt} {r : List Pt} : minP x r ∈ x :: r ∧ ∀ y ∈ x :: r, lt2 y (minP x r) = false := by
  refine ⟨?_, fun y hy => ?_⟩
  · rcases minP_mem r x with q | q
    · rw [q]
      exact List.mem_cons_self
    · exact List.mem_cons_of_mem _ q
  · rcases List.mem_cons.mp hy with rfl | hy
    · exact (minP_le r y).1
    · exact (minP_le r x).2 y hy
theorem minP_uniq {x : Pt} {r : List Pt} {m : Pt} (h1 : m ∈ x :: r) (h2 : ∀ y ∈ x :: r, lt2 y m = false) : minP x r = m := by
  obtain ⟨a1, a2⟩ := minP_all (x := x) (r := r)
  exact lt2_tot (h2 _ a1) (a2 _ h1)
/-- one that waits no more: the program's look, with repeats -/
def lookP (ws : List Int) (s : TS) (m : Pt) : TS :=
  if ¬ (0 ≤ m.1 ∧ m.1 < (ws.length : Int)) ∨ isRow s.rows m.1 = true then s
  else match rowAt ws m.1 with
    | none => if covers s.rows m.1 = true then { s with apart := s.apart ++ [(m.2, m.1)] } else s
    | some r => if hits s.rows m.1 r.size = true then { s with apart := s.apart ++ [(m.2, m.1)] }
      else { s with rows := s.rows ++ [(m.1, r)], wait := s.wait ++ (leads r m.1).map fun q => (q, m.1) }
def pstep (ws : List Int) (s : TS) : TS := match s.wait with
  | [] => s
  | x :: r => lookP ws { s with wait := (x :: r).erase (minP x r) } (minP x r)
theorem covers_mono {rows : List (Int × Row)} {e : Int × Row} {q : Int} (h : covers rows q = true) : covers (rows ++ [e]) q = true := by
  unfold covers at h ⊢
  rw [List.any_append, h]
  rfl
theorem hits_mono {rows : List (Int × Row)} {e : Int × Row} {p : Int} {n : Nat} (h : hits rows p n = true) : hits (rows ++ [e]) p n = true := by
  unfold hits at h ⊢
  obtain ⟨k, h1, h2⟩ := List.any_eq_true.mp h
  exact List.any_eq_true.mpr ⟨k, h1, covers_mono h2⟩
theorem isRow_mono {rows : List (Int × Row)} {e : Int × Row} {p : Int} (h : isRow rows p = true) : isRow (rows ++ [e]) p = true := by
  unfold isRow at h ⊢
  rw [List.any_append, h]
  rfl
/-- looked at again it changes nothing, now and later -/
def Stale (ws : List Int) (t : TS) (y : Pt) : Prop := ¬ (0 ≤ y.1 ∧ y.1 < (ws.length : Int)) ∨ isRow t.rows y.1 = true ∨
  ((y.2, y.1) ∈ t.apart ∧ (match rowAt ws y.1 with | none => covers t.rows y.1 = true | some r => hits t.rows y.1 r.size = true))
/-- the same rows; what waits in t waits in s; what waits in s alone is stale, or is next and nothing -/
structure Sim (ws : List Int) (s t : TS) : Prop where
  rows : s.rows = t.rows
  apart : ∀ e, e ∈ s.apart ↔ e ∈ t.apart
  to : ∀ y ∈ t.wait, y ∈ s.wait
  of : ∀ y ∈ s.wait, y ∈ t.wait ∨ Stale ws t y ∨ (rowAt ws y.1 = none ∧ covers t.rows y.1 = false ∧ ∀ z ∈ s.wait, lt2 z y = false)
theorem mem_erase_of {l : List Pt} {m y : Pt} (h : y ∈ l.erase m) : y ∈ l := List.mem_of_mem_erase h
/-- the program looks at what the trace doesn't wait for -/
theorem sim_idle {ws : List Int} {s t : TS} {x : Pt} {r : List Pt} (S : Sim ws s t) (hw : s.wait = x :: r) (hn : minP x r ∉ t.wait) : Sim ws (pstep ws s) t := by
  have e : pstep ws s = lookP ws { s with wait := (x :: r).erase (minP x r) } (minP x r) := by
    unfold pstep
    rw [hw]
  obtain ⟨m1, m2⟩ := minP_all (x := x) (r := r)
  rw [e]
  generalize minP x r = m at hn m1 m2
  have base : ∀ u : TS, u.rows = s.rows → (∀ z, z ∈ u.apart ↔ z ∈ s.apart) → u.wait = (x :: r).erase m → Sim ws u t := fun u u1 u2 u3 => by
    refine ⟨u1.trans S.rows, fun z => (u2 z).trans (S.apart z), fun y hy => ?_, fun y hy => ?_⟩
    · have h1 := S.to y hy
      rw [hw] at h1
      have h2 : y ≠ m := fun z => hn (by rw [← z]; exact hy)
      rw [u3]
      exact (List.mem_erase_of_ne h2).mpr h1
    · rw [u3] at hy
      have h1 : y ∈ s.wait := by
        rw [hw]
        exact mem_erase_of hy
      rcases S.of y h1 with q | q | ⟨q1, q2, q3⟩
      · exact .inl q
      · exact .inr (.inl q)
      · refine .inr (.inr ⟨q1, q2, fun z hz => q3 z ?_⟩)
        rw [hw]
        rw [u3] at hz
        exact mem_erase_of hz
  have hm : m ∈ s.wait := by
    rw [hw]
    exact m1
  unfold lookP
  by_cases c : ¬ (0 ≤ m.1 ∧ m.1 < (ws.length : Int)) ∨ isRow s.rows m.1 = true
  · rw [if_pos c]
    exact base _ rfl (fun _ => Iff.rfl) rfl
  · rw [if_neg c]
    have dup : (m.2, m.1) ∈ t.apart → ∀ u : TS, u = { s with wait := (x :: r).erase m, apart := s.apart ++ [(m.2, m.1)] } → Sim ws u t := fun h u eu => by
      subst eu
      refine base _ rfl (fun z => ?_) rfl
      show z ∈ s.apart ++ [(m.2, m.1)] ↔ z ∈ s.apart
      rw [List.mem_append, List.mem_singleton]
      constructor
      · rintro (q | q)
        · exact q
        · rw [q]
          exact (S.apart _).mpr h
      · exact .inl
    rcases S.of m hm with q | q | ⟨q1, q2, _⟩
    · exact absurd q hn
    · rcases q with q | q | ⟨q1, q2⟩
      · exact absurd (.inl q) c
      · rw [← S.rows] at q
        exact absurd (.inr q) c
      · rw [← S.rows] at q2
        cases er : rowAt ws m.1 with
        | none =>
          rw [er] at q2
          dsimp only at q2 ⊢
          rw [if_pos q2]
          exact dup q1 _ rfl
        | some r' =>
          rw [er] at q2
          dsimp only at q2 ⊢
          rw [if_pos q2]
          exact dup q1 _ rfl
    · rw [q1]
      dsimp only
      rw [S.rows, q2, if_neg (by decide)]
      exact base _ S.rows.symm (fun _ => Iff.rfl) rfl
/-- both look at the same -/
theorem sim_both {ws : List Int} {s t : TS} {x : Pt} {r : List Pt} (S : Sim ws s t) (hw : s.wait = x :: r) (hn : minP x r ∈ t.wait) : Sim ws (pstep ws s) (tstep ws t) := by
  have e : pstep ws s = lookP ws { s with wait := (x :: r).erase (minP x r) } (minP x r) := by
    unfold pstep
    rw [hw]
  obtain ⟨m1, m2⟩ := minP_all (x := x) (r := r)
  have e2 : tstep ws t = look ws { t with wait := t.wait.filter fun y => decide (y ≠ minP x r) } (minP x r) := by
    cases hw2 : t.wait with
    | nil =>
      rw [hw2] at hn
      cases hn
    | cons x2 r2 =>
      have : minP x2 r2 = minP x r := by
        refine minP_uniq (by rw [← hw2]; exact hn) fun y hy => m2 y ?_
        rw [← hw]
        exact S.to y (by rw [hw2]; exact hy)
      unfold tstep
      rw [hw2]
      dsimp only
      rw [this]
  rw [e, e2]
  generalize minP x r = m at hn m1 m2
  -- what waits still, behind the look
  have keep : ∀ t' : TS, (∀ y, Stale ws t y → Stale ws t' y) → t'.rows = t.rows → (∀ y ∈ t.wait, y ≠ m → y ∈ t'.wait) → (Stale ws t' m ∨ (rowAt ws m.1 = none ∧ covers t.rows m.1 = false)) →
      ∀ y ∈ (x :: r).erase m, y ∈ t'.wait ∨ Stale ws t' y ∨ (rowAt ws y.1 = none ∧ covers t'.rows y.1 = false ∧ ∀ z ∈ (x :: r).erase m, lt2 z y = false) := fun t' st er tw hm y hy => by
    have hy1 : y ∈ x :: r := mem_erase_of hy
    by_cases ym : y = m
    · subst ym
      rcases hm with q | ⟨q1, q2⟩
      · exact .inr (.inl q)
      · exact .inr (.inr ⟨q1, by rw [er]; exact q2, fun z hz => m2 z (mem_erase_of hz)⟩)
    · rcases S.of y (by rw [hw]; exact hy1) with q | q | ⟨q1, q2, q3⟩
      · exact .inl (tw y q ym)
      · exact .inr (.inl (st y q))
      · refine .inr (.inr ⟨q1, by rw [er]; exact q2, fun z hz => q3 z ?_⟩)
        rw [hw]
        exact mem_erase_of hz
  have wto : ∀ y ∈ t.wait.filter (fun y => decide (y ≠ m)), y ∈ (x :: r).erase m := fun y hy => by
    obtain ⟨h1, h2⟩ := List.mem_filter.mp hy
    have h3 := S.to y h1
    rw [hw] at h3
    exact (List.mem_erase_of_ne (of_decide_eq_true h2)).mpr h3
  have wof : ∀ y ∈ t.wait, y ≠ m → y ∈ t.wait.filter fun y => decide (y ≠ m) := fun y h1 h2 => List.mem_filter.mpr ⟨h1, decide_eq_true h2⟩
  unfold lookP look
  dsimp only
  rw [S.rows]
  by_cases c : ¬ (0 ≤ m.1 ∧ m.1 < (ws.length : Int)) ∨ isRow t.rows m.1 = true
  · rw [if_pos c, if_pos c]
    refine ⟨rfl, S.apart, wto, keep _ (fun _ z => z) rfl wof (.inl ?_)⟩
    rcases c with c | c
    · exact .inl c
    · exact .inr (.inl c)
  · rw [if_neg c, if_neg c]
    -- it is apart
    have ap : (match rowAt ws m.1 with | none => covers t.rows m.1 = true | some r => hits t.rows m.1 r.size = true) →
        Sim ws { s with rows := t.rows, wait := (x :: r).erase m, apart := s.apart ++ [(m.2, m.1)] } { t with wait := t.wait.filter fun y => decide (y ≠ m), apart := insP t.apart (m.2, m.1) } := fun h => by
      have mono : ∀ y, Stale ws t y → Stale ws { t with wait := t.wait.filter fun y => decide (y ≠ m), apart := insP t.apart (m.2, m.1) } y := fun y z => by
        rcases z with z | z | ⟨z1, z2⟩
        · exact .inl z
        · exact .inr (.inl z)
        · exact .inr (.inr ⟨mem_insP.mpr (.inl z1), z2⟩)
      refine ⟨rfl, fun z => ?_, wto, keep _ mono rfl wof (.inl (.inr (.inr ⟨mem_insP.mpr (.inr rfl), h⟩)))⟩
      show z ∈ s.apart ++ [(m.2, m.1)] ↔ z ∈ insP t.apart (m.2, m.1)
      rw [List.mem_append, List.mem_singleton, mem_insP, S.apart]
    cases er : rowAt ws m.1 with
    | none =>
      rw [er] at ap
      dsimp only at ap ⊢
      by_cases c2 : covers t.rows m.1 = true
      · rw [if_pos c2, if_pos c2]
        exact ap c2
      · rw [if_neg c2, if_neg c2]
        exact ⟨rfl, S.apart, wto, keep _ (fun _ z => z) rfl wof (.inr ⟨er, Bool.eq_false_iff.mpr c2⟩)⟩
    | some r' =>
      rw [er] at ap
      dsimp only at ap ⊢
      by_cases c2 : hits t.rows m.1 r'.size = true
      · rw [if_pos c2, if_pos c2]
        exact ap c2
      · rw [if_neg c2, if_neg c2]
        refine ⟨rfl, S.apart, fun y hy => ?_, fun y hy => ?_⟩
        · rcases foldl_ins.mp hy with z | ⟨q, z1, z2⟩
          · exact List.mem_append_left _ (wto y z)
          · exact List.mem_append_right _ (List.mem_map.mpr ⟨q, z1, z2.symm⟩)
        · have up : ∀ y, Stale ws t y → Stale ws { t with rows := t.rows ++ [(m.1, r')], wait := (leads r' m.1).foldl (fun w q => insP w (q, m.1)) (t.wait.filter fun y => decide (y ≠ m)) } y := fun y z => by
            rcases z with z | z | ⟨z1, z2⟩
            · exact .inl z
            · exact .inr (.inl (isRow_mono z))
            · refine .inr (.inr ⟨z1, ?_⟩)
              cases er2 : rowAt ws y.1 with
              | none =>
                rw [er2] at z2
                exact covers_mono z2
              | some r2 =>
                rw [er2] at z2
                exact hits_mono z2
          rcases List.mem_append.mp hy with hy | hy
          · have hy1 : y ∈ x :: r := mem_erase_of hy
            by_cases ym : y = m
            · subst ym
              refine .inr (.inl (.inr (.inl ?_)))
              exact isRow_iff.mpr ⟨r', List.mem_append_right _ (List.mem_singleton.mpr rfl)⟩
            · rcases S.of y (by rw [hw]; exact hy1) with q | q | ⟨q1, q2, q3⟩
              · exact .inl (foldl_ins.mpr (.inl (wof y q ym)))
              · exact .inr (.inl (up y q))
              · exact absurd (lt2_tot (m2 y hy1) (q3 m (by rw [hw]; exact m1))) ym
          · obtain ⟨q, z1, z2⟩ := List.mem_map.mp hy
            exact .inl (foldl_ins.mpr (.inr ⟨q, z1, z2.symm⟩))
theorem traceN_add {ws : List Int} : ∀ (a b : Nat) (s : TS), traceN ws (a + b) s = traceN ws b (traceN ws a s)
  | 0, b, s => by rw [Nat.zero_add]; rfl
  | a + 1, b, s => by
    rw [Nat.add_right_comm]
    exact traceN_add a b (tstep ws s)
theorem traceN_still {ws : List Int} {s : TS} (h : s.wait = []) : ∀ n, traceN ws n s = s
  | 0 => rfl
  | n + 1 => by
    show traceN ws n (tstep ws s) = s
    have e : tstep ws s = s := by
      unfold tstep
      rw [h]
    rw [e]
    exact traceN_still h n
theorem trace_eq {ws bs : List Int} {n : Nat} (h : (traceN ws n (begin0 bs)).wait = []) : traceN ws n (begin0 bs) = trace ws bs := by
  unfold trace
  rcases Nat.le_total n (2 * ws.length + bs.length) with q | q
  · obtain ⟨k, e⟩ := Nat.exists_eq_add_of_le q
    rw [e, traceN_add, traceN_still h]
  · obtain ⟨k, e⟩ := Nat.exists_eq_add_of_le q
    rw [e, traceN_add]
    exact traceN_still (trace_done ws bs) k
/-- where the program's walk stands: beside some step of the trace -/
def Beside (ws bs : List Int) (s : TS) : Prop := ∃ n, Sim ws s (traceN ws n (begin0 bs))
def start0 (bs : List Int) : TS := ⟨[], bs.map fun b => (b, -1), []⟩
theorem beside0 (ws bs : List Int) : Beside ws bs (start0 bs) := by
  refine ⟨0, rfl, fun e => Iff.rfl, fun y hy => ?_, fun y hy => .inl ?_⟩
  · obtain ⟨b, h1, h2⟩ := begin0_mem.mp hy
    exact List.mem_map.mpr ⟨b, h1, h2.symm⟩
  · obtain ⟨b, h1, h2⟩ := List.mem_map.mp hy
    exact begin0_mem.mpr ⟨b, h1, h2.symm⟩
theorem beside_step {ws bs : List Int} {s : TS} (h : Beside ws bs s) : Beside ws bs (pstep ws s) := by
  obtain ⟨n, S⟩ := h
  cases hw : s.wait with
  | nil =>
    have e : pstep ws s = s := by
      unfold pstep
      rw [hw]
    rw [e]
    exact ⟨n, S⟩
  | cons x r =>
    by_cases hn : minP x r ∈ (traceN ws n (begin0 bs)).wait
    · refine ⟨n + 1, ?_⟩
      rw [traceN_add]
      exact sim_both S hw hn
    · exact ⟨n, sim_idle S hw hn⟩
theorem beside_end {ws bs : List Int} {s : TS} (h : Beside ws bs s) (hw : s.wait = []) : s.rows = (trace ws bs).rows ∧ ∀ e, e ∈ s.apart ↔ e ∈ (trace ws bs).apart := by
  obtain ⟨n, S⟩ := h
  have e : (traceN ws n (begin0 bs)).wait = [] := by
    cases q : (traceN ws n (begin0 bs)).wait with
    | nil => rfl
    | cons y l =>
      have := S.to y (by rw [q]; exact List.mem_cons_self)
      rw [hw] at this
      cases this
  rw [← trace_eq e]
  exact ⟨S.rows, S.apart⟩
theorem lookP_split (ws : List Int) (rows : List (Int × Row)) (wt ap : List Pt) (m : Pt) : lookP ws ⟨rows, wt, ap⟩ m = ⟨(lookP ws ⟨rows, [], ap⟩ m).rows, wt ++ (lookP ws ⟨rows, [], ap⟩ m).wait, (lookP ws ⟨rows, [], ap⟩ m).apart⟩ := by
  unfold lookP
  by_cases c : ¬ (0 ≤ m.1 ∧ m.1 < (ws.length : Int)) ∨ isRow rows m.1 = true
  · rw [if_pos c, if_pos c, List.append_nil]
  · rw [if_neg c, if_neg c]
    cases rowAt ws m.1 with
    | none =>
      dsimp only
      by_cases c2 : covers rows m.1 = true
      · rw [if_pos c2, if_pos c2, List.append_nil]
      · rw [if_neg c2, if_neg c2, List.append_nil]
    | some r =>
      dsimp only
      by_cases c2 : hits rows m.1 r.size = true
      · rw [if_pos c2, if_pos c2, List.append_nil]
      · rw [if_neg c2, if_neg c2, List.nil_append]
/-- of a look: what it leads to comes from the place; at most two; one more apart, or one row more -/
theorem lookP_new (ws : List Int) (rows : List (Int × Row)) (ap : List Pt) (m : Pt) : (lookP ws ⟨rows, [], ap⟩ m).wait = ((lookP ws ⟨rows, [], ap⟩ m).wait.map (·.1)).map (fun q => (q, m.1)) ∧
    (((lookP ws ⟨rows, [], ap⟩ m).rows = rows ∧ (lookP ws ⟨rows, [], ap⟩ m).wait = [] ∧ (lookP ws ⟨rows, [], ap⟩ m).apart.length ≤ ap.length + 1) ∨ (∃ r, (lookP ws ⟨rows, [], ap⟩ m).rows = rows ++ [(m.1, r)] ∧ (lookP ws ⟨rows, [], ap⟩ m).wait.length ≤ 2 ∧ (lookP ws ⟨rows, [], ap⟩ m).apart = ap)) := by
  unfold lookP
  by_cases c : ¬ (0 ≤ m.1 ∧ m.1 < (ws.length : Int)) ∨ isRow rows m.1 = true
  · rw [if_pos c]
    exact ⟨rfl, .inl ⟨rfl, rfl, Nat.le_succ _⟩⟩
  · rw [if_neg c]
    cases rowAt ws m.1 with
    | none =>
      dsimp only
      by_cases c2 : covers rows m.1 = true
      · rw [if_pos c2]
        exact ⟨rfl, .inl ⟨rfl, rfl, by simp⟩⟩
      · rw [if_neg c2]
        exact ⟨rfl, .inl ⟨rfl, rfl, Nat.le_succ _⟩⟩
    | some r =>
      dsimp only
      by_cases c2 : hits rows m.1 r.size = true
      · rw [if_pos c2]
        exact ⟨rfl, .inl ⟨rfl, rfl, by simp⟩⟩
      · rw [if_neg c2]
        refine ⟨?_, .inr ⟨r, rfl, ?_, rfl⟩⟩
        · simp [List.map_map, Function.comp_def]
        · dsimp only
          rw [List.nil_append, List.length_map]
          exact leads_len r m.1
theorem traceN_fit {ws : List Int} : ∀ {n : Nat} {s : TS}, Fit ws s → Fit ws (traceN ws n s)
  | 0, s, h => h
  | n + 1, s, h => by
    show Fit ws (traceN ws n (tstep ws s))
    exact traceN_fit (tstep_fit h).1
theorem beside_len {ws bs : List Int} {s : TS} (h : Beside ws bs s) : s.rows.length ≤ ws.length := by
  obtain ⟨n, S⟩ := h
  have f : Fit ws (traceN ws n (begin0 bs)) := traceN_fit ⟨by simp [begin0], fun e h => (by cases h)⟩
  rw [S.rows]
  have := nodup_le (n := ws.length) f.nd fun x hx => by
    obtain ⟨e, h1, h2⟩ := List.mem_map.mp hx
    rw [← h2]
    exact f.lo e h1
  rwa [List.length_map] at this
theorem pstep_eq {ws : List Int} {s : TS} {x : Pt} {r : List Pt} (hw : s.wait = x :: r) : pstep ws s = ⟨(lookP ws ⟨s.rows, [], s.apart⟩ (minP x r)).rows, s.wait.erase (minP x r) ++ (lookP ws ⟨s.rows, [], s.apart⟩ (minP x r)).wait, (lookP ws ⟨s.rows, [], s.apart⟩ (minP x r)).apart⟩ := by
  unfold pstep
  rw [hw]
  exact lookP_split ws s.rows _ s.apart _
theorem pstep_mu {ws bs : List Int} {s : TS} {x : Pt} {r : List Pt} (hb : Beside ws bs s) (hw : s.wait = x :: r) : tmu ws (pstep ws s) < tmu ws s ∧ (pstep ws s).apart.length + tmu ws (pstep ws s) ≤ s.apart.length + tmu ws s := by
  have h1 := beside_len (beside_step hb)
  have hm := (minP_all (x := x) (r := r)).1
  rw [pstep_eq hw] at h1 ⊢
  obtain ⟨_, h2⟩ := lookP_new ws s.rows s.apart (minP x r)
  have he : (s.wait.erase (minP x r)).length + 1 = s.wait.length := by
    rw [hw, List.length_erase_of_mem hm]
    rfl
  unfold tmu
  dsimp only at h1 ⊢
  rw [List.length_append]
  rcases h2 with ⟨a1, a2, a3⟩ | ⟨r', a1, a2, a3⟩
  · rw [a1, a2]
    simp only [List.length_nil]
    omega
  · rw [a1] at h1 ⊢
    rw [a3]
    rw [List.length_append, List.length_singleton] at h1 ⊢
    omega
theorem insP_nodup {w : List Pt} {x : Pt} (h : w.Nodup) : (insP w x).Nodup := by
  unfold insP
  by_cases q : x ∈ w
  · rw [if_pos q]
    exact h
  · rw [if_neg q]
    refine List.nodup_append.mpr ⟨h, by simp, fun a ha b hb => ?_⟩
    rw [List.mem_singleton.mp hb]
    exact fun z => q (by rw [← z]; exact ha)
theorem look_nodup {ws : List Int} {s : TS} {m : Pt} (h : s.apart.Nodup) : (look ws s m).apart.Nodup := by
  unfold look
  split
  · exact h
  · split
    · split
      · exact insP_nodup h
      · exact h
    · split
      · exact insP_nodup h
      · exact h
theorem traceN_nodup {ws : List Int} : ∀ {n : Nat} {s : TS}, s.apart.Nodup → (traceN ws n s).apart.Nodup
  | 0, s, h => h
  | n + 1, s, h => by
    show (traceN ws n (tstep ws s)).apart.Nodup
    refine traceN_nodup (n := n) ?_
    unfold tstep
    split
    · exact h
    · exact look_nodup h
theorem apart_nodup (ws bs : List Int) : (trace ws bs).apart.Nodup := traceN_nodup (by simp [begin0])
end Rs
/-! any, all of a generator expression over a list; a code object's table told by what is true of it, so that no promise speaks of its growth. -/
namespace Rg
open PySem PySem.Spec PyProof.Rows L2
abbrev TabB := GxR.TabB
/-- a code object's table, whatever it has grown to -/
def TabO (P : Addr) : HO := .ext fun h => ∃ ps : Array Value, h.get? P = some { cls := .none, data := .fields ps } ∧ TriplesOk ps.toList
theorem tabO_ok {Pg : Program} {w : World} {H : Hp} {h : Heap} {P : Addr} {ps : Array Value} (e : h.get? P = some { cls := .none, data := .fields ps }) (t : TriplesOk ps.toList) : ObjOk Pg w H h P (TabO P) :=
  ⟨⟨ps, e, t⟩, ⟨_, e⟩, fun h1 h2 ⟨qs, e1, t1⟩ k => ⟨qs, k _ e1, t1⟩⟩
section
variable {X : Cx} {pins : List (Addr × Obj)} {σ : L2.St} {H : Hp} {s : Shared}
theorem hok_tab {h' : Heap} {P : Addr} {ps : Array Value} (I : HOk X.prog X.w H s.heap) (hP : H P = some (TabO P)) (k : ∀ b o, b ≠ P → s.heap.get? b = some o → h'.get? b = some o)
    (hm : h'.get? P = some { cls := .none, data := .fields ps }) (ht : TriplesOk ps.toList) : HOk X.prog X.w H h' := by
  intro b u e
  by_cases hb : b = P
  · subst hb
    rw [hP] at e
    cases e
    exact tabO_ok hm ht
  · refine (I b u e).stay (fun d v hd q => k d v ?_ q) (fun d q => q) fun d xs q => q
    rcases hd with z | z
    · rw [z]
      exact hb
    · intro z2
      rw [z2, hP] at z
      cases z
theorem inv_tab {P : Addr} {ps : Array Value} {h' : Heap} {g' : Array GenState} {d' : Drawn} {t' : Nat} (I : Inv X pins σ H s) (hP : H P = some (TabO P)) (k : ∀ b o, b ≠ P → s.heap.get? b = some o → h'.get? b = some o)
    (hm : h'.get? P = some { cls := .none, data := .fields ps }) (ht : TriplesOk ps.toList) (hg : AllBare g') :
    Inv X pins σ H { s with heap := h', gens := g', drawn := d', toks := t' } := by
  have nN : ∀ b, H b = none → b ≠ P := fun b e z => by
    rw [z, hP] at e
    cases e
  refine I.step (g' := g') (d' := d') (ch := []) (fun b hb => absurd hb (by simp)) (fun b o _ _ _ e n => k b o (nN b n) e) (fun b o _ _ _ e n => ⟨o.slots, k b o (nN b n) e⟩)
    (fun b o _ e n => n) (fun b o _ e => ?_) (fun b xs e => e) (fun b o u e => e) (fun b qs e => ⟨#[], by simpa using e⟩) (fun m hn => ?_) (hok_tab I.hok hP k hm ht) hg
  · by_cases hb : b = P
    · rw [hb]
      exact ⟨_, hm⟩
    · exact ⟨o, k b o hb e⟩
  · obtain ⟨ob, es, ep, ho, r⟩ := hn
    exact ⟨ob, es, ep, k _ ob (nN _ I.free) ho, r⟩
/-- a generator expression's own scope within the def's: its one name x, captured names are cells of the def -/
structure GenT (sc scope : Scope) (x : Str) : Prop where
  kind : scope.kind = .function
  co : scope.isCoroutine = false
  cell : ∀ y ∈ scope.names, y.2 ≠ .cell
  dot : scope.names.lookup (".0" : Str) = some NameKind.local
  loc : scope.names.lookup x = some .local
  free : ∀ y ∈ scope.names, y.2 = .free → sc.names.lookup y.1 = some .cell
def genTB (sc scope : Scope) (x : Str) : Bool :=
  (scope.kind == .function) && (!scope.isCoroutine && (scope.names.all (fun y => !(y.2 == .cell)) && ((scope.names.lookup (".0" : Str) == some NameKind.local) && ((scope.names.lookup x == some .local) && scope.names.all (fun y => !(y.2 == .free) || (sc.names.lookup y.1 == some .cell))))))
theorem genT_by {sc scope : Scope} {x : Str} (h : genTB sc scope x = true) : GenT sc scope x := by
  unfold genTB at h
  simp only [Bool.and_eq_true, beq_iff_eq, Bool.not_eq_true', List.all_eq_true, Bool.or_eq_true] at h
  obtain ⟨h1, h2, h3, h4, h5, h6⟩ := h
  refine ⟨h1, h2, fun y hy e => ?_, h4, h5, fun y hy e => ?_⟩
  · have := h3 y hy
    rw [e] at this
    exact absurd this (by decide)
  · rcases h6 y hy with q | q
    · rw [e] at q
      exact absurd q (by decide)
    · exact q
theorem GenT.gs {X : Cx} {scope : Scope} {x : Str} (S : GenT X.env.scope scope x) (ok : X.Ok) : GxR.GenS X.env scope x :=
  ⟨S.kind, S.co, S.cell, S.dot, S.loc, fun y hy e => ok.has y.1 (.inl (S.free y hy e))⟩
/-- the element of a generator expression over a list of xs: the test pb of the place -/
def EltL (X : Cx) (σ : L2.St) (H : Hp) (scope : Scope) (x : Str) (elt : Expr) (xs : List V) (pb : Nat → Bool) : Prop :=
  ∀ (cenv : Env) (A' : Around) (E' : Value → Shared → Prop) (i : Nat) (y : V) (v : Value) (s₂ : Shared) (m₂ : Str → Option Value), cenv.scope = scope → HOk X.prog X.w H s₂.heap → X.K.In s₂.heap →
    (∀ (j : Nat) (z : Str) (u : V), X.N[j]? = some z → σ[j]? = some (some u) → X.env.scope.names.lookup z = some .cell → (z, NameKind.free) ∈ scope.names → ∃ (uv : Value) (c : Addr), RelV u uv ∧ cenv.cells.lookup z = some c ∧ s₂.heap.IsCell c (some uv)) →
    xs[i]? = some y → RelV y v → s₂.heap.Ns cenv.locals m₂ → m₂ x = some v → wpAny (model X.prog X.w) A' (eval elt cenv) (fun r s₃ => r = .bool (pb i) ∧ Keeps s₂ s₃) E' s₂
/-- the generator g over a list of n items, ready to be walked -/
def Ready (X : Cx) (pins : List (Addr × Obj)) (σ : L2.St) (H1 : Hp) (n : Nat) (pb : Nat → Bool) (g : Addr) (s5 : Shared) : Prop :=
  ∃ (fp wr : List Addr) (G : Array GenState → Array GenState → Prop) (F : Nat → Value → Prop) (St : Nat → Shared → Prop),
    WalksS X.prog X.w X.A.in1 g fp wr G n F St ∧ St 0 s5 ∧ TruthOf X.prog X.w X.A.in1 F pb ∧ ∀ s', Moved wr G s5 s' → Inv X pins σ H1 s'
theorem lookup_memS {α : Type} {n : Str} {c : α} : ∀ {l : List (Str × α)}, l.lookup n = some c → (n, c) ∈ l
  | [], h => by cases h
  | (k, v) :: r, h => by
    rw [List.lookup_cons] at h
    cases hb : n == k with
    | true =>
      rw [hb] at h
      cases h
      rw [beq_iff_eq.mp hb]
      exact List.mem_cons_self
    | false =>
      rw [hb] at h
      exact List.mem_cons_of_mem _ (lookup_memS h)
theorem lookup_clo {cells : List (Str × Addr)} {names : List (Str × NameKind)} {z : Str} {c : Addr} (hm : (z, NameKind.free) ∈ names) (hc : cells.lookup z = some c) : (cloFrom cells names []).lookup z = some c := by
  obtain ⟨c', hc'⟩ := mem_lookup (cloFrom_has (cells := cells) (acc := []) hm)
  rw [hc']
  rcases cloFrom_mem (lookup_memS hc') with q | ⟨_, q⟩
  · cases q
  · rw [q, hc] <;> rfl
theorem gen_list {c P : Addr} {elt iter : Expr} {x : Str} {px gpos : Pos} {scope : Scope} {te : TE} {k : Nat} {Q' : Value → Shared → Prop} {R : List V → (Nat → Bool) → Hp → Prop}
    (hr : Room k X.A) (TB : TabB X.base X.mg c P) (hcode : X.env.code = .ref c) (S0 : GenT X.env.scope scope x) (hi : PE X iter te)
    (hs : ∀ v, genFold iter X.env v = pure v) (I : Inv X pins σ H s) (h : te σ H fun v H1 => ∃ (a : Addr) (xs : List V) (pb : Nat → Bool), v = .ref a ∧ SqL X.K H1 a xs ∧ H1 P = some (TabO P) ∧ EltL X σ H1 scope x elt xs pb ∧ R xs pb H1)
    (hQ : ∀ xs pb H1 g s5, R xs pb H1 → Ready X pins σ H1 xs.length pb g s5 → Q' (.ref g) s5) :
    wpAny (model X.prog X.w) X.A (eval (.GeneratorExp elt [⟨.Name x px, iter, [], 0⟩] scope gpos) X.env) Q' X.xe s := by
  have S := S0.gs I.ok
  refine wpAny_GeneratorExp_walksQ hr.hd S.co (closure_ok S.free) S.cell S.dot S.loc S.kind (by have := hr.dp; omega) ?_ hs
  refine thn (hi.run pins s σ H _ I h) fun xv s1 ⟨v, H1, I1, r1, q1⟩ => ?_
  obtain ⟨a, xs, pb, rfl, hS, hP, hel, q1⟩ := q1
  obtain rfl : xv = Value.ref a := r1
  obtain ⟨its, rv, pl, hz⟩ := I1.list hS
  have hlen : xs.length = its.length := rv.length
  have hil : s1.heap.IsList a its.toArray := pl.isList
  refine wpAny_pyIter_list hil ?_
  obtain ⟨⟨ps, hPs, ht⟩, _, _⟩ := (show ObjOk X.prog X.w H1 s1.heap P (TabO P) from I1.hok P _ hP)
  have hPlt : P < s1.heap.objs.size := Heap.lt_size hPs
  generalize ho : ({ cls := .type "list_iterator", data := .fields #[.ref a, .int 0 0] } : Obj) = o
  have hP2 : (s1.heap.push o).get? P = some { cls := .none, data := .fields ps } := Heap.get?_push_of_some _ hPs
  have cd : PySem.W.CodeHd (s1.heap.push o) c P := TB.code.keeps fun b u e => Heap.get?_push_of_some _ (I1.bk b u e)
  have lim2 : (s1.heap.push o).NoLimit := I1.nolimit.push o
  have hlt : a < s1.heap.objs.size := by
    obtain ⟨ob, e, _⟩ := hil
    exact Heap.lt_size e
  have cont : ∀ (code : Value) (h3 : Heap) (tk : Nat) (ps' : Array Value), Heap.ExtBut P (s1.heap.push o) h3 → (s1.heap.push o).objs.size ≤ h3.objs.size → h3.get? P = some { cls := .none, data := .fields ps' } → TriplesOk ps'.toList →
      wpAny (model X.prog X.w) X.A (builtinsFor X.env.globals X.env.builtins) (fun bi s₄ =>
        ∃ Ia fp wr n₀ Pf St₀ pz F, Value.ref s1.heap.objs.size = .ref Ia ∧ (∀ A' : Around, A'.handled = none → Walks X.prog X.w A' Ia fp wr n₀ Pf St₀) ∧ St₀ 0 s₄.heap ∧ (∀ b ∈ fp, b < s₄.heap.objs.size) ∧ s₄.heap.NoLimit ∧ cStatics ∉ wr ∧
          (∀ href : Heap, (∀ b o, s₄.heap.get? b = some o → href.get? b = some o) →
            QuietGen X.prog X.w (genEnv scope (cloFrom X.env.cells scope.names []) s₄.heap.objs.size code bi X.env) x [] elt (List.range s₄.heap.objs.size) wr Pf pz F href) ∧
          (∀ a h₅ tk gs, gs.bare = true → s₄.heap.objs.size < a → h₅.objs.size = a + 1 → (∀ b o, s₄.heap.get? b = some o → h₅.get? b = some o) →
            WalksS X.prog X.w X.A.in4 a (a :: s₄.heap.objs.size :: List.range s₄.heap.objs.size) (s₄.heap.objs.size :: wr) (GenOnlyQ s₄.gens.size) (passing pz n₀ 0).length
              (fun j y => ∃ i, (passing pz n₀ 0)[j]? = some i ∧ F i y) (GenAt X.prog X.w X.A.in4 a s₄.gens.size s₄.heap.objs.size (List.range s₄.heap.objs.size) wr pz n₀ F) →
            GenAt X.prog X.w X.A.in4 a s₄.gens.size s₄.heap.objs.size (List.range s₄.heap.objs.size) wr pz n₀ F 0 { s₄ with gens := s₄.gens.push gs, toks := tk, heap := h₅ } →
            Q' (.ref a) { s₄ with gens := s₄.gens.push gs, toks := tk, heap := h₅ })) X.xe { s1 with heap := h3, toks := tk } := by
    intro code h3 tk ps' hx hsz hP3 ht3
    obtain ⟨bm, ob, e1, e2, e3, e4, e5, e6, e7, e8⟩ := TB.bm
    have hcP : cStatics ≠ P := fun e => by
      obtain ⟨_, hns, _⟩ := I1.nolimit
      obtain ⟨o', es, ep, ho, hd, _⟩ := hns
      rw [e, hPs] at ho
      cases ho
      cases hd
    have hcl : cStatics < s1.heap.objs.size := let ⟨_, hns, _⟩ := I1.nolimit; hns.lt
    have sz2 : (s1.heap.push o).objs.size = s1.heap.objs.size + 1 := Heap.size_push ..
    have keep3 : ∀ b u, b ≠ P → s1.heap.get? b = some u → h3.get? b = some u := fun b u hb e => hx b u hb (Heap.get?_push_of_some _ e)
    have haP : a ≠ P := fun z => by
      obtain ⟨ob, e, hc, _⟩ := hil
      rw [z, hPs] at e
      cases e
      cases hc
    refine wpAny_builtinsFor (m := X.mg) (by rw [I1.ok.glob]; exact ((I1.mod.glob.keeps I1.bk).push o).extBut hx TB.gP) e1 e2 (keep3 _ _ e4 (I1.bk _ _ e5)) e6 e7 e8 ?_
    refine ⟨s1.heap.objs.size, [s1.heap.objs.size, a], [s1.heap.objs.size], its.toArray.size, (fun i v => its.toArray[i]? = some v), (fun i h => h.IsListIter s1.heap.objs.size a i ∧ h.IsList a its.toArray), (fun _ => true), (fun i y => y = .bool (pb i) ∧ i < xs.length), rfl,
      fun A' hA => Walks.list hA s1.heap.objs.size a (Nat.ne_of_lt hlt) its.toArray, ?_, ?_, lim2.extBut hx hcP, ?_, ?_, ?_⟩
    · refine ⟨?_, hil.at fun ob e => keep3 a ob haP e⟩
      subst ho
      exact ⟨_, hx _ _ (fun z => Nat.ne_of_lt hPlt z.symm) (Heap.get?_push_size _ rfl), rfl, rfl⟩
    · intro b hb
      rcases List.mem_cons.mp hb with z | z
      · rw [z]
        show s1.heap.objs.size < h3.objs.size
        omega
      · rw [List.mem_singleton.mp z]
        show a < h3.objs.size
        exact Nat.lt_of_lt_of_le hlt (by omega)
    · intro z
      rcases List.mem_cons.mp z with z | z
      · exact Nat.ne_of_lt hcl z
      · cases z
    · intro href hhref
      refine ⟨fun A' E' i v s₂ m₂ hA hPv hn hm hk => ?_, fun A' E' i v s₂ m₂ hA hPv hp hn hm hk => ?_⟩
      · simp only [List.forIn_nil]
        exact wpAny_pure ⟨rfl, GxR.keeps_refl _⟩
      · have stand : ∀ b u, b ≠ s1.heap.objs.size → h3.get? b = some u → s₂.heap.get? b = some u := fun b u hb e => hk b (List.mem_range.mpr (Heap.lt_size e)) (fun z => hb (List.mem_singleton.mp z)) u (hhref b u e)
        have nI : ∀ b u, s1.heap.get? b = some u → b ≠ s1.heap.objs.size := fun b u e => Nat.ne_of_lt (Heap.lt_size e)
        have k2 : ∀ b u, b ≠ P → s1.heap.get? b = some u → s₂.heap.get? b = some u := fun b u hb e => stand b u (nI b u e) (keep3 b u hb e)
        have hok2 : HOk X.prog X.w H1 s₂.heap := hok_tab I1.hok hP k2 (stand P _ (nI P _ hPs) hP3) ht3
        have kP : ∀ b u, X.base.get? b = some u → b ≠ P := fun b u e z => by
          have := (I1.bs b u e).2
          rw [z, hP] at this
          cases this
        have kin : X.K.In s₂.heap := I1.ok.mod.kin.keeps fun b u e => k2 b u (kP b u e) (I1.bk b u e)
        obtain ⟨yv, hy⟩ : ∃ yv, xs[i]? = some yv := by
          have hpv2 : its[i]? = some v := by simpa using hPv
          have := (List.getElem?_eq_some_iff.mp hpv2).1
          exact ⟨xs[i], List.getElem?_eq_getElem (by omega)⟩
        have ry : RelV yv v := by
          have hpv2 : its[i]? = some v := by simpa using hPv
          obtain ⟨u, hu, ru⟩ := Vals.get rv hy
          rw [hpv2] at hu
          cases hu
          exact ru
        refine wpAny_mono (hel _ A' E' i yv v s₂ m₂ rfl hok2 kin ?_ hy ry hn hm) (fun y s3 r => ⟨⟨r.1, (List.getElem?_eq_some_iff.mp hy).1⟩, r.2⟩) fun _ _ e => e
        intro j z u hj hu hcell hfree
        obtain ⟨m, hns, hl⟩ := I1.loc
        obtain ⟨uv, ru, lk⟩ := hl j z u hj hu (.inr (.inl hcell))
        rcases lk with ⟨q, _⟩ | ⟨_, cc, q1, q2⟩
        · rw [show X.env.kindOf z = X.env.scope.names.lookup z from rfl, hcell] at q
          cases q
        · obtain ⟨oc, q3, q4⟩ := q2
          refine ⟨uv, cc, ru, lookup_clo hfree q1, oc, k2 cc oc (fun e => ?_) q3, q4⟩
          rw [e, hPs] at q3
          cases q3
          cases q4
    · intro g h5 tk5 gs hgb hag hsz5 hk5 W5 hat
      simp only [GxR.passing_true, List.length_range] at W5
      rw [show its.toArray.size = xs.length by rw [List.size_toArray, hlen]] at W5
      refine hQ xs pb H1 g _ q1 ⟨_, _, _, _, _, W5.in4_1, ?_, ?_, fun s' hm => ?_⟩
      · rw [show its.toArray.size = xs.length by rw [List.size_toArray, hlen]] at hat
        exact hat
      · intro j y sj Qj Ej hy hQj
        obtain ⟨i, hij, rfl, hcc⟩ := hy
        obtain ⟨hj, ej⟩ := List.getElem?_eq_some_iff.mp hij
        rw [List.getElem_range] at ej
        subst ej
        exact wpAny_truthy_bool hQj
      · have nwr : ∀ b u, s1.heap.get? b = some u → b ∉ h3.objs.size :: [s1.heap.objs.size] := fun b u e hb => by
          have hl := Heap.lt_size e
          rcases List.mem_cons.mp hb with z | z
          · rw [z] at hl
            have h9 : (h3.objs.size : Nat) < s1.heap.objs.size := hl
            omega
          · rcases List.mem_cons.mp z with z | z
            · rw [z] at hl
              exact Nat.lt_irrefl _ hl
            · cases z
        have J := inv_tab (h' := s'.heap) (g' := s'.gens) (d' := s'.drawn) (t' := s'.toks) I1 hP (fun b u hb e => hm.heap b u (nwr b u e) (hk5 b u (keep3 b u hb e)))
          (hm.heap P _ (nwr P _ hPs) (hk5 P _ hP3)) ht3 (AllBare.movedS (I1.bare.push hgb) hm)
        rw [GxR.sh_eta s1 s' hm.os] at J
        exact J
  refine ⟨lim2, ?_⟩
  cases hf : codeAmong gpos ps.toList with
  | none =>
    refine wpAny_genexprCodeX hcode (cd.code hP2 ht) (cd.tab hP2) hf fun c' h' tk hx hge hlt hco' _ htab' _ => ?_
    obtain ⟨o1, vs, f1, tf, fl, tg, inF, tx, tt, op, _, _, _, _, _, _, _, _, _, htr, _⟩ := hco'
    exact cont _ h' tk _ hx (Nat.le_trans hge (Nat.le_of_lt hlt)) htab'.2 htr
  | some cv =>
    refine wpAny_genexprCode_hit hcode (cd.code hP2 ht) hf ?_
    exact cont cv (s1.heap.push o) s1.toks ps (Heap.ExtBut.refl _ _) (Nat.le_refl _) hP2 ht
/-- any(test for x in e), all(..), e a list -/
def tAnyL (X : Cx) (P : Addr) (scope : Scope) (x : Str) (elt : Expr) (te : TE) : TE := fun σ H Q => te σ H fun v H1 => ∃ (a : Addr) (xs : List V) (pb : Nat → Bool), v = .ref a ∧ SqL X.K H1 a xs ∧ H1 P = some (TabO P) ∧ EltL X σ H1 scope x elt xs pb ∧ Q (.bl ((List.range xs.length).any pb)) H1
def tAllL (X : Cx) (P : Addr) (scope : Scope) (x : Str) (elt : Expr) (te : TE) : TE := fun σ H Q => te σ H fun v H1 => ∃ (a : Addr) (xs : List V) (pb : Nat → Bool), v = .ref a ∧ SqL X.K H1 a xs ∧ H1 P = some (TabO P) ∧ EltL X σ H1 scope x elt xs pb ∧ Q (.bl ((List.range xs.length).all pb)) H1
theorem pe_anyL {c P : Addr} {elt iter : Expr} {x : Str} {px p pos gpos : Pos} {scope : Scope} {te : TE} {k : Nat}
    (hr : Room k X.A) (hg : Gl X "any") (hm : X.mg "any" = none) (TB : TabB X.base X.mg c P) (hcode : X.env.code = .ref c) (S0 : GenT X.env.scope scope x) (hi : PE X iter te)
    (hs : ∀ v, genFold iter X.env v = pure v)
    (he : starEach [.GeneratorExp elt [⟨.Name x px, iter, [], 0⟩] scope gpos] X.env = (false, eval (.GeneratorExp elt [⟨.Name x px, iter, [], 0⟩] scope gpos) X.env) :: starEach [] X.env := by rfl) :
    PE X (.Call (.Name "any" p) [.GeneratorExp elt [⟨.Name x px, iter, [], 0⟩] scope gpos] [] pos) (tAnyL X P scope x elt te) := by
  refine ⟨fun pins s σ H Q I h => ?_⟩
  refine wpAny_Call_Name_kw (ld_blt I hg hm boot_any ?_)
  refine PyProof.Rows.callWith_builtin1 ?_ he (by rfl)
  rw [he]
  show wpAny _ _ (spliced ((false, eval (.GeneratorExp elt [⟨.Name x px, iter, [], 0⟩] scope gpos) X.env) :: backTo pos (starEach [] X.env))) _ _ s
  refine Calls.spliced_cons (gen_list (R := fun xs pb H1 => Q (.bl ((List.range xs.length).any pb)) H1) hr TB hcode S0 hi hs I h fun xs pb H1 g s5 hR hG => ?_)
  obtain ⟨fp, wr, G, F, St, W, hst, htr, hI⟩ := hG
  refine Calls.spliced_nil ?_
  refine call_any_walkS (W.self 0 _ _ _ hst ⟨g, fp, wr, G, _, F, St, _, rfl, W, hst, htr, fun s' hmv => ?_⟩)
  exact ⟨.bl _, H1, hI s' hmv, rfl, hR⟩
theorem pe_allL {c P : Addr} {elt iter : Expr} {x : Str} {px p pos gpos : Pos} {scope : Scope} {te : TE} {k : Nat}
    (hr : Room k X.A) (hg : Gl X "all") (hm : X.mg "all" = none) (hb : bootBuiltins "all" = some (.builtin "all")) (TB : TabB X.base X.mg c P) (hcode : X.env.code = .ref c) (S0 : GenT X.env.scope scope x) (hi : PE X iter te)
    (hs : ∀ v, genFold iter X.env v = pure v)
    (he : starEach [.GeneratorExp elt [⟨.Name x px, iter, [], 0⟩] scope gpos] X.env = (false, eval (.GeneratorExp elt [⟨.Name x px, iter, [], 0⟩] scope gpos) X.env) :: starEach [] X.env := by rfl) :
    PE X (.Call (.Name "all" p) [.GeneratorExp elt [⟨.Name x px, iter, [], 0⟩] scope gpos] [] pos) (tAllL X P scope x elt te) := by
  refine ⟨fun pins s σ H Q I h => ?_⟩
  refine wpAny_Call_Name_kw (ld_blt I hg hm hb ?_)
  refine PyProof.Rows.callWith_builtin1 ?_ he (by rfl)
  rw [he]
  show wpAny _ _ (spliced ((false, eval (.GeneratorExp elt [⟨.Name x px, iter, [], 0⟩] scope gpos) X.env) :: backTo pos (starEach [] X.env))) _ _ s
  refine Calls.spliced_cons (gen_list (R := fun xs pb H1 => Q (.bl ((List.range xs.length).all pb)) H1) hr TB hcode S0 hi hs I h fun xs pb H1 g s5 hR hG => ?_)
  obtain ⟨fp, wr, G, F, St, W, hst, htr, hI⟩ := hG
  refine Calls.spliced_nil ?_
  refine call_all_walkS (W.self 0 _ _ _ hst ⟨g, fp, wr, G, _, F, St, _, rfl, W, hst, htr, fun s' hmv => ?_⟩)
  exact ⟨.bl _, H1, hI s' hmv, rfl, hR⟩
/-! elements -/
theorem keeps_tok {s s1 s2 : Shared} (a : Keeps s s1) (b : Keeps s1 s2) : Keeps s s2 := by
  obtain ⟨h1, t1, rfl, k1⟩ := a
  obtain ⟨h2, t2, rfl, k2⟩ := b
  exact ⟨h2, t2, rfl, fun b o e => k2 b o (k1 b o e)⟩
/-- whether the i-th key is there -/
def inAt (kvs : List (L2.Key × V)) (ks : List L2.Key) (i : Nat) : Bool := match ks[i]? with
  | some k => (valV kvs k).isSome
  | none => false
/-- x in y.f, y a captured name of the def that holds an instance, its field f a dict with int and text keys -/
theorem elt_inFld {scope : Scope} {x y f : Str} {p1 p2 p3 p4 : Pos} {xs : List V} {j : Nat} {a C dx d : Addr} {fs : List (Str × V)} {kvs : List (L2.Key × V)} {ks : List L2.Key}
    (hk : scope.kind = .function) (hl : scope.names.lookup x = some .local) (hf : (y, NameKind.free) ∈ scope.names) (hfl : scope.names.lookup y = some .free) (hc : X.env.scope.names.lookup y = some .cell) (hN : X.N[j]? = some y) (hσ : σ[j]? = some (some (.ref a)))
    (ha : H a = some (.ins C dx fs)) (cl : Cls X.K C) (na : NoAttr X.K C f) (lf : fs.lookup f = some (.ref d)) (hd : H d = some (.dK kvs)) (hxs : xs = ks.map kV)
    (hb : ∀ cenv : Env, cenv.scope = scope → attributeBase (.Name y p2) f cenv (eval (.Name y p2) cenv) = eval (.Name y p2) cenv)
    (d1 : (x == ("__debug__" : Str)) = false := by decide) (d2 : (y == ("__debug__" : Str)) = false := by decide) (d3 : (y == ("__classdict__" : Str)) = false := by decide) :
    EltL X σ H scope x (.Compare (.Name x p1) [.In] [.Attribute (.Name y p2) f p3] p4) xs (inAt kvs ks) := by
  subst hxs
  intro cenv A' E' i z v s₂ m₂ hs hok kin cap hz rz hn hm
  obtain ⟨uv, c, ru, hcl, hcell⟩ := cap j y _ hN hσ hc hf
  obtain rfl : uv = Value.ref a := ru
  refine wpAny_Compare1 ?_
  refine wpAny_Name (wpAny_loadName_local (by rw [hs]; exact hk) (show cenv.scope.names.lookup x = some .local by rw [hs]; exact hl) hn hm ?_) d1
  refine attr_of (hb cenv hs) ?_
  refine wpAny_Name (wpAny_loadName_free (by rw [hs]; exact hk) (show cenv.scope.names.lookup y = some .free by rw [hs]; exact hfl) hcl hcell ?_ d3) d2
  obtain ⟨mA, O, r, _, _, _⟩ := ins_get hok ha
  obtain ⟨u, hu, ru2⟩ := RelO.some_of (v := V.ref d) (o := mA f) (by rw [← lf]; exact r f)
  refine get_map kin O (cl.get f) cl.hd na hu (handed_of ru2) ?_
  obtain rfl : u = Value.ref d := ru2
  rw [List.getElem?_map] at hz
  cases ek : ks[i]? with
  | none =>
    rw [ek] at hz
    cases hz
  | some k =>
    rw [ek] at hz
    cases hz
    obtain ⟨_, hsys, vs, rel, dd⟩ := dk_of hok hd
    refine wpAny_in_of (kV_is rz) hsys dd.mapOf ?_
    rw [← (rel.val k).isSome_eq]
    refine ⟨?_, _, _, rfl, fun b o e => e⟩
    unfold inAt
    rw [ek]
end
end Rg
/-! a law whose program makes generator expressions: its promise is told of heaps in which the tables are TabO, its end of heaps in which they are empty -/
namespace Rg
open PySem PySem.Spec PyProof.Rows L2
theorem tabB_of {base : Heap} {mg : Str → Option Value} {c P : Addr} (t : LamX.TabB base mg c P) : TabB base mg c P := ⟨t.code, t.bm, t.gP⟩
def tabH (ts : List Addr) (H : Hp) : Hp := fun b => if b ∈ ts then some (TabO b) else H b
theorem tabH_in {ts : List Addr} {H : Hp} {b : Addr} (h : b ∈ ts) : tabH ts H b = some (TabO b) := if_pos h
theorem tabH_out {ts : List Addr} {H : Hp} {b : Addr} (h : b ∉ ts) : tabH ts H b = H b := if_neg h
def spTab (ts : List Addr) (sp : Sp) : Sp := fun vs H Q _ => (∀ P ∈ ts, H P = some (.tbl #[])) ∧ sp vs (tabH ts H) (fun v H' => (∀ P ∈ ts, H' P = some (TabO P)) ∧ ∀ J, Q v J) fun _ _ _ => False
def fldsAt (h : Heap) (b : Addr) : Array Value := match h.get? b with
  | some ⟨_, _, .fields ps, _⟩ => ps
  | _ => #[]
theorem fldsAt_eq {h : Heap} {b : Addr} {ps : Array Value} (e : h.get? b = some { cls := .none, data := .fields ps }) : fldsAt h b = ps := by
  unfold fldsAt
  rw [e]
/-- the tables told as they stand -/
def backH (ts : List Addr) (h : Heap) (H : Hp) : Hp := fun b => if b ∈ ts then some (.tbl (fldsAt h b)) else H b
theorem fnok_tab {P : Program} {w : World} {K : PySem.W.Frag} {mg : Str → Option Value} {base : Heap} {k : Nat} {f : Addr} {fd : FuncData} {ps : List Str} {sp : Sp} (ts : List Addr) (F : FnOk P w K mg base L2.CX0 k f fd ps sp) : FnOk P w K mg base L2.CX0 k f fd ps (spTab ts sp) := by
  refine ⟨fun vs H Q E h => F.len vs _ _ _ h.2, fun A outer s H args us vs Q E hr e0 hb hv h => ?_⟩
  obtain ⟨hT, h⟩ := h
  have out : ∀ {b : Addr} {u : HO}, H b = some u → (∀ qs, u ≠ .tbl qs) → b ∉ ts := fun e n z => by
    rw [hT _ z] at e
    exact n _ (Option.some.inj e).symm
  have outN : ∀ {b : Addr}, H b = none → b ∉ ts := fun e z => by
    rw [hT _ z] at e
    cases e
  have okT : HOk P w (tabH ts H) s.heap := fun b u e => by
    by_cases q : b ∈ ts
    · rw [tabH_in q] at e
      cases e
      exact tabO_ok (show s.heap.get? b = some { cls := .none, data := .fields #[] } from e0.hok b _ (hT b q)) True.intro
    · rw [tabH_out q] at e
      exact (e0.hok b u e).stay (fun d v _ z => z) (fun d z => (tabH_out (out z (fun qs y => by cases y))).trans z) fun d xs z => (tabH_out (out z (fun qs y => by cases y))).trans z
  have e1 : Env0 P w K mg base A outer s (tabH ts H) := ⟨e0.frames, e0.mod, fun b o e => ⟨(e0.bs b o e).1, (tabH_out (outN (e0.bs b o e).2)).trans (e0.bs b o e).2⟩, e0.bsz, e0.funs, fun b m => (tabH_out (outN (e0.frf b m))).trans (e0.frf b m), okT, e0.bare⟩
  refine codeAny_mono (F.run A outer s (tabH ts H) args us vs _ _ hr e1 hb hv h) fun r s' z => ?_
  match r, z with
  | .error _, z => exact False.elim z
  | .ok .next, z => exact False.elim z
  | .ok .brk, z => exact False.elim z
  | .ok .cont, z => exact False.elim z
  | .ok (.ret u), z =>
    obtain ⟨v, H', os, bare, un, hok', rv, hT', hq⟩ := z
    have tab : ∀ b ∈ ts, s'.heap.get? b = some { cls := .none, data := .fields (fldsAt s'.heap b) } := fun b m => by
      obtain ⟨⟨qs, e, _⟩, _⟩ := (show ObjOk P w H' s'.heap b (TabO b) from hok' b _ (hT' b m))
      rw [fldsAt_eq e]
      exact e
    have inn : ∀ {b : Addr}, b ∈ ts → backH ts s'.heap H' b = some (.tbl (fldsAt s'.heap b)) := fun m => if_pos m
    have off : ∀ {b : Addr}, b ∉ ts → backH ts s'.heap H' b = H' b := fun m => if_neg m
    have notT : ∀ {b : Addr} {u : HO}, H' b = some u → u ≠ TabO b → b ∉ ts := fun e n m => by
      rw [hT' _ m] at e
      exact n (Option.some.inj e).symm
    refine ⟨v, backH ts s'.heap H', os, bare, ⟨fun b o e n hf hx => ?_, fun b o e n hf hx => ?_, fun b o e n hx => ?_, fun b o e hx => un.there b o e hx, fun b xs e => ?_, fun b o x e => ?_, fun b qs e => ?_⟩, fun b x e => ?_, rv, hq _⟩
    · exact un.keep b o e ((tabH_out (outN n)).trans n) hf hx
    · exact un.slot b o e ((tabH_out (outN n)).trans n) hf hx
    · exact (off (outN n)).trans (un.free b o e ((tabH_out (outN n)).trans n) hx)
    · have m := out e (fun qs y => by cases y)
      exact (off m).trans (un.tups b xs ((tabH_out m).trans e))
    · have m := out e (fun qs y => by cases y)
      exact (off m).trans (un.frzs b o x ((tabH_out m).trans e))
    · by_cases m : b ∈ ts
      · rw [hT b m] at e
        cases e
        exact ⟨fldsAt s'.heap b, by rw [inn m, Array.empty_append]⟩
      · obtain ⟨more, y⟩ := un.tbls b qs ((tabH_out m).trans e)
        exact ⟨more, (off m).trans y⟩
    · by_cases m : b ∈ ts
      · rw [inn m] at e
        cases e
        exact tab b m
      · rw [off m] at e
        exact (hok' b x e).stay (fun d y _ z => z) (fun d z => (off (notT z (fun y => by cases y))).trans z) fun d xs z => (off (notT z (fun y => by cases y))).trans z
/-- a def of the top with its code object known -/
theorem code_of {K : PySem.W.Frag} {x : Str} {params : Arguments} {body : List Stmt} {scope : Scope} {fd : FuncData} (F : FunD K x x params body scope [] [] (He.ga K x) fd) :
    ∃ (oc : Value) (od : Option Addr) (dV kV doc pm : Value) (an : Option Addr) (ct : Value) (osl : Array (Option Value)), fd = PySem.W.fnOf x x params body scope dV kV doc pm an (.ref (He.codeOf K (x, none))) ct ∧ K.lookup (He.ga K x) = some ⟨oc, od, .func fd, osl⟩ ∧ PySem.W.codeIn K (.ref (He.codeOf K (x, none))) x = true := by
  obtain ⟨oc, od, dV, kV, doc, pm, an, cdv, ct, osl, e, lk, hcd, _, _⟩ := F.ex
  obtain ⟨c, rfl⟩ := He.codeIn_ref hcd
  have ec : He.codeOf K (x, none) = c := He.codeOf_eq (p := (x, none)) (fd := fd) lk (by rw [e])
  rw [ec]
  exact ⟨oc, od, dV, kV, doc, pm, an, ct, osl, e, lk, hcd⟩
end Rg
namespace Rs
open PySem PySem.Spec PyProof.Rows L2 C8
theorem hu2_of {A : Around} {k : Nat} (hr : Room k A) : A.units + 2 < cLine := by
  have := hr.un
  omega
section
variable {X : Cx} {k j : Nat} {x : Str} {C : Addr} {sp : Sp} {dvs : List V} {p pos : Pos}
theorem pe_mk0 (c : Mak X.prog X.w X.K X.mg X.base k x C sp dvs) (hr : Room j X.A) (hk : k + 1 ≤ j) (hg : Gl X x) (hdb : (x == ("__debug__" : Str)) = false := by decide) :
    PE X (.Call (.Name x p) [] [] pos) (tMake C sp dvs C8.E0 tNil) := by
  obtain ⟨f, fd, ps, ds, M, F, hm, b, d⟩ := c.ex
  exact pe_make0 M F (hr.mono hk) hg hm b d C8.pass0 hdb
end
section
variable {P : Program} {w : World} {K : PySem.W.Frag} {mg : Str → Option Value} {base : Heap}
/-- a def of the top whose code object is asked for -/
theorem calT_of {x : Str} {st : Stmt} {N ps : List Str} {k : Nat} {sp : Sp} (D : DefAt K mg x st) (S : FnScope N ps (defScope st))
    (hb : ∀ (kV doc pm : Value) (an : Option Addr) (cdv ct : Value) (us : List Value), us.length = ps.length → bindArgs (PySem.W.fnOf x x (defArgs st) (defBody st) (defScope st) .none kV doc pm an cdv ct) ⟨us, []⟩ = pure (ps.zip us))
    (len : ∀ vs H Q E, sp vs H Q E → vs.length = ps.length)
    (hbody : ∀ (A : Around) (outer : List Env) (s : Shared) (H : Hp) (vs : List V) (Q : VK) (E : XK), Room k (A.deeper (envOfC x (defScope st) s.heap.objs.size (He.ga K x) (.ref (He.codeOf K (x, none))))) → sp vs H Q E →
      ∃ t, PSs (cxOf L2.CX0 P w K mg base N x (defScope st) (He.ga K x) (.ref (He.codeOf K (x, none))) A outer s H E).nox (defBody st) t ∧ t { nx := fun _ H' => Q .non H', rt := Q } (start N vs) H) : C8.Cal P w K mg base (k + 1) x sp [] := by
  obtain ⟨fd, F⟩ := D.ex
  obtain ⟨oc, od, dV, kV, doc, pm, an, ct, osl, e, lk, hcd⟩ := Rg.code_of F
  refine ⟨He.ga K x, fd, ps, [], ?_, D.mgx, F.kp, F.bindsN hb, .nil⟩
  subst e
  refine fn_of lk hcd S len fun A outer s H vs Q E hr h => ?_
  obtain ⟨t, h1, h2⟩ := hbody A outer s H vs Q E hr h
  exact ⟨t, h1.nox, h2⟩
def tabAt (K : PySem.W.Frag) (x : Str) : Addr := (He.cT K (x, none)).2
end
end Rs
/-! lists of pairs of ints: min, remove; sorted of a dict with int keys, any number of them -/
namespace Rg
open PySem PySem.Spec PyProof.Rows L2
abbrev Pt := Int × Int
/-- tuples of two ints at ts -/
def PrsAt (H : Hp) (ts : List Addr) (L : List Pt) : Prop := ts.length = L.length ∧ ∀ (i : Nat) (t : Addr) (e : Pt), ts[i]? = some t → L[i]? = some e → H t = some (.tup [.int e.1, .int e.2])
theorem vals_refs : ∀ {ts : List Addr} {us : List Value}, Vals (ts.map V.ref) us → us = ts.map Value.ref
  | [], _, .nil => rfl
  | t :: ts, _, .cons r q => by
    rw [show (_ : Value) = Value.ref t from r, vals_refs q]
    rfl
section
variable {Pg : Program} {w : World} {H : Hp} {h : Heap}
theorem holds_of {t : Addr} {e : Pt} (ok : HOk Pg w H h) (ht : H t = some (.tup [.int e.1, .int e.2])) : PySem.W.Holds h (.ref t) e := by
  obtain ⟨_, its, r, o, ho, hc, n, hd⟩ := ok t _ ht
  obtain ⟨u1, u2, rfl, ri, rj⟩ := vals2 r
  obtain ⟨t1, rfl⟩ := ri
  obtain ⟨t2, rfl⟩ := rj
  exact PySem.W.holds_pair (x := e.1) (y := e.2) ⟨o, ho, hc, n, hd⟩ (PySem.W.holds_int _ _) (PySem.W.holds_int _ _)
theorem holdAll_of (ok : HOk Pg w H h) : ∀ {ts : List Addr} {L : List Pt}, PrsAt H ts L → PySem.W.HoldAll h (ts.map Value.ref) L
  | [], [], _ => PySem.W.HoldAll.nil
  | [], b :: s, p => by cases p.1
  | a :: r, [], p => by cases p.1
  | a :: r, b :: s, p => PySem.W.HoldAll.cons (holds_of ok (p.2 0 a b rfl rfl)) (holdAll_of ok ⟨by simpa using p.1, fun i t e h1 h2 => p.2 (i + 1) t e h1 h2⟩)
theorem int_holds {v : Value} {i : Int} (x : PySem.W.Holds h v i) : ∃ t, v = .int i t := by
  obtain ⟨as, r⟩ := x
  cases r with
  | int _ t => exact ⟨t, rfl⟩
theorem holds_val {t : Addr} {e m : Pt} (ok : HOk Pg w H h) (ht : H t = some (.tup [.int e.1, .int e.2])) (hm : PySem.W.Holds h (.ref t) m) : e = m := by
  obtain ⟨_, its, r, o, ho, hc, n, hd⟩ := ok t _ ht
  obtain ⟨u1, u2, rfl, ri, rj⟩ := vals2 r
  obtain ⟨t1, rfl⟩ := ri
  obtain ⟨t2, rfl⟩ := rj
  obtain ⟨l, a, b, e1, ⟨o', ho', hc', n', hd'⟩, e2, e3⟩ := PySem.W.pair_of_holds hm
  cases e1
  rw [ho] at ho'
  cases ho'
  rw [hd] at hd'
  obtain ⟨t3, rfl⟩ := int_holds e2
  obtain ⟨t4, rfl⟩ := int_holds e3
  injection hd' with d1 _
  have d2 := congrArg Array.toList d1
  simp at d2
  exact Prod.ext d2.1.1 d2.2.1
end
section
variable {X : Cx}
/-- min(xs), xs a list of pairs of ints: one of the least -/
def rMinP (K : PySem.W.Frag) : List V → Hp → VK → Prop := fun vs H Q => ∃ (a : Addr) (ts : List Addr) (p0 : Pt) (ps : List Pt), vs = [V.ref a] ∧ SqL K H a (ts.map V.ref) ∧ PrsAt H ts (p0 :: ps) ∧
  ∀ (i : Nat) (t : Addr), ts[i]? = some t → (p0 :: ps)[i]? = some (PySem.W.minOf p0 ps) → Q (.ref t) H
theorem cr_minP (hc : X.calm = true) (hu : X.A.units + 2 < cLine) : CallR X (.builtin "min") (rMinP X.K) := by
  intro pins s σ H vs us Q I r h
  obtain ⟨a, ts, p0, ps, rfl, hS, hp, q⟩ := h
  rw [Vals.ref1 r]
  obtain ⟨its, rv, pl, hz⟩ := I.list hS
  obtain rfl := vals_refs rv
  refine PySem.W.min_list_datum (I.ok.hd hc) pl.isList (by simpa using holdAll_of I.hok hp) (by show X.A.units + 1 + 1 < cLine; exact hu) fun i v h' tk hi hm hk => ?_
  have hi2 : (ts.map Value.ref)[i]? = some v := by simpa using hi
  rw [List.getElem?_map] at hi2
  cases et : ts[i]? with
  | none =>
    rw [et] at hi2
    cases hi2
  | some t =>
    rw [et] at hi2
    cases hi2
    have hl : i < (p0 :: ps).length := by
      rw [← hp.1]
      exact (List.getElem?_eq_some_iff.mp et).1
    have I1 : Inv X pins σ H { s with heap := h', toks := tk } := I.kept hk
    have ht := hp.2 i t _ et (List.getElem?_eq_getElem hl)
    have ee := holds_val I1.hok ht hm
    refine ⟨.ref t, H, I1, rfl, q i t et ?_⟩
    rw [List.getElem?_eq_getElem hl, ee]
/-- xs.remove(t), xs a list of pairs of ints, t a pair: the first that is alike -/
def rRemP : V → List V → Hp → VK → Prop := fun x xs H Q => ∃ (l b : Addr) (ts : List Addr) (ps : List Pt) (p : Pt) (j : Nat), x = .ref l ∧ xs = [.ref b] ∧ H l = some (.lst (ts.map V.ref)) ∧ PrsAt H ts ps ∧ H b = some (.tup [.int p.1, .int p.2]) ∧
  ps[j]? = some p ∧ (∀ m, m < j → ps[m]? ≠ some p) ∧ Q .non (upd H l (.lst ((ts.eraseIdx j).map V.ref)))
theorem map_erase {α β : Type} (f : α → β) : ∀ (ns : List α) (j : Nat), (ns.map f).eraseIdx j = (ns.eraseIdx j).map f
  | [], _ => rfl
  | _ :: _, 0 => rfl
  | n :: r, j + 1 => by
    show f n :: (r.map f).eraseIdx j = f n :: (r.eraseIdx j).map f
    rw [map_erase f r j]
theorem mt_remP (hu : X.A.units + 2 < cLine) : MtR X "list.remove" rRemP := by
  intro pins s σ H x xs v us Q I rx rxs h
  obtain ⟨l, b, ts, ps, p, j, rfl, rfl, hl, hp, hb, hj, hno, q⟩ := h
  cases rx
  obtain ⟨u, rfl, ru⟩ := vals1 rxs
  obtain rfl : u = Value.ref b := ru
  obtain ⟨z, its, n, r, hll, e0⟩ := I.lstM hl
  obtain rfl := vals_refs r
  refine PySem.W.remove_list_datum (x := p) (j := j) ⟨_, e0, rfl, n, rfl⟩ (by simpa using holdAll_of I.hok hp) (holds_of I.hok hb) (by show X.A.units + 1 + 1 < cLine; exact hu) hj hno (by rw [List.size_toArray, ← hll]; exact z) ?_
  refine ⟨.non, _, I.lset (its' := (ts.map Value.ref).eraseIdx j) hl e0 ?_ ?_ ?_, rfl, q⟩
  · show (ts.map Value.ref).toArray.eraseIdxIfInBounds j = ((ts.map Value.ref).eraseIdx j).toArray
    rw [List.eraseIdxIfInBounds_toArray]
  · have w := r.eraseIdx j
    rw [map_erase] at w
    exact w
  · rw [List.length_map]
    rw [List.length_map] at z
    have := List.length_eraseIdx_le ts j
    omega
/-- sorted(d), d a dict with int keys, any number of them -/
def rSortedD : List V → Hp → VK → Prop := fun xs H Q => ∃ (a : Addr) (kvs : List (L2.Key × V)) (ks : List Int), xs = [.ref a] ∧ Rd H a (.dK kvs) ∧ kvs.map (·.1) = ks.map Sum.inl ∧
    ∀ (ys : List Int) (p : Addr), ys.Perm ks → ys.Pairwise (· ≤ ·) → H p = none → Q (.ref p) (upd H p (.lst (ys.map V.int)))
theorem cr_sortedD (hcalm : X.calm = true) : CallR X (.builtin "sorted") rSortedD := by
  intro pins s σ H xs us Q I r q
  obtain ⟨a, kvs, ks, ex, hd, hks, q⟩ := q
  subst ex
  obtain ⟨u, eu, rx⟩ := vals1 r
  subst eu
  cases rx
  obtain ⟨z, lo, vs, rel, dd⟩ := dk_rd I.hok hd
  obtain ⟨ep, hat⟩ := dd.dictAt
  have hkeys : vs.map (·.1) = ks.map Sum.inl := rel.keys.symm.trans hks
  have hl : vs.length = ks.length := by
    have e := congrArg List.length hkeys
    rw [List.length_map, List.length_map] at e
    exact e
  have hkl : kvs.length = ks.length := by
    have e := congrArg List.length hks
    rw [List.length_map, List.length_map] at e
    exact e
  have h16 : vs.length ≤ sizeLine := by rw [hl, ← hkl]; exact z
  refine Calls.call_function_entry PyProof.Rows.kind_sorted PyProof.Rows.plain_sorted PyProof.Rows.entry_sorted (PyProof.Rows.args_sorted1 _) ?_
  unfold Builtin.«sorted»
  refine wpAny_bind (m := checkCount "sorted" 1 1 _) (wpAny_pure ?_)
  refine wpAny_bind (PySem.W.kdu_collect (A := X.A.in1) (PySem.W.kdl_dict (knd := mixKind X.prog X.w) (kvs := vs) (ep := ep) lo) (I.ok.hd hcalm) hat h16 fun h' tk acc hk hacc => ?_)
  have hal : acc.toList.length = ks.length := by rw [Array.length_toList, hacc.1, hl]
  have hS : IntsAre acc.toList ks := ints_each hal fun j v e => by
    obtain ⟨k, x, e1, e2⟩ := hacc.2 j v (by rw [← Array.getElem?_toList]; exact e)
    have e3 : (vs.map (·.1))[j]? = some k := by rw [List.getElem?_map, e1]; rfl
    rw [hkeys, List.getElem?_map] at e3
    cases e4 : ks[j]? with
    | none => rw [e4] at e3; cases e3
    | some y =>
      rw [e4] at e3
      have e5 : Sum.inl y = k := Option.some.inj e3
      subst e5
      rcases keyIs_shape (show keyIs (Sum.inl y) v = true from e2) with ⟨i, t, ek, ev⟩ | ⟨z, t, ek, ev⟩
      · cases ek
        exact ⟨y, t, rfl, ev⟩
      · cases ek
  have I1 : Inv X pins σ H { s with heap := h', toks := tk } := I.kept hk
  refine wpAny_bind (wpAny_newList ?_ (by rw [hal, ← hkl]; exact z))
  have hoL : (h'.push (seqObj "list" acc.toList.toArray 0)).get? h'.objs.size = some (seqObj "list" acc.toList.toArray 0) := Heap.get?_push_size _ rfl
  show wpAny _ _ _ _ _ { s with heap := h'.push (seqObj "list" acc.toList.toArray 0), toks := tk }
  refine wpAny_bind (wpAny_holding (wpAny_call_entry PyProof.Rows.slot_list_sort ⟨_, hoL, rfl⟩ PyProof.Rows.entry_list_sort
    (SrtO.list_sort_ord (s := { s with heap := h'.push (seqObj "list" acc.toList.toArray 0), toks := tk }) SrtO.swo_int hoL (by rw [hal, ← hkl]; exact z) (fun h2 => SrtO.ints_sortable hS h2) fun out g0 g00 => ⟨_, rfl, ?_⟩) (PyProof.Rows.args_list_sort _)))
  obtain ⟨g1, g2, g3⟩ := SrtO.ints_out hS g0 g00
  obtain ⟨e', he'⟩ := PyProof.Rows.sortedHeap_at (vs := acc.toList) (out := out.toArray) hoL
  have hlen : ((out.map SrtO.iv).map V.int).length ≤ sizeLine := by
    rw [List.length_map, g2.length_eq, ← hkl]
    exact z
  refine wpAny_pure ⟨_, rfl, .ref h'.objs.size, upd H h'.objs.size (.lst ((out.map SrtO.iv).map V.int)), I1.laid (t' := tk) (fun b u e => ?_) (Nat.le_refl _)
    (show ObjOk X.prog X.w _ _ _ (.lst ((out.map SrtO.iv).map V.int)) from ⟨hlen, out, e', vals_of_ints g1, he'⟩), rfl, q _ _ g2 g3 (I1.hok.fresh (Nat.le_refl _))⟩
  have hb : b < h'.objs.size := Heap.lt_size e
  rw [PyProof.Rows.sortedHeap_old (Nat.ne_of_lt hb) (by rw [size_push']; exact Nat.lt_succ_of_lt hb)]
  exact Heap.get?_push_of_some _ e
end
end Rg
namespace Rs
open PySem PySem.Spec PyProof.Rows L2 C8
section
variable {P : Program} {w : World} {K : PySem.W.Frag} {mg : Str → Option Value} {base : Heap}
/-- a row as row_at tells it -/
def RowT (H : Hp) (t b n : Addr) (r : Row) : Prop := H t = some (.tup [.str r.k.str, .ref b, .ref n]) ∧ H b = some (.lst (il r.bx)) ∧ H n = some (.lst (il r.nm))
def goalV (r : Row) (p : Int) : V := match goals r p with
  | [] => .non
  | g :: _ => .int g
def spGoal : Sp := fun vs H Q _ => ∃ (p : Int) (t b n : Addr) (r : Row), vs = [.int p, .ref t] ∧ RowT H t b n r ∧ Ok r ∧ Q (goalV r p) H
theorem num0 {r : Row} (ho : Ok r) (h : nNum r.k = 1) : r.nm = [r.nm.getD 0 0] := by
  have hl := ho.nl
  rw [h] at hl
  match hn : r.nm, hl with
  | [a], _ => rfl
theorem ok_goal_of (D : DefAt K mg "goal_of" sD_goal_of) (T : Txt w K mg) (c_row_size : Cal P w K mg base 1 "row_size" spSize []) (c_signed : Cal P w K mg base 1 "signed" spSigned []) : Cal P w K mg base 2 "goal_of" spGoal [] := by
  refine cal_of D sc_goal_of (fun _ _ _ _ _ _ us hl => match us, hl with | [_, _], _ => rfl) (fun vs H Q E h => ?_) (fun cdv A outer s H vs Q E hr h => ?_)
  · obtain ⟨p, t, b, n, r, rfl, _⟩ := h
    rfl
  · obtain ⟨p, t, b, n, r, rfl, ⟨h1, h2, h3⟩, ho, k⟩ := h
    refine ⟨_, (pss_cons (ps_asg (pv 1) (pg_tup rfl (pgs_cons (pg_name (i := 2) sc_goal_of.nd rfl (Or.inl rfl)) (pgs_cons (pg_name (i := 3) sc_goal_of.nd rfl (Or.inl rfl)) (pgs_cons (pg_name (i := 4) sc_goal_of.nd rfl (Or.inl rfl)) pgs_nil)))))
  (pss_cons (ps_if (pt_cmpR op_eq (pv 2) pe_str (nomark _))
   (pss_one (ps_ret (pe_op op_add (pe_op op_add (pv 0) (pe_c c_row_size hr (by decide) (by rfl) (pa_cons (pv 2) pa_nil))) (pe_c c_signed hr (by decide) (by rfl) (pa_cons (pe_ix ix_list (pv 4) pe_int (fun _ _ => rfl)) pa_nil)))))
   pss_nil)
  (pss_one (ps_ret (pe_ifExp (pt_cmpR op_in_seq (pv 2) (pe_gR (by rfl) T.g_GOING) (by rfl)) (pe_ix ix_list (pv 4) pe_int (fun _ _ => rfl)) pe_non))))), ?_⟩
    refine ⟨_, rfl, t, _, rfl, SqT.of h1, rfl, _, _, rfl, _, _, rfl, _, _, rfl, rfl, ?_⟩
    refine ⟨_, rfl, rfl, _, rfl, ?_⟩
    by_cases hk : r.k = .skip
    · refine ite2 (fun _ => ?_) (fun q => absurd (decide_eq_true (by rw [hk]; rfl)) q)
      have e := num0 ho (by rw [hk]; rfl)
      refine ⟨_, rfl, _, rfl, r.k, rfl, _, _, rfl, rfl, _, rfl, n, _, _, _, rfl, rfl, SqL.of h3, (by rw [e]; exact atI_nat (j := 0) rfl), _, rfl, _, _, rfl, rfl, ?_⟩
      have eg : goalV r p = .int (p + ((rSize r.k : Nat) : Int) + sgn (r.nm.getD 0 0)) := by
        unfold goalV goals
        rw [hk]
        show V.int (p + ((r.size : Nat) : Int) + _) = _
        rw [ho.sz, hk]
      rw [eg] at k
      exact k
    · refine ite2 (fun q => absurd (V.str.inj (of_decide_eq_true q)) (by revert hk; cases r.k <;> decide +kernel)) (fun _ => ?_)
      refine ⟨_, rfl, _, _, rfl, .inr (T.t_GOING _), rfl, rfl, _, rfl, ?_⟩
      by_cases hg : r.k = .jump ∨ r.k = .call ∨ r.k = .zero ∨ r.k = .same
      · have ei : inV (V.str r.k.str) [.str "jump", .str "call", .str "zero", .str "same"] = true := by
          rcases hg with e | e | e | e <;> rw [e] <;> decide +kernel
        have e := num0 ho (by rcases hg with e | e | e | e <;> rw [e] <;> rfl)
        rw [show (if (false : Bool) = true then !inV (V.str r.k.str) [.str "jump", .str "call", .str "zero", .str "same"] else inV (V.str r.k.str) [.str "jump", .str "call", .str "zero", .str "same"]) = true from ei]
        refine iteT ⟨_, rfl, n, _, _, _, rfl, rfl, SqL.of h3, (by rw [e]; exact atI_nat (j := 0) rfl), ?_⟩
        have eg : goalV r p = .int (r.nm.getD 0 0) := by
          unfold goalV goals
          rcases hg with e | e | e | e <;> rw [e]
        rw [eg] at k
        exact k
      · have ei : inV (V.str r.k.str) [.str "jump", .str "call", .str "zero", .str "same"] = false := by
          revert hg
          cases r.k <;> decide +kernel
        rw [show (if (false : Bool) = true then !inV (V.str r.k.str) [.str "jump", .str "call", .str "zero", .str "same"] else inV (V.str r.k.str) [.str "jump", .str "call", .str "zero", .str "same"]) = false from ei]
        refine iteF ?_
        have eg : goalV r p = .non := by
          unfold goalV goals
          revert hg hk
          cases r.k <;> simp
        rw [eg] at k
        exact k
def spLeads : Sp := fun vs H Q _ => ∃ (p : Int) (t b n : Addr) (r : Row), vs = [.int p, .ref t] ∧ RowT H t b n r ∧ Ok r ∧ ∀ (H' : Hp) (l : Addr), Same H H' → H l = none → H' l = some (.lst (il (leads r p))) → Q (.ref l) H'
theorem goals_cases (r : Row) (p : Int) : goals r p = [] ∨ ∃ g, goals r p = [g] := by
  unfold goals
  cases r.k <;> simp
theorem ok_leads_of (D : DefAt K mg "leads_of" sD_leads_of) (T : Txt w K mg) (c_row_size : Cal P w K mg base 1 "row_size" spSize []) (c_goal_of : Cal P w K mg base 2 "goal_of" spGoal []) : Cal P w K mg base 3 "leads_of" spLeads [] := by
  refine cal_of D sc_leads_of (fun _ _ _ _ _ _ us hl => match us, hl with | [_, _], _ => rfl) (fun vs H Q E h => ?_) (fun cdv A outer s H vs Q E hr h => ?_)
  · obtain ⟨p, t, b, n, r, rfl, _⟩ := h
    rfl
  · obtain ⟨p, t, b, n, r, rfl, ⟨h1, h2, h3⟩, ho, k⟩ := h
    refine ⟨_, (pss_cons (ps_set (i := 2) sc_leads_of.nd rfl (Or.inl rfl) (pe_c c_goal_of hr (by decide) (by rfl) (pa_cons (pv 0) (pa_cons (pv 1) pa_nil))))
  (pss_cut (ps_set (i := 3) sc_leads_of.nd rfl (Or.inl rfl) (pe_ifExp (pt_cmpR op_isN (pv 2) pe_non (nomark _)) (pe_lst pa_nil) (pe_lst (pa_cons (pv 2) pa_nil))))
  (pss_cut (ps_if (pt_cmpR op_notIn_seq (pe_ix ix_tup (pv 1) pe_int (fun _ _ => rfl)) (pe_gR (by rfl) T.g_NOT_BEHIND) (by rfl))
   (pss_one (ps_expr (pe_bm PySem.F.plainAttrs_list PySem.F.slot_list_append PySem.F.type_list_append mt_append (pv 3) (pa_cons (pe_op op_add (pv 0) (pe_c c_row_size hr (by decide) (by rfl) (pa_cons (pe_ix ix_tup (pv 1) pe_int (fun _ _ => rfl)) pa_nil))) pa_nil))))
   pss_nil)
  (pss_one (ps_ret (pv 3)))))), ?_⟩
    refine ⟨_, rfl, _, rfl, p, t, b, n, r, rfl, ⟨h1, h2, h3⟩, ho, ?_⟩
    refine ⟨fun σ' H' => ∃ l : Addr, σ' = [some (.int p), some (.ref t), some (goalV r p), some (.ref l)] ∧ H l = none ∧ H' = upd H l (.lst (il (goals r p))), ?_, ?_⟩
    · refine ⟨_, rfl, rfl, _, rfl, ?_⟩
      rcases goals_cases r p with e | ⟨g, e⟩
      · have eg : goalV r p = .non := by
          unfold goalV
          rw [e]
        rw [eg]
        refine iteT ⟨Nat.zero_le _, fun l hl => ⟨l, rfl, hl, ?_⟩⟩
        rw [e]
        rfl
      · have eg : goalV r p = .int g := by
          unfold goalV
          rw [e]
        rw [eg]
        refine iteF ⟨_, rfl, (by show 1 ≤ sizeLine; decide), fun l hl => ⟨l, rfl, hl, ?_⟩⟩
        rw [e]
        rfl
    · rintro σ' H' ⟨l, rfl, hl, rfl⟩
      have h1' := Same.new (o := .lst (il (goals r p))) hl _ _ h1
      refine ⟨fun σ' H' => σ' = [some (.int p), some (.ref t), some (goalV r p), some (.ref l)] ∧ H' = upd H l (.lst (il (leads r p))), ?_, ?_⟩
      · refine ⟨_, rfl, t, _, _, _, rfl, rfl, SqT.of h1', atI_nat (j := 0) rfl, _, _, rfl, .inr (T.t_NOT_BEHIND _), rfl, rfl, _, rfl, ?_⟩
        by_cases hn : r.k = .stop ∨ r.k = .back ∨ r.k = .jump ∨ r.k = .skip
        · have ei : inV (V.str r.k.str) [.str "stop", .str "back", .str "jump", .str "skip"] = true := by
            rcases hn with e | e | e | e <;> rw [e] <;> decide +kernel
          rw [show (if (true : Bool) = true then !inV (V.str r.k.str) [.str "stop", .str "back", .str "jump", .str "skip"] else inV (V.str r.k.str) [.str "stop", .str "back", .str "jump", .str "skip"]) = false from by rw [ei]; rfl]
          refine iteF ⟨rfl, ?_⟩
          have eo : onward r p = [] := by
            unfold onward
            rcases hn with e | e | e | e <;> rw [e]
          unfold leads
          rw [eo, List.append_nil]
        · have ei : inV (V.str r.k.str) [.str "stop", .str "back", .str "jump", .str "skip"] = false := by
            revert hn
            cases r.k <;> decide +kernel
          rw [show (if (true : Bool) = true then !inV (V.str r.k.str) [.str "stop", .str "back", .str "jump", .str "skip"] else inV (V.str r.k.str) [.str "stop", .str "back", .str "jump", .str "skip"]) = true from by rw [ei]; rfl]
          refine iteT ⟨_, rfl, .inl ⟨rfl, _, SqL.of upd_same⟩, _, rfl, _, rfl, t, _, _, _, rfl, rfl, SqT.of h1', atI_nat (j := 0) rfl, r.k, rfl, _, _, rfl, rfl, l, _, _, rfl, rfl, upd_same, ?_, rfl, ?_⟩
          · have hg : (goals r p).length ≤ 1 := by
              rcases goals_cases r p with e | ⟨g, e⟩ <;> rw [e] <;> simp
            rw [List.length_map]
            exact Nat.lt_of_le_of_lt hg (by decide)
          · have eo : onward r p = [p + ((rSize r.k : Nat) : Int)] := by
              unfold onward
              rw [ho.sz]
              revert hn
              cases r.k <;> simp
            unfold leads
            rw [upd_upd, eo, il_app]
      · rintro σ' H' ⟨rfl, rfl⟩
        exact ⟨_, rfl, k _ l (Same.new hl) hl upd_same⟩
end
end Rs
/-! dicts whose keys are pairs of ints: d != {}, min(d), d.pop(k), sorted(d); d.update(list of pairs) -/
namespace Rg
open PySem PySem.Spec PyProof.Rows L2
section
variable {prog : Program} {w : World} {A : Around} {E : Value → Shared → Prop} {s : Shared}
theorem ne_empty {a b : Addr} {es : Array DictEntry} {ep ep' : Nat} {Q : Value → Shared → Prop} (ha : (a == sysModules) = false) (hb : (b == sysModules) = false)
    (da : s.heap.DictRaw a es ep) (db : s.heap.DictRaw b #[] ep') (hu : A.units < cLine) (h : Q (.bool (decide (es.size ≠ 0))) s) :
    wpAny (model prog w) A (compareOp .NotEq (.ref a) (.ref b)) Q E s := by
  refine wpAny_richCompare_same_room (op := .NotEq) da.typeIs db.typeIs PySem.F.slot_dict_ne (wpAny_call_entry PySem.F.slot_dict_ne da.typeIs PySem.F.entry_dict_ne ?_ (PySem.F.args_dict_ne_2 _ _)) hu
  show wpAny _ _ (Builtin.Dict.dictSlotArgs "__ne__" ⟨[.ref a, .ref b], []⟩ >>= _) _ _ s
  refine wpAny_bind ?_
  unfold Builtin.Dict.dictSlotArgs
  refine wpAny_bind (wpAny_notOrdered_dict da.typeIs ?_)
  show wpAny _ _ (pure (Value.ref a, Value.ref b)) _ _ s
  refine wpAny_pure ?_
  refine wpAny_bind (wpAny_isInstance (T := "dict") db.typeIs PySem.F.sub_dict_dict ?_)
  simp only [Bool.not_true, Bool.false_eq_true, if_false]
  refine wpAny_bind (wpAny_pure (wpAny_bind (wpAny_pure ?_)))
  obtain ⟨oa, hoa, _, hda⟩ := da
  obtain ⟨ob, hob, _, hdb⟩ := db
  refine wpAny_bind (wpAny_mono (Q := fun r s' => r = decide (es.size = 0) ∧ s' = s) (E := E) ?_ (fun r s' z => ?_) fun _ _ e => e)
  · unfold Builtin.Dict.samePairs Builtin.Dict.showsAll
    rw [if_neg (show ¬ (a == sysModules) = true by rw [ha]; exact Bool.false_ne_true), if_neg (show ¬ (b == sysModules) = true by rw [hb]; exact Bool.false_ne_true)]
    refine wpAny_bind (wpAny_pure (wpAny_bind (wpAny_pure ?_)))
    refine wpAny_bind (wpAny_dictEntries hoa hda ?_)
    dsimp only
    refine wpAny_bind (wpAny_dictEntries hob hdb ?_)
    by_cases hsz : es.size = 0
    case neg =>
      rw [if_pos (by simpa using hsz)]
      exact wpAny_bind (wpAny_rule (wpAny_pure ⟨(decide_eq_false hsz).symm, rfl⟩))
    case pos =>
      rw [if_neg (by rw [hsz]; simp)]
      refine wpAny_bind (wpAny_dictEpoch hoa hda ?_)
      refine wpAny_bind ?_
      rw [Std.Legacy.Range.forIn_eq_forIn_range']
      simp only [Std.Legacy.Range.size, Nat.sub_zero, Nat.add_sub_cancel, Nat.div_one, hsz]
      simp only [List.range'_zero, List.forIn_nil]
      refine wpAny_pure ?_
      exact wpAny_pure ⟨by simp, rfl⟩
  · obtain ⟨rfl, rfl⟩ := z
    refine wpAny_pure ⟨_, rfl, ?_, ?_⟩
    · exact fun x => nomatch x
    · by_cases hsz : es.size = 0
      · simpa [hsz] using h
      · simpa [hsz] using h
end
def pk (p : Pt) : List L2.Key := [Sum.inl p.1, Sum.inl p.2]
theorem pk_inj {p q : Pt} (h : pk p = pk q) : p = q := by
  unfold pk at h
  simp at h
  exact Prod.ext h.1 h.2
theorem pk_tup (p : Pt) : (pk p).map kV = [V.int p.1, V.int p.2] := rfl
section
variable {X : Cx} {pins : List (Addr × Obj)} {σ : L2.St} {H : Hp} {s : Shared}
/-- the entries of such a dict: the keys' tuples in order -/
theorem dt_pairs {a : Addr} {kvs : List (List L2.Key × V)} {ps : List Pt} (ok : HOk X.prog X.w H s.heap) (ha : H a = some (.dT kvs)) (hk : kvs.map (·.1) = ps.map pk) :
    ∃ (es : Array DictEntry) (ep : Nat) (ts : List Addr), s.heap.DictRaw a es ep ∧ (a == sysModules) = false ∧ es.size = ps.length ∧ PrsAt H ts ps ∧ es.toList.map (·.key) = ts.map Value.ref ∧ ps.length ≤ sizeLine := by
  obtain ⟨z, hd, xs, rel, o, es, ep, ho, hx, hdat, hes, his, hn⟩ := dt_of ok ha
  have l1 : kvs.length = xs.length := Paired.length rel
  have l2 : kvs.length = ps.length := by
    have e := congrArg List.length hk
    rwa [List.length_map, List.length_map] at e
  have l3 : es.size = xs.length := by
    have e := congrArg List.length hes
    rwa [List.length_map, Array.length_toList] at e
  refine ⟨es, ep, xs.map (·.2.1), ⟨o, ho, hx, hdat⟩, hd, by omega, ⟨by rw [List.length_map]; omega, fun i t e h1 h2 => ?_⟩, ?_, by omega⟩
  · rw [List.getElem?_map] at h1
    cases q : xs[i]? with
    | none =>
      rw [q] at h1
      cases h1
    | some x =>
      rw [q] at h1
      cases h1
      obtain ⟨kv, hkv, _, r2, _⟩ := DX.pget rel q
      have e1 : (kvs.map (·.1))[i]? = some kv.1 := by rw [List.getElem?_map, hkv] <;> rfl
      rw [hk, List.getElem?_map, h2] at e1
      have e2 : pk e = kv.1 := Option.some.inj e1
      rw [r2, ← e2, pk_tup]
  · rw [hes, List.map_map, List.map_map]
    rfl
/-- d != {} -/
def rNeE : V → V → Hp → VK → Prop := fun x y H Q => ∃ (a b : Addr) (kvs : List (List L2.Key × V)), x = .ref a ∧ y = .ref b ∧ H a = some (.dT kvs) ∧ H b = some (.dK []) ∧ Q (.bl (decide (kvs ≠ []))) H
theorem op_neE (hu : X.A.units < cLine) : OpR X (compareOp .NotEq) rNeE := by
  intro pins s σ H x y v u Q I rx ry h
  obtain ⟨a, b, kvs, rfl, rfl, ea, eb, q⟩ := h
  obtain rfl : v = Value.ref a := rx
  obtain rfl : u = Value.ref b := ry
  obtain ⟨z, hd, xs, rel, o, es, ep, ho, hx, hdat, hes, his, hn⟩ := dt_of I.hok ea
  obtain ⟨_, hb, vs, r2, d2⟩ := dk_of I.hok eb
  obtain ⟨es2, ep2, hr2, hs2, _⟩ := Heap.DictOf.raw d2
  have v0 : vs = [] := by cases r2; rfl
  have e0 : es2 = #[] := by
    rw [v0] at hs2
    exact Array.eq_empty_of_size_eq_zero hs2
  rw [e0] at hr2
  have l1 : kvs.length = xs.length := Paired.length rel
  have l3 : es.size = xs.length := by
    have e := congrArg List.length hes
    rwa [List.length_map, Array.length_toList] at e
  refine ne_empty hd hb ⟨o, ho, hx, hdat⟩ hr2 hu ⟨.bl _, H, I, rfl, ?_⟩
  have e : decide (es.size ≠ 0) = decide (kvs ≠ []) := by
    refine decide_eq_decide.mpr ?_
    rw [l3, ← l1]
    exact not_congr List.length_eq_zero_iff
  rw [e]
  exact q
/-- min(d), d's keys pairs of ints: the key's own tuple -/
def rMinT : List V → Hp → VK → Prop := fun vs H Q => ∃ (a : Addr) (kvs : List (List L2.Key × V)) (p0 : Pt) (ps : List Pt), vs = [V.ref a] ∧ H a = some (.dT kvs) ∧ kvs.map (·.1) = (p0 :: ps).map pk ∧
  ∀ t : Addr, H t = some (.tup [.int (PySem.W.minOf p0 ps).1, .int (PySem.W.minOf p0 ps).2]) → Q (.ref t) H
theorem cr_minT (hc : X.calm = true) (hu : X.A.units + 2 < cLine) : CallR X (.builtin "min") rMinT := by
  intro pins s σ H vs us Q I r h
  obtain ⟨a, kvs, p0, ps, rfl, ha, hk, q⟩ := h
  rw [Vals.ref1 r]
  obtain ⟨es, ep, ts, raw, hsys, hsz, hp, hkey, hz⟩ := dt_pairs I.hok ha hk
  have hlt : a < s.heap.objs.size := by
    obtain ⟨o, ho, _⟩ := raw
    exact Heap.lt_size ho
  obtain ⟨as, rs⟩ := holdAll_of I.hok hp
  have rs2 : ReadsAll s.heap (es.map (·.key)).toList ((p0 :: ps).map PySem.W.Datum.toD) as := by
    rw [Array.toList_map, hkey]
    exact rs
  refine call_min_walkH (wpAny_pyIter_dict_raw hsys raw ?_)
  refine ⟨_, _, _, _, _, _, _, s.heap, fun i j => PySem.W.dataLt (((p0 :: ps).map PySem.W.Datum.toD).getD i .none) (((p0 :: ps).map PySem.W.Datum.toD).getD j .none), rfl, (Walks.rawKeys (A := X.A.in1) (I.ok.hd hc) s.heap.objs.size a (Nat.ne_of_lt hlt) es ep).toS, ⟨⟨_, Heap.get?_push_size _ rfl, rfl, rfl⟩, raw.at fun o e => Heap.get?_push_of_some _ e⟩, fun b hb => ?_, by rw [hsz]; exact Nat.succ_pos _, fun b o e hb => ?_, fun b o e => Heap.get?_push_of_some _ e, ?_, fun v s' hP m => ?_⟩
  · show b < (s.heap.push _).objs.size
    rw [Heap.size_push]
    rcases List.mem_cons.mp hb with e | hb
    · rw [e]
      exact Nat.lt_succ_self _
    · rw [List.mem_singleton.mp hb]
      exact Nat.lt_succ_of_lt hlt
  · exact absurd (Heap.lt_size e) ((List.mem_singleton.mp hb) ▸ Nat.lt_irrefl _)
  · intro i j vi vj s1 Q1 E1 hk1 ⟨hi, ei⟩ ⟨hj, ej⟩ hq1
    exact PySem.W.cmpIn_lt (A := X.A.in1) rs2 (PySem.W.alikeAll_datum (p0 :: ps)) (by
      have := PySem.W.depthAll_map (p0 :: ps)
      have e : PySem.W.Datum.depth Pt = 1 := rfl
      show X.A.units + 1 + _ < _
      omega) i j vi vj s1 Q1 E1 hk1 (by show (es.map (·.key))[i]? = some vi; rw [Array.getElem?_map, Array.getElem?_eq_getElem hi, ei] <;> rfl) (by show (es.map (·.key))[j]? = some vj; rw [Array.getElem?_map, Array.getElem?_eq_getElem hj, ej] <;> rfl) hq1
  · obtain ⟨h', tk, rfl, hk'⟩ := PySem.W.moved_old rfl rfl m
    obtain ⟨hi, rfl⟩ := hP
    have I1 : Inv X pins σ H { s with heap := h', toks := tk } := I.kept hk'
    have e1 : es.size - 1 = ps.length := by
      rw [hsz]
      rfl
    have e2 := PySem.W.argBest_fold PySem.W.dataLt PyData.none (PySem.W.Datum.toD p0) (ps.map PySem.W.Datum.toD) ps.length (by rw [List.length_map]; exact Nat.le_refl _)
    rw [show (ps.map PySem.W.Datum.toD).take ps.length = ps.map PySem.W.Datum.toD from List.take_of_length_le (by rw [List.length_map]; exact Nat.le_refl _)] at e2
    have e4 : (ps.map PySem.W.Datum.toD).foldl (fun a y => if PySem.W.dataLt y a then y else a) (PySem.W.Datum.toD p0) = PySem.W.Datum.toD (PySem.W.minOf p0 ps) := PySem.W.minD_map p0 ps
    rw [e4] at e2
    have e5 : argBest (fun i j => PySem.W.dataLt (((p0 :: ps).map PySem.W.Datum.toD).getD i .none) (((p0 :: ps).map PySem.W.Datum.toD).getD j .none)) (es.size - 1) = argBest (fun i j => PySem.W.dataLt ((PySem.W.Datum.toD p0 :: ps.map PySem.W.Datum.toD).getD i PyData.none) ((PySem.W.Datum.toD p0 :: ps.map PySem.W.Datum.toD).getD j PyData.none)) ps.length := by
      rw [e1]
      rfl
    generalize argBest (fun i j => PySem.W.dataLt (((p0 :: ps).map PySem.W.Datum.toD).getD i .none) (((p0 :: ps).map PySem.W.Datum.toD).getD j .none)) (es.size - 1) = n at hi e5 ⊢
    rw [← e5] at e2
    have hn : n < (p0 :: ps).length := by
      have := e2.1
      show n < ps.length + 1
      omega
    have hnt : n < ts.length := by
      rw [hp.1]
      exact hn
    have hkn : es[n].key = Value.ref ts[n] := by
      have e6 : (es.toList.map (·.key))[n]? = (ts.map Value.ref)[n]? := by rw [hkey]
      rw [List.getElem?_map, List.getElem?_map, List.getElem?_eq_getElem hnt, Array.getElem?_toList, Array.getElem?_eq_getElem hi] at e6
      exact Option.some.inj e6
    have ht := hp.2 n ts[n] (p0 :: ps)[n] (List.getElem?_eq_getElem hnt) (List.getElem?_eq_getElem hn)
    have e7 : PySem.W.Datum.toD (p0 :: ps)[n] = PySem.W.Datum.toD (PySem.W.minOf p0 ps) := by
      rw [← e2.2]
      show _ = (List.map PySem.W.Datum.toD (p0 :: ps)).getD n .none
      rw [List.getD_eq_getElem?_getD, List.getElem?_map, List.getElem?_eq_getElem hn] <;> rfl
    have e8 : (p0 :: ps)[n] = PySem.W.minOf p0 ps := by
      have a1 := PySem.W.Datum.eqv (p0 :: ps)[n] (PySem.W.minOf p0 ps)
      rw [e7, PySem.W.Datum.eqv] at a1
      exact of_decide_eq_true (a1.symm.trans (decide_eq_true rfl))
    rw [hkn]
    rw [e8] at ht
    exact ⟨.ref ts[n], H, I1, rfl, q _ ht⟩
/-- d.pop(t), d's keys tuples, t there -/
def rPopT : V → List V → Hp → VK → Prop := fun x xs H Q => ∃ (a b : Addr) (kvs : List (List L2.Key × V)) (k : List L2.Key) (v : V), x = .ref a ∧ xs = [.ref b] ∧ H a = some (.dT kvs) ∧ H b = some (.tup (k.map kV)) ∧ valV kvs k = some v ∧ Q v (upd H a (.dT (dropK kvs k)))
theorem meetsPop1 {prog : Program} {w : World} {K : Type} [DecidableEq K] {knd : HeapKind prog w K} {d b : Addr} {k : K} (hd : (d == sysModules) = false) :
    MeetsIn prog w (Builtin.«dict.pop» ⟨[.ref d, .ref b], []⟩) (fun A R s => ∃ xs p, knd.room A.in1 ∧ knd.is s.heap k b ∧ s.heap.DictOfH knd d xs ∧ xs.length ≤ sizeLine ∧ atKey xs k = some p ∧
      ∀ h' tk, h'.DictOfH knd d (DT.dropH xs k) → Heap.SameBut d s.heap h' → R (.ok (.ret p.2)) { s with heap := h', toks := tk }) :=
  .of_wp fun A R s ⟨xs, p0, hu, hkey, hm, hsz, hp0, hsome⟩ => by
    obtain ⟨o, es, ep, ho, hc, hdat, he, his, hn⟩ := id hm
    have hes : es.size = xs.length := size_of_entries he
    have hpart : (keyPart (Value.ref b)).isSome = false := rfl
    unfold Builtin.«dict.pop»
    refine wpAny_bind ?_
    unfold Builtin.Dict.keyAndDefault
    refine wpAny_bind (wpAny_notOrdered_dict hm.typeIs ?_)
    show wpAny _ _ (pure (d, Value.ref b, none)) _ _ s
    refine wpAny_pure ?_
    simp only [hpart, Bool.false_eq_true, if_false]
    refine wpAny_bind (wpAny_dictEntries ho hdat (wpAny_bind (wpAny_pure ?_)))
    cases hem : es.isEmpty with
    | true =>
      have h0 : xs = [] := by
        have z : es.size = 0 := by simpa using hem
        exact List.length_eq_zero_iff.mp (by omega)
      rw [h0] at hp0
      cases hp0
    | false =>
      simp only [Bool.false_eq_true, if_false]
      refine wpAny_bind (DT.takeH hu hkey hm hsz (fun hno => ?_) fun p e hp hev h' hm' hs' => ?_)
      · rw [hno] at hp0
        cases hp0
      · rw [hp] at hp0
        cases hp0
        simp only [Option.isNone_some, Bool.false_eq_true, if_false]
        exact wpAny_bind (wpAny_letGo (wpAny_pure ⟨e.val, rfl, by rw [hev]; exact hsome h' _ hm' hs'⟩))
theorem mt_popT1 (hu : X.A.units + 1 < cLine) : MtR X "dict.pop" rPopT := by
  intro pins s σ H x xs v us Q I rx rxs h
  obtain ⟨a, b, kvs, k, v0, rfl, rfl, ha, hb, hv, q⟩ := h
  cases rx
  obtain ⟨u1, rfl, r1⟩ := vals1 rxs
  cases r1
  obtain ⟨z, hd, xs', rel, dd⟩ := dt_of I.hok ha
  have hz : xs'.length ≤ sizeLine := by rw [← Paired.length rel]; exact z
  have r := rel.val k
  rw [hv] at r
  obtain ⟨p, hp, rp⟩ : ∃ p, atKey xs' k = some p ∧ RelV v0 p.2 := by
    cases q : atKey xs' k with
    | none =>
      rw [q] at r
      exact (show False from r).elim
    | some p =>
      rw [q] at r
      exact ⟨p, rfl, r⟩
  refine call_meetsIn PySem.F.slot_dict_pop dd.typeIs PySem.F.entry_dict_pop (PySem.F.args_dict_pop_2 _ _) (meetsPop1 (knd := tupleKind (mixKind X.prog X.w)) (k := k) hd)
    ⟨xs', p, tupleKind_room_in1 hu, key_of I.hok hb, dd, hz, hp, fun h' tk dd' hs => ?_⟩
  obtain ⟨o, es, ep, hq, h2, h3, h4, _, h5⟩ := dd'
  have I2 : Inv X pins σ (upd H a (.dT (dropK kvs k))) { s with heap := h', toks := tk } :=
    d_write I (by rw [ha]; exact True.intro) hs ⟨o, hq⟩ ⟨Nat.le_trans (dropK_le kvs k) z, hd, _, (DX.KT_drop k rel).keeps (fun c ys ec => (by rw [upd_ne (ne_of ec ha (fun z => nomatch z))]; exact ec)), o, es, ep, hq, h2, h3, h4, h5⟩
  show EP X pins σ Q p.2 _
  exact ⟨v0, _, I2, rp, q⟩
/-- sorted(d), d's keys pairs of ints -/
def rSortedT : List V → Hp → VK → Prop := fun xs H Q => ∃ (a : Addr) (kvs : List (List L2.Key × V)) (ps : List Pt), xs = [.ref a] ∧ H a = some (.dT kvs) ∧ kvs.map (·.1) = ps.map pk ∧
  ∀ (us : List Addr) (qs : List Pt) (p : Addr), qs.Perm ps → qs.Pairwise (fun x y => SrtO.lexB y x = false) → PrsAt H us qs → H p = none → Q (.ref p) (upd H p (.lst (us.map V.ref)))
/-- the two ints of a tracked tuple -/
def prOf (H : Hp) (t : Addr) : Pt := match H t with
  | some (.tup [.int a, .int b]) => (a, b)
  | _ => (0, 0)
theorem prOf_eq {H : Hp} {t : Addr} {e : Pt} (h : H t = some (.tup [.int e.1, .int e.2])) : prOf H t = e := by
  unfold prOf
  rw [h]
def refA : Value → Addr
  | .ref t => t
  | _ => 0
theorem prs_map {H : Hp} : ∀ {ts : List Addr} {ps : List Pt}, PrsAt H ts ps → ts.map (prOf H) = ps
  | [], [], _ => rfl
  | [], b :: s, p => by cases p.1
  | a :: r, [], p => by cases p.1
  | a :: r, b :: s, p => by
    rw [List.map_cons, prOf_eq (p.2 0 a b rfl rfl), prs_map (ts := r) (ps := s) ⟨by simpa using p.1, fun i t e h1 h2 => p.2 (i + 1) t e h1 h2⟩]
theorem prs_of {H : Hp} : ∀ (ts : List Addr), (∀ t ∈ ts, ∃ e : Pt, H t = some (.tup [.int e.1, .int e.2])) → PrsAt H ts (ts.map (prOf H))
  | ts, h => ⟨(List.length_map ..).symm, fun i t e h1 h2 => by
    rw [List.getElem?_map, h1] at h2
    obtain ⟨e', he⟩ := h t (List.mem_of_getElem? h1)
    rw [← Option.some.inj h2]
    show H t = some (.tup [.int (prOf H t).1, .int (prOf H t).2])
    rw [prOf_eq he]
    exact he⟩
theorem PrsAt.mem {H : Hp} {ts : List Addr} {ps : List Pt} (h : PrsAt H ts ps) {t : Addr} (m : t ∈ ts) : ∃ e : Pt, H t = some (.tup [.int e.1, .int e.2]) := by
  obtain ⟨i, hi, e⟩ := List.mem_iff_getElem.mp m
  have hl : i < ps.length := by
    rw [← h.1]
    exact hi
  exact ⟨_, h.2 i t ps[i] (by rw [List.getElem?_eq_getElem hi, e]) (List.getElem?_eq_getElem hl)⟩
theorem cr_sortedT (hcalm : X.calm = true) : CallR X (.builtin "sorted") rSortedT := by
  intro pins s σ H xs us Q I r q
  obtain ⟨a, kvs, ps, ex, hd, hks, q⟩ := q
  subst ex
  obtain ⟨u, eu, rx⟩ := vals1 r
  subst eu
  cases rx
  obtain ⟨es, ep, ts, raw, hsys, hsz, hp, hkey, hz⟩ := dt_pairs I.hok hd hks
  refine Calls.call_function_entry PyProof.Rows.kind_sorted PyProof.Rows.plain_sorted PyProof.Rows.entry_sorted (PyProof.Rows.args_sorted1 _) ?_
  unfold Builtin.«sorted»
  refine wpAny_bind (m := checkCount "sorted" 1 1 _) (wpAny_pure ?_)
  refine wpAny_bind (PySem.W.kdu_collect (A := X.A.in1) (KdlSrc.rawDict (es := es) (ep := ep) hsys) (I.ok.hd hcalm) raw (by rw [hsz]; exact hz) fun h' tk acc hk hacc => ?_)
  have hacc2 : acc.toList = ts.map Value.ref := by
    have l1 : acc.size = ts.length := by rw [hacc.1, hsz, hp.1]
    refine List.ext_getElem? fun j => ?_
    rw [Array.getElem?_toList]
    by_cases hj : j < ts.length
    · have hja : j < acc.size := by omega
      obtain ⟨hje, e1⟩ := hacc.2 j acc[j] (Array.getElem?_eq_getElem hja)
      rw [Array.getElem?_eq_getElem hja, e1]
      have e6 : (es.toList.map (·.key))[j]? = (ts.map Value.ref)[j]? := by rw [hkey]
      rw [← e6, List.getElem?_map, Array.getElem?_toList, Array.getElem?_eq_getElem hje] <;> rfl
    · rw [Array.getElem?_eq_none (by omega), List.getElem?_eq_none (by rw [List.length_map]; omega)]
  have I1 : Inv X pins σ H { s with heap := h', toks := tk } := I.kept hk
  have hal : acc.toList.length = ps.length := by rw [hacc2, List.length_map, hp.1]
  refine wpAny_bind (wpAny_newList ?_ (by rw [hal]; exact hz))
  have hoL : (h'.push (seqObj "list" acc.toList.toArray 0)).get? h'.objs.size = some (seqObj "list" acc.toList.toArray 0) := Heap.get?_push_size _ rfl
  show wpAny _ _ _ _ _ { s with heap := h'.push (seqObj "list" acc.toList.toArray 0), toks := tk }
  have hpr : ∀ v ∈ acc.toList, Srt.IsPair (h'.push (seqObj "list" acc.toList.toArray 0)) v (prOf H (refA v)).1 (prOf H (refA v)).2 := fun v hv => by
    rw [hacc2] at hv
    obtain ⟨t, ht, rfl⟩ := List.mem_map.mp hv
    obtain ⟨e, he⟩ := hp.mem ht
    show Srt.IsPair _ _ (prOf H t).1 (prOf H t).2
    rw [prOf_eq he]
    obtain ⟨_, its2, r2, o, ho, hc, n, hd⟩ := I1.hok _ _ he
    obtain ⟨u1, u2, rfl, ri, rj⟩ := vals2 r2
    obtain ⟨t1, rfl⟩ := ri
    obtain ⟨t2, rfl⟩ := rj
    exact ⟨t, o, t1, t2, n, rfl, Heap.get?_push_of_some _ ho, hc, hd⟩
  refine wpAny_bind (wpAny_holding (wpAny_call_entry PyProof.Rows.slot_list_sort ⟨_, hoL, rfl⟩ PyProof.Rows.entry_list_sort
    (SrtO.list_sort_ord (s := { s with heap := h'.push (seqObj "list" acc.toList.toArray 0), toks := tk }) (SrtO.swo_lex fun u => prOf H (refA u)) hoL (by rw [hal]; exact hz) (fun h2 => SrtO.pairs_sortableO (by omega) hpr fun o e => ?_) fun out g0 g00 => ⟨_, rfl, ?_⟩) (PyProof.Rows.args_list_sort _)))
  · have e' : some o = some (seqObj "list" acc.toList.toArray 0) := e.symm.trans hoL
    cases e'
    intro c
    exact absurd (Value.type.inj c) (by decide)
  · have hout : out = (out.map refA).map Value.ref := by
      rw [List.map_map]
      refine (List.map_id out).symm.trans (List.map_congr_left fun v hv => ?_)
      have := g00.perm.mem_iff.mp hv
      rw [hacc2] at this
      obtain ⟨t, _, rfl⟩ := List.mem_map.mp this
      rfl
    have hperm : (out.map refA).Perm ts := by
      have := g00.perm.map refA
      rw [hacc2, List.map_map] at this
      rwa [show ts.map (refA ∘ Value.ref) = ts from List.map_id ts] at this
    have hpu := prs_of (H := H) (out.map refA) fun t ht => hp.mem (hperm.mem_iff.mp ht)
    obtain ⟨e', he'⟩ := PyProof.Rows.sortedHeap_at (vs := acc.toList) (out := out.toArray) hoL
    have hlen : ((out.map refA).map V.ref).length ≤ sizeLine := by
      rw [List.length_map, hperm.length_eq, hp.1]
      exact hz
    refine wpAny_pure ⟨_, rfl, .ref h'.objs.size, upd H h'.objs.size (.lst ((out.map refA).map V.ref)), I1.laid (t' := tk) (fun b u e => ?_) (Nat.le_refl _)
      (show ObjOk X.prog X.w _ _ _ (.lst ((out.map refA).map V.ref)) from ⟨hlen, out, e', ?_, he'⟩), rfl, q (out.map refA) _ _ ?_ ?_ hpu (I1.hok.fresh (Nat.le_refl _))⟩
    · have hb : b < h'.objs.size := Heap.lt_size e
      rw [PyProof.Rows.sortedHeap_old (Nat.ne_of_lt hb) (by rw [size_push']; exact Nat.lt_succ_of_lt hb)]
      exact Heap.get?_push_of_some _ e
    · have rr : ∀ l : List Addr, Vals (l.map V.ref) (l.map Value.ref) := fun l => by
        induction l with
        | nil => exact .nil
        | cons a r ih => exact .cons rfl ih
      have := rr (out.map refA)
      rwa [← hout] at this
    · have := hperm.map (prOf H)
      rwa [prs_map hp] at this
    · rw [List.map_map]
      exact List.pairwise_map.mpr g0
end
end Rg
namespace Rs
open PySem PySem.Spec PyProof.Rows L2 C8
/-- the addresses of a walk: the object, its dict, rows, homes, apart -/
structure Wd where
  x : Addr
  dx : Addr
  r : Addr
  h : Addr
  a : Addr
def wf (A : Wd) : List (Str × V) := [("rows", .ref A.r), ("homes", .ref A.h), ("apart", .ref A.a)]
def RKV (H : Hp) (off : List Addr) (kvs : List (L2.Key × V)) (rows : List (Int × Row)) : Prop := kvs.length = rows.length ∧ ∀ (i : Nat) (kv : L2.Key × V) (e : Int × Row), kvs[i]? = some kv → rows[i]? = some e → ∃ t b n, kv = (Sum.inl e.1, .ref t) ∧ RowT H t b n e.2 ∧ b ∉ off ∧ n ∉ off
def homeOf (rows : List (Int × Row)) (q : Int) : Option V := (rows.find? fun e => decide (e.1 ≤ q ∧ q < e.1 + e.2.size)).map fun e => V.int e.1
/-- a dict with the pairs of a list, each once -/
def ApK (kvs : List (List L2.Key × V)) (ap : List Pt) : Prop := ∃ ps : List Pt, kvs.map (·.1) = ps.map Rg.pk ∧ ps.Nodup ∧ (∀ e, e ∈ ps ↔ e ∈ ap) ∧ ps.length ≤ ap.length
theorem pks_of {kvs : List (List L2.Key × V)} {ps : List Pt} (h : kvs.map (·.1) = ps.map Rg.pk) (k : Pt) : (valV kvs (Rg.pk k)).isSome = decide (k ∈ ps) := by
  induction kvs generalizing ps with
  | nil =>
    cases ps with
    | nil => rfl
    | cons a r => cases h
  | cons a r ih =>
    cases ps with
    | nil => cases h
    | cons b t =>
      rw [List.map_cons, List.map_cons] at h
      obtain ⟨h1, h2⟩ := List.cons.inj h
      by_cases q : a.1 = Rg.pk k
      · have e : b = k := Rg.pk_inj (h1.symm.trans q)
        rw [valV_pos q, decide_eq_true (by rw [e]; exact List.mem_cons_self)]
        rfl
      · have n : k ≠ b := fun z => q (by rw [h1, z])
        rw [valV_neg q, ih h2]
        exact decide_eq_decide.mpr ⟨fun z => List.mem_cons_of_mem _ z, fun z => (List.mem_cons.mp z).resolve_left n⟩
theorem ApK.put {kvs : List (List L2.Key × V)} {ap : List Pt} (h : ApK kvs ap) (k : Pt) (v : V) : ApK (putK kvs (Rg.pk k) v) (ap ++ [k]) := by
  obtain ⟨ps, h1, h2, h3, h4⟩ := h
  have key := pks_of h1 k
  by_cases q : k ∈ ps
  · rw [decide_eq_true q] at key
    refine ⟨ps, ?_, h2, fun e => ?_, by rw [List.length_append]; omega⟩
    · rw [← h1]
      unfold putK
      rw [valV_any, key, if_pos rfl, List.map_map]
      refine List.map_congr_left fun kv _ => ?_
      show (if kv.1 = Rg.pk k then (kv.1, v) else kv).1 = kv.1
      split <;> rfl
    · rw [h3, List.mem_append, List.mem_singleton]
      exact ⟨.inl, fun z => z.elim (fun y => y) (fun y => by rw [y]; exact (h3 k).mp q)⟩
  · rw [decide_eq_false q] at key
    have en : valV kvs (Rg.pk k) = none := by
      cases e : valV kvs (Rg.pk k) with
      | none => rfl
      | some v =>
        rw [e] at key
        cases key
    rw [putK_new _ en]
    refine ⟨ps ++ [k], ?_, ?_, fun e => ?_, by rw [List.length_append, List.length_append]; simp; omega⟩
    · rw [List.map_append, List.map_append, h1]
      rfl
    · rw [List.nodup_append]
      exact ⟨h2, List.nodup_cons.mpr ⟨(by simp), List.nodup_nil⟩, fun a ha b hb z => q (by rw [← List.mem_singleton.mp hb, ← z]; exact ha)⟩
    · rw [List.mem_append, List.mem_append, h3]
structure WAt (C : Addr) (H : Hp) (A : Wd) (off : List Addr) (rows : List (Int × Row)) (ap : List Pt) : Prop where
  x : H A.x = some (.ins C A.dx (wf A))
  r : ∃ kvs, H A.r = some (.dK kvs) ∧ RKV H off kvs rows
  h : ∃ hv, H A.h = some (.dK hv) ∧ hv.length ≤ 3 * rows.length ∧ ∀ q, valV hv (Sum.inl q) = homeOf rows q
  a : ∃ kvs, H A.a = some (.dT kvs) ∧ ApK kvs ap
  ne : A.r ≠ A.h
  ma : A.a ∈ off
def Keep (A : Wd) (H H' : Hp) : Prop := ∀ q o, H q = some o → q ≠ A.r → q ≠ A.h → q ≠ A.a → H' q = some o
theorem Keep.refl (A : Wd) (H : Hp) : Keep A H H := fun _ _ e _ _ _ => e
theorem Keep.trans {A : Wd} {H H1 H2 : Hp} (a : Keep A H H1) (b : Keep A H1 H2) : Keep A H H2 := fun q o e n1 n2 n3 => b q o (a q o e n1 n2 n3) n1 n2 n3
theorem Keep.same {A : Wd} {H H' : Hp} (s : Same H H') : Keep A H H' := fun q o e _ _ _ => s q o e
theorem RowT.mono {H H' : Hp} {t b n : Addr} {r : Row} (h : RowT H t b n r) (s : Same H H') : RowT H' t b n r := ⟨s _ _ h.1, s _ _ h.2.1, s _ _ h.2.2⟩
theorem RKV.mono {H H' : Hp} {off : List Addr} {kvs : List (L2.Key × V)} {rows : List (Int × Row)} (h : RKV H off kvs rows) (s : Same H H') : RKV H' off kvs rows :=
  ⟨h.1, fun i kv e h1 h2 => by
    obtain ⟨t, b, n, e1, e2, e3⟩ := h.2 i kv e h1 h2
    exact ⟨t, b, n, e1, e2.mono s, e3⟩⟩
theorem PrsAt_mono {H H' : Hp} {ts : List Addr} {L : List Pt} (h : Rg.PrsAt H ts L) (s : ∀ q xs, H q = some (.tup xs) → H' q = some (.tup xs)) : Rg.PrsAt H' ts L := ⟨h.1, fun i t e h1 h2 => s _ _ (h.2 i t e h1 h2)⟩
theorem WAt.mono {C : Addr} {H H' : Hp} {A : Wd} {off : List Addr} {rows : List (Int × Row)} {ap : List Pt} (h : WAt C H A off rows ap) (s : Same H H') : WAt C H' A off rows ap := by
  obtain ⟨kvs, r1, r2⟩ := h.r
  obtain ⟨hv, h1, h2⟩ := h.h
  obtain ⟨ts, a1, a2⟩ := h.a
  exact ⟨s _ _ h.x, ⟨kvs, s _ _ r1, r2.mono s⟩, ⟨hv, s _ _ h1, h2⟩, ⟨ts, s _ _ a1, a2⟩, h.ne, h.ma⟩
/-- with no row yet anything may be kept off -/
theorem WAt.with {C : Addr} {H : Hp} {A : Wd} {off off' : List Addr} {ap : List Pt} (h : WAt C H A off [] ap) (m : A.a ∈ off') : WAt C H A off' [] ap := by
  obtain ⟨kvs, r1, r2⟩ := h.r
  exact ⟨h.x, ⟨kvs, r1, r2.1, fun i kv e _ h2 => by cases h2⟩, h.h, h.a, h.ne, m⟩
theorem WAt.less {C : Addr} {H : Hp} {A : Wd} {off off' : List Addr} {rows : List (Int × Row)} {ap : List Pt} (h : WAt C H A off rows ap) (sub : ∀ q ∈ off', q ∈ off) (m : A.a ∈ off') : WAt C H A off' rows ap := by
  obtain ⟨kvs, r1, r2⟩ := h.r
  refine ⟨h.x, ⟨kvs, r1, r2.1, fun i kv e h1 h2 => ?_⟩, h.h, h.a, h.ne, m⟩
  obtain ⟨t, b, n, e1, e2, e5, e6⟩ := r2.2 i kv e h1 h2
  exact ⟨t, b, n, e1, e2, fun z => e5 (sub _ z), fun z => e6 (sub _ z)⟩
/-- a store to what is kept off -/
theorem WAt.put {C : Addr} {H H' : Hp} {A : Wd} {off : List Addr} {rows : List (Int × Row)} {ap : List Pt} {l : Addr} {xs : List V} (h : WAt C H A off rows ap) (hl : H l = some (.lst xs)) (ml : l ∈ off) (na : l ≠ A.a) (s : ∀ q u, H q = some u → q ≠ l → H' q = some u) : WAt C H' A off rows ap := by
  obtain ⟨kvs, r1, r2⟩ := h.r
  obtain ⟨hv, h1, h2⟩ := h.h
  obtain ⟨ts, a1, a2⟩ := h.a
  refine ⟨s _ _ h.x (ne_of h.x hl (fun z => by cases z)), ⟨kvs, s _ _ r1 (ne_of r1 hl (fun z => by cases z)), r2.1, fun i kv e k1 k2 => ?_⟩, ⟨hv, s _ _ h1 (ne_of h1 hl (fun z => by cases z)), h2⟩, ⟨ts, s _ _ a1 (ne_of a1 hl (fun z => by cases z)), a2⟩, h.ne, h.ma⟩
  obtain ⟨t, b, n, e1, ⟨e2, e3, e4⟩, e5, e6⟩ := r2.2 i kv e k1 k2
  exact ⟨t, b, n, e1, ⟨s _ _ e2 (ne_of e2 hl (fun z => by cases z)), s _ _ e3 (fun z => e5 (z ▸ ml)), s _ _ e4 (fun z => e6 (z ▸ ml))⟩, e5, e6⟩
/-- all that a store to rows, homes or apart leaves -/
theorem RKV.keep {H H' : Hp} {A : Wd} {off : List Addr} (ma : A.a ∈ off) {kvs0 hv0 : List (L2.Key × V)} {kvs : List (L2.Key × V)} {rows : List (Int × Row)} (h : RKV H off kvs rows) (hr : H A.r = some (.dK kvs0)) (hh : H A.h = some (.dK hv0)) {as : List (List L2.Key × V)} (ha : H A.a = some (.dT as)) (s : Keep A H H') : RKV H' off kvs rows :=
  ⟨h.1, fun i kv e h1 h2 => by
    obtain ⟨t, b, n, e1, ⟨e2, e3, e4⟩, e5, e6⟩ := h.2 i kv e h1 h2
    have nn : ∀ {q : Addr} {o : HO}, H q = some o → (∀ z, o ≠ .dK z) → q ≠ A.r ∧ q ≠ A.h := fun e z => ⟨ne_of e hr (z _), ne_of e hh (z _)⟩
    have n1 := nn e2 (fun z y => by cases y)
    have n2 := nn e3 (fun z y => by cases y)
    have n3 := nn e4 (fun z y => by cases y)
    exact ⟨t, b, n, e1, ⟨s _ _ e2 n1.1 n1.2 (ne_of e2 ha (fun y => by cases y)), s _ _ e3 n2.1 n2.2 (fun z => e5 (z ▸ ma)), s _ _ e4 n3.1 n3.2 (fun z => e6 (z ▸ ma))⟩, e5, e6⟩⟩
theorem rkv_find {H : Hp} {off : List Addr} {p : Int} : ∀ {kvs : List (L2.Key × V)} {rows : List (Int × Row)}, RKV H off kvs rows → (valV kvs (Sum.inl p)).isSome = isRow rows p
  | [], [], _ => rfl
  | [], e :: r, h => by cases h.1
  | kv :: k, [], h => by cases h.1
  | kv :: k, e :: r, h => by
    obtain ⟨t, b, n, e1, _⟩ := h.2 0 kv e rfl rfl
    have ih := rkv_find (p := p) (kvs := k) (rows := r) ⟨by simpa using h.1, fun i x y h1 h2 => h.2 (i + 1) x y h1 h2⟩
    subst e1
    unfold isRow at ih ⊢
    rw [List.any_cons, ← ih]
    by_cases q : e.1 = p
    · rw [valV_pos (p := (Sum.inl e.1, V.ref t)) (by rw [q]), decide_eq_true q]
      rfl
    · rw [valV_neg (p := (Sum.inl e.1, V.ref t)) (fun z => q (Sum.inl.inj z)), decide_eq_false q]
      rfl
theorem home_covers (rows : List (Int × Row)) (q : Int) : (homeOf rows q).isSome = covers rows q := by
  unfold homeOf covers
  rw [Option.isSome_map, Bool.eq_iff_iff, List.find?_isSome, List.any_eq_true]
theorem any_congr' {l : List Nat} {f g : Nat → Bool} (h : ∀ i ∈ l, f i = g i) : l.any f = l.any g := by
  induction l with
  | nil => rfl
  | cons a r ih => rw [List.any_cons, List.any_cons, h a List.mem_cons_self, ih fun i hi => h i (List.mem_cons_of_mem _ hi)]
theorem any_hits {hv : List (L2.Key × V)} {rows : List (Int × Row)} (h : ∀ q, valV hv (Sum.inl q) = homeOf rows q) (p : Int) (n : Nat) {ks : List L2.Key} (hk : ks = (List.range n).map fun (i : Nat) => Sum.inl (p + (i : Int))) :
    (List.range (ks.map kV).length).any (Rg.inAt hv ks) = hits rows p n := by
  subst hk
  rw [List.length_map, List.length_map, List.length_range]
  unfold hits
  refine any_congr' fun i hi => ?_
  unfold Rg.inAt
  rw [List.getElem?_map, List.getElem?_range (List.mem_range.mp hi)]
  show (valV hv (Sum.inl (p + (i : Int)))).isSome = _
  rw [h, home_covers]
theorem hits_one (rows : List (Int × Row)) (p : Int) : hits rows p 1 = covers rows p := by
  unfold hits
  simp
theorem prs_snoc {H : Hp} {ts : List Addr} {L : List Pt} {t : Addr} {e : Pt} (h : Rg.PrsAt H ts L) (ht : H t = some (.tup [.int e.1, .int e.2])) : Rg.PrsAt H (ts ++ [t]) (L ++ [e]) := by
  refine ⟨by rw [List.length_append, List.length_append, h.1] <;> rfl, fun i u d a b => ?_⟩
  by_cases q : i < ts.length
  · rw [List.getElem?_append_left q] at a
    rw [List.getElem?_append_left (by rw [← h.1]; exact q)] at b
    exact h.2 i u d a b
  · rw [List.getElem?_append_right (by omega)] at a
    rw [List.getElem?_append_right (by rw [← h.1]; omega), ← h.1] at b
    cases e : i - ts.length with
    | zero =>
      rw [e] at a b
      cases a
      cases b
      exact ht
    | succ j =>
      rw [e] at a
      cases a
theorem rkv_snoc {H : Hp} {off : List Addr} {kvs : List (L2.Key × V)} {rows : List (Int × Row)} {p : Int} {t b n : Addr} {r : Row} (h : RKV H off kvs rows) (ht : RowT H t b n r) (nb : b ∉ off) (nn : n ∉ off) : RKV H off (kvs ++ [(Sum.inl p, .ref t)]) (rows ++ [(p, r)]) := by
  refine ⟨by rw [List.length_append, List.length_append, h.1] <;> rfl, fun i u d x y => ?_⟩
  by_cases q : i < kvs.length
  · rw [List.getElem?_append_left q] at x
    rw [List.getElem?_append_left (by rw [← h.1]; exact q)] at y
    exact h.2 i u d x y
  · rw [List.getElem?_append_right (by omega)] at x
    rw [List.getElem?_append_right (by rw [← h.1]; omega), ← h.1] at y
    cases e : i - kvs.length with
    | zero =>
      rw [e] at x y
      cases x
      cases y
      exact ⟨t, b, n, rfl, ht, nb, nn⟩
    | succ j =>
      rw [e] at x
      cases x
theorem home_snoc {rows : List (Int × Row)} {p : Int} {r : Row} (hn : hits rows p r.size = false) (q : Int) : homeOf (rows ++ [(p, r)]) q = if p ≤ q ∧ q < p + (r.size : Int) then some (.int p) else homeOf rows q := by
  have key : covers rows q = true → ¬ (p ≤ q ∧ q < p + (r.size : Int)) := fun c z => by
    have : hits rows p r.size = true := by
      unfold hits
      refine List.any_eq_true.mpr ⟨(q - p).toNat, List.mem_range.mpr (by omega), ?_⟩
      have e : p + (((q - p).toNat : Nat) : Int) = q := by omega
      rw [e]
      exact c
    rw [hn] at this
    cases this
  unfold homeOf
  rw [List.find?_append]
  cases e : rows.find? (fun e => decide (e.1 ≤ q ∧ q < e.1 + e.2.size)) with
  | some x =>
    have c : covers rows q = true := by
      rw [← home_covers]
      unfold homeOf
      rw [e]
      rfl
    rw [if_neg (key c)]
    rfl
  | none =>
    by_cases z : p ≤ q ∧ q < p + (r.size : Int)
    · rw [if_pos z]
      simp [List.find?_cons, z]
    · rw [if_neg z]
      simp only [Option.none_or, List.find?_cons]
      rw [decide_eq_false z]
      rfl
/-- the class -/
structure TxtW (K : PySem.W.Frag) (C : Addr) : Prop where
  cl : Cls K C
  rows : NoAttr K C "rows"
  homes : NoAttr K C "homes"
  apart : NoAttr K C "apart"
section
variable {P : Program} {w : World} {K : PySem.W.Frag} {mg : Str → Option Value} {base : Heap} {C : Addr}
def spInitW (C : Addr) : Sp := fun vs H Q _ => ∃ (x dx : Addr), vs = [.ref x] ∧ H x = some (.ins C dx []) ∧ ∀ (H' : Hp) (A : Wd), A.x = x → WAt C H' A [A.a] [] [] → H A.r = none → H A.h = none → H A.a = none → Pr x H H' → Q .non H'
theorem ok_Winit {f : Addr} {fd : FuncData} (F : FnP K "__init__" "Walk.__init__" sD_Walkinit f fd) (M' : TxtW K C) : FnOk P w K mg base L2.CX0 1 f fd ["self"] (spInitW C) := by
  refine fnok_of F sc_Walkinit (fun vs H Q E h => ?_) (fun cdv Ar outer s H vs Q E hr h => ?_)
  · obtain ⟨x, dx, rfl, _⟩ := h
    rfl
  · obtain ⟨x, dx, rfl, hx, k⟩ := h
    refine ⟨_, (pss_cons (ps_fld (pv 0) pe_dnewK rfl)
  (pss_cons (ps_fld (pv 0) pe_dnewK rfl)
  (pss_one (ps_fld (pv 0) pe_dnewT rfl)))), ?_⟩
    refine fun r hr1 => ⟨_, rfl, x, C, dx, [], rfl, (upd_ne (ne_of_none hx hr1)).trans hx, M'.cl, M'.rows, (by show 0 < 1000; decide), ?_⟩
    have nr : x ≠ r := ne_of_none hx hr1
    have x1 : upd (upd H r (.dK [])) x (.ins C dx (putF "rows" (.ref r) [])) x = some (.ins C dx [("rows", .ref r)]) := upd_same
    have r1 : upd (upd H r (.dK [])) x (.ins C dx (putF "rows" (.ref r) [])) r = some (.dK []) := (upd_ne nr.symm).trans upd_same
    have p1 : Pr x H (upd (upd H r (.dK [])) x (.ins C dx (putF "rows" (.ref r) []))) := (Pr.add (fun q o e _ => e) hr1).at
    generalize upd (upd H r (.dK [])) x (.ins C dx (putF "rows" (.ref r) [])) = H1 at x1 r1 p1 ⊢
    refine fun h hh1 => ⟨_, rfl, x, C, dx, _, rfl, (upd_ne (ne_of_none x1 hh1)).trans x1, M'.cl, M'.homes, (by show 1 < 1000; decide), ?_⟩
    have nh : x ≠ h := ne_of_none x1 hh1
    have nrh : r ≠ h := ne_of_none r1 hh1
    have x2 : upd (upd H1 h (.dK [])) x (.ins C dx (putF "homes" (.ref h) [("rows", .ref r)])) x = some (.ins C dx [("rows", .ref r), ("homes", .ref h)]) := upd_same
    have r2 : upd (upd H1 h (.dK [])) x (.ins C dx (putF "homes" (.ref h) [("rows", .ref r)])) r = some (.dK []) := (upd_ne nr.symm).trans ((upd_ne nrh).trans r1)
    have h2 : upd (upd H1 h (.dK [])) x (.ins C dx (putF "homes" (.ref h) [("rows", .ref r)])) h = some (.dK []) := (upd_ne nh.symm).trans upd_same
    have p2 : Pr x H (upd (upd H1 h (.dK [])) x (.ins C dx (putF "homes" (.ref h) [("rows", .ref r)]))) := (p1.add hh1).at
    have zh : H h = none := p1.fresh x1 hh1
    generalize upd (upd H1 h (.dK [])) x (.ins C dx (putF "homes" (.ref h) [("rows", .ref r)])) = H2 at x2 r2 h2 p2 ⊢
    refine fun a ha1 => ⟨_, rfl, x, C, dx, _, rfl, (upd_ne (ne_of_none x2 ha1)).trans x2, M'.cl, M'.apart, (by show 2 < 1000; decide), ?_⟩
    have na : x ≠ a := ne_of_none x2 ha1
    have nra : r ≠ a := ne_of_none r2 ha1
    have nha : h ≠ a := ne_of_none h2 ha1
    have za : H a = none := p2.fresh x2 ha1
    refine k _ ⟨x, dx, r, h, a⟩ rfl ⟨upd_same, ⟨[], (upd_ne nr.symm).trans ((upd_ne nra).trans r2), rfl, fun i kv e h1 => by cases h1⟩, ⟨[], (upd_ne nh.symm).trans ((upd_ne nha).trans h2), Nat.zero_le _, fun q => rfl⟩, ⟨[], (upd_ne na.symm).trans upd_same, [], rfl, List.nodup_nil, fun _ => Iff.rfl, Nat.le_refl _⟩, nrh, List.mem_singleton.mpr rfl⟩ hr1 zh za ((p2.add ha1).at)
end
end Rs
namespace Rs
open PySem PySem.Spec PyProof.Rows L2 C8
section
variable {P : Program} {w : World} {K : PySem.W.Frag} {mg : Str → Option Value} {base : Heap} {C : Addr}
theorem rgV_il (p : Int) (m : Nat) : rgV p (p + (m : Int)) = il ((List.range m).map fun (i : Nat) => p + (i : Int)) := by
  unfold rgV il
  rw [show (p + (m : Int) - p).toNat = m by omega, List.map_map]
  rfl
/-- what come leaves: the walk behind the look, a list of where the place leads -/
def spLook (C : Addr) (Tb : Addr) : Sp := fun vs H Q _ => ∃ (A : Wd) (off : List Addr) (rows : List (Int × Row)) (ap : List Pt) (pw : Addr) (ws : List Int) (p o : Int), vs = [.ref A.x, .ref pw, .int p, .int o] ∧ WAt C H A off rows ap ∧ (∀ q ∈ off, H q ≠ none) ∧ H pw = some (.lst (il ws)) ∧ pw ≠ A.a ∧ ws.length ≤ 256 ∧ Bytes ws ∧
  rows.length ≤ 256 ∧ ap.length ≤ 10000 ∧ H Tb = some (Rg.TabO Tb) ∧
  ∀ (H' : Hp) (l : Addr), WAt C H' A off (lookP ws ⟨rows, [], ap⟩ (p, o)).rows (lookP ws ⟨rows, [], ap⟩ (p, o)).apart → Keep A H H' → H l = none → H' l = some (.lst (il ((lookP ws ⟨rows, [], ap⟩ (p, o)).wait.map (·.1)))) → Q (.ref l) H'
theorem ok_come (D : DefAt K mg "come" sD_come) (T : Txt w K mg) (M' : TxtW K C) (TB : Rg.TabB base mg (He.codeOf K ("come", none)) (tabAt K "come")) (c_row_size : Cal P w K mg base 1 "row_size" spSize []) (c_row_at : Cal P w K mg base 2 "row_at" (spRowAt K) []) (c_leads_of : Cal P w K mg base 3 "leads_of" spLeads []) :
    Cal P w K mg base 4 "come" (spLook C (tabAt K "come")) [] := by
  refine calT_of D sc_come (fun _ _ _ _ _ _ us hl => match us, hl with | [_, _, _, _], _ => rfl) (fun vs H Q E h => ?_) (fun Ar outer s H vs Q E hr h => ?_)
  · obtain ⟨A, off, rows, ap, pw, ws, p, o, rfl, _⟩ := h
    rfl
  · obtain ⟨A, off, rows, ap, pw, ws, p, o, rfl, hW, hoff, hpw, npa, hl, hb, hrl, hal, hT, k⟩ := h
    have hcd : (cxOf L2.CX0 P w K mg base N_come "come" (defScope sD_come) (He.ga K "come") (.ref (He.codeOf K ("come", none))) Ar outer s H E).nox.env.code = .ref (He.codeOf K ("come", none)) := rfl
    refine ⟨_, (pss_cut (ps_if (PW.pt (pw_or (pt_cmp (pc_din (hu_of hr) (pv 2) (pe_fld (pv 0) rfl))) (pw_or1 (pt_not (pt_chain op_le op_lt pe_int (pv 2) (pe_callB call_len_seq (by rfl) T.free_len (by decide +kernel) (pa_cons (pv 1) pa_nil)))))))
   (pss_one (ps_ret (pe_lst pa_nil)))
   pss_nil)
  (pss_cut (ps_set (i := 4) sc_come.nd rfl (Or.inl rfl) (pe_c c_row_at hr (by decide) (by rfl) (pa_cons (pv 1) (pa_cons (pv 2) pa_nil))))
  (pss_cut (ps_set (i := 5) sc_come.nd rfl (Or.inl rfl) (pe_listRg rfl (by rfl) T.free_list (prg_2 (by rfl) T.free_range (pv 2) (pe_op op_add (pv 2) (pe_ifExp (pt_cmpR op_isN (pv 4) pe_non (nomark _)) pe_int (pe_c c_row_size hr (by decide) (by rfl) (pa_cons (pe_ix ix_tup (pv 4) pe_int (fun _ _ => rfl)) pa_nil)))))))
  (pss_cons (ps_if (pt_val (Rg.pe_anyL hr (by rfl) T.free_any TB hcd (Rg.genT_by (sc := defScope sD_come) (by decide +kernel)) (pv 5) (fun _ => rfl)))
   (pss_cons (ps_dput (hu_of hr) (pe_fld (pv 0) rfl) (pe_tup (pa_cons (pv 3) (pa_cons (pv 2) pa_nil))) pe_bl rfl)
  (pss_one (ps_ret (pe_lst pa_nil))))
   pss_nil)
  (pss_cons (ps_if (pt_cmpR op_isN (pv 4) pe_non (nomark _))
   (pss_one (ps_ret (pe_lst pa_nil)))
   pss_nil)
  (pss_cons (ps_dput (hu_of hr) (pe_fld (pv 0) rfl) (pv 2) (pv 4) rfl)
  (pss_cut (ps_for PassesOwn.never rfl (pi_list (pv 5)) (pg_name (i := 6) sc_come.nd rfl (Or.inl rfl))
   (pss_one (ps_dput (hu_of hr) (pe_fld (pv 0) rfl) (pv 6) (pv 2) rfl)))
  (pss_one (ps_ret (pe_c c_leads_of hr (by decide) (by rfl) (pa_cons (pv 2) (pa_cons (pv 4) pa_nil)))))))))))), ?_⟩
    obtain ⟨kvs, hr1, hr2⟩ := hW.r
    obtain ⟨hv, hh1, hh2, hh3⟩ := hW.h
    obtain ⟨ts, ha1, ha2⟩ := hW.a
    -- out of the words, or a row already
    refine ⟨fun σ' H' => σ' = start N_come [.ref A.x, .ref pw, .int p, .int o] ∧ H = H' ∧ ¬ (¬ (0 ≤ p ∧ p < (ws.length : Int)) ∨ isRow rows p = true), ?_, ?_⟩
    · have out : (¬ (0 ≤ p ∧ p < (ws.length : Int)) ∨ isRow rows p = true) → ∀ l, H l = none → Q (.ref l) (upd H l (.lst [])) := fun c l hl => by
        have e : lookP ws ⟨rows, [], ap⟩ (p, o) = ⟨rows, [], ap⟩ := if_pos c
        rw [e] at k
        exact k _ l (hW.mono (Same.new hl)) (Keep.same (Same.new hl)) hl upd_same
      refine ⟨_, rfl, _, rfl, A.x, C, A.dx, wf A, _, rfl, hW.x, M'.cl, M'.rows, rfl, A.r, _, rfl, DGet.k (k := Sum.inl p) hr1, _, rfl, ?_⟩
      rw [rkv_find hr2]
      by_cases c1 : isRow rows p = true
      · rw [c1]
        exact iteT (iteT ⟨Nat.zero_le _, fun l hl => out (.inr c1) l hl⟩)
      · rw [Bool.eq_false_iff.mpr c1]
        refine iteF ?_
        refine ⟨_, rfl, _, _, rfl, rfl, _, rfl, ?_⟩
        by_cases h1 : 0 ≤ p
        · rw [decide_eq_true h1]
          refine iteT ⟨_, rfl, pw, _, rfl, .inl (SqL.of hpw), _, _, rfl, rfl, _, rfl, ?_⟩
          rw [List.length_map]
          by_cases h2 : p < (ws.length : Int)
          · rw [decide_eq_true h2]
            exact iteF ⟨rfl, rfl, fun z => z.elim (fun y => y ⟨h1, h2⟩) (fun y => by cases y)⟩
          · rw [decide_eq_false h2]
            exact iteT ⟨Nat.zero_le _, fun l hl => out (.inl fun y => h2 y.2) l hl⟩
        · rw [decide_eq_false h1]
          exact iteF ⟨_, rfl, iteT ⟨Nat.zero_le _, fun l hl => out (.inl fun y => h1 y.1) l hl⟩⟩
    · rintro σ' H' ⟨rfl, rfl, hc⟩
      have hin : 0 ≤ p ∧ p < (ws.length : Int) := Decidable.byContradiction fun z => hc (.inl z)
      have hnr : isRow rows p = false := Bool.eq_false_iff.mpr fun z => hc (.inr z)
      -- the row that lies there
      refine ⟨fun σ' H1 => ∃ rv : V, σ' = [some (.ref A.x), some (.ref pw), some (.int p), some (.int o), some rv, none, none] ∧ Same H H1 ∧ ((rowAt ws p = none ∧ rv = .non) ∨ ∃ r t b n, rowAt ws p = some r ∧ rv = .ref t ∧ RowT H1 t b n r ∧ H t = none ∧ H b = none ∧ H n = none), ?_, ?_⟩
      · exact ⟨_, rfl, _, rfl, pw, ws, p, rfl, SqL.of hpw, hl, fun e => ⟨_, rfl, Same.refl H, .inl ⟨e, rfl⟩⟩, fun r er H1 t b n s1 zt zb zn q1 q2 q3 => ⟨_, rfl, s1, .inr ⟨r, t, b, n, er, rfl, ⟨q1, q2, q3⟩, zt, zb, zn⟩⟩⟩
      rintro σ' H1 ⟨rv, rfl, s1, hrow⟩
      refine ⟨fun σ' H2 => ∃ (lp : Addr) (m : Nat), σ' = [some (.ref A.x), some (.ref pw), some (.int p), some (.int o), some rv, some (.ref lp), none] ∧ Same H1 H2 ∧ H1 lp = none ∧ H2 lp = some (.lst (il ((List.range m).map fun (i : Nat) => p + (i : Int)))) ∧ m ≤ 3 ∧
        ((rowAt ws p = none ∧ rv = .non ∧ m = 1) ∨ ∃ r t b n, rowAt ws p = some r ∧ rv = .ref t ∧ RowT H1 t b n r ∧ H t = none ∧ H b = none ∧ H n = none ∧ m = r.size), ?_, ?_⟩
      · refine ⟨_, rfl, _, rfl, _, rfl, rfl, _, rfl, ?_⟩
        rcases hrow with ⟨e, rfl⟩ | ⟨r, t, b, n, e, rfl, q, zt, zb, zn⟩
        · refine iteT ⟨_, _, rfl, rfl, _, _, rfl, rfl, ?_, fun lp hlp => ?_⟩
          · exact RgOk.of_le hin.1 (by omega) (by omega) (by omega)
          · exact ⟨lp, 1, rfl, Same.new hlp, hlp, by rw [← rgV_il]; exact upd_same, by decide, .inl ⟨e, rfl, rfl⟩⟩
        · refine iteF ⟨_, rfl, t, _, _, _, rfl, rfl, SqT.of q.1, atI_nat (j := 0) rfl, r.k, rfl, _, _, rfl, rfl, _, _, rfl, rfl, ?_, fun lp hlp => ?_⟩
          · have : rSize r.k ≤ 3 := by cases r.k <;> decide
            exact RgOk.of_le hin.1 (by omega) (by omega) (by omega)
          · have h3 : rSize r.k ≤ 3 := by cases r.k <;> decide
            refine ⟨lp, rSize r.k, rfl, Same.new hlp, hlp, by rw [← rgV_il]; exact upd_same, h3, .inr ⟨r, t, b, n, e, rfl, q, zt, zb, zn, (rowAt_ok hb e).sz.symm⟩⟩
      rintro σ' H2 ⟨lp, m, rfl, s2, zlp, hlp, hm3, hcase⟩
      have s02 := s1.trans s2
      have hW2 := hW.mono s02
      have hh2' := s02 _ _ hh1
      refine ⟨_, rfl, lp, _, _, rfl, SqL.of hlp, s02 _ _ hT, Rg.elt_inFld (j := 0) (a := A.x) (C := C) (dx := A.dx) (d := A.h) (fs := wf A) (kvs := hv) (ks := ((List.range m).map fun (i : Nat) => p + (i : Int)).map Sum.inl) rfl rfl (by decide) rfl rfl rfl rfl hW2.x M'.cl M'.homes rfl hh2' ?_ (fun _ _ => rfl), ?_⟩
      · rw [List.map_map]
        rfl
      refine ⟨_, rfl, ?_⟩
      have eh := any_hits hh3 p m (ks := ((List.range m).map fun (i : Nat) => p + (i : Int)).map Sum.inl) (by rw [List.map_map]; rfl)
      rw [show (((List.range m).map fun (i : Nat) => p + (i : Int)).map (Sum.inl : Int → L2.Key)).map kV = il ((List.range m).map fun (i : Nat) => p + (i : Int)) from by rw [List.map_map]; rfl] at eh
      rw [eh]
      have hr2' := s02 _ _ hr1
      have ha2' := s02 _ _ ha1
      have nra : A.r ≠ A.a := ne_of hr1 ha1 (fun z => by cases z)
      have nha : A.h ≠ A.a := ne_of hh1 ha1 (fun z => by cases z)
      have nxr : A.x ≠ A.r := ne_of hW.x hr1 (fun z => by cases z)
      have nxh : A.x ≠ A.h := ne_of hW.x hh1 (fun z => by cases z)
      have nxa : A.x ≠ A.a := ne_of hW.x ha1 (fun z => by cases z)
      -- a store to a.apart
      by_cases hit : hits rows p m = true
      · rw [hit]
        refine iteT ⟨_, rfl, A.x, C, A.dx, wf A, _, rfl, hW2.x, M'.cl, M'.apart, rfl, _, rfl, _, rfl, (by show 2 ≤ sizeLine; decide), fun t ht => ?_⟩
        have s3 := Same.new (o := .tup [V.int o, V.int p]) ht
        have nat : A.a ≠ t := ne_of_none ha2' ht
        refine ⟨A.a, _, rfl, DPut.t (k := Rg.pk (o, p)) (s3 _ _ ha2') upd_same ?_, Nat.zero_le _, fun l hl => ?_⟩
        · obtain ⟨ps, g1, _, _, g4⟩ := ha2
          have g5 : ts.length = ps.length := by
            have := congrArg List.length g1
            rwa [List.length_map, List.length_map] at this
          exact Nat.lt_of_le_of_lt (show ts.length ≤ 10000 by omega) (by decide)
        have ea : lookP ws ⟨rows, [], ap⟩ (p, o) = ⟨rows, [], ap ++ [(o, p)]⟩ := by
          unfold lookP
          rw [if_neg hc]
          rcases hcase with ⟨e, _, rfl⟩ | ⟨r, _, _, _, e, _, _, _, _, _, rfl⟩
          · rw [e]
            rw [hits_one] at hit
            exact if_pos hit
          · rw [e]
            exact if_pos hit
        rw [ea] at k
        have zl : H l = none := by
          have h3 : upd H2 t (.tup [V.int o, V.int p]) l = none := by
            by_cases q : l = A.a
            · rw [q, upd_same] at hl
              cases hl
            · rw [upd_ne q] at hl
              exact hl
          exact (s02.trans s3).free h3
        have nal : A.a ≠ l := ne_of_none upd_same hl
        have kp : Keep A H (upd (upd (upd H2 t (.tup [V.int o, V.int p])) A.a (.dT (putK ts (Rg.pk (o, p)) (.bl true)))) l (.lst [])) := fun q u e n1 n2 n3 => by
          rw [upd_ne (ne_of_none e zl), upd_ne n3]
          exact s3 _ _ (s02 _ _ e)
        refine k _ l ⟨?_, ⟨kvs, ?_, hr2.keep hW.ma hr1 hh1 ha1 kp⟩, ⟨hv, ?_, hh2, hh3⟩, ⟨putK ts (Rg.pk (o, p)) (.bl true), ?_, ha2.put (o, p) (.bl true)⟩, hW.ne, hW.ma⟩ kp zl upd_same
        · exact kp _ _ hW.x nxr nxh nxa
        · rw [upd_ne (ne_of_none hr1 zl), upd_ne nra]
          exact s3 _ _ hr2'
        · rw [upd_ne (ne_of_none hh1 zl), upd_ne nha]
          exact s3 _ _ hh2'
        · rw [upd_ne nal, upd_same]
      · rw [Bool.eq_false_iff.mpr hit]
        refine iteF ?_
        have hitf : hits rows p m = false := Bool.eq_false_iff.mpr hit
        refine ⟨_, rfl, rfl, _, rfl, ?_⟩
        rcases hcase with ⟨er, rfl, rfl⟩ | ⟨r, t, b, n, er, rfl, hrt, zt, zb, zn, rfl⟩
        · -- no row lies there
          refine iteT ⟨Nat.zero_le _, fun l hl => ?_⟩
          have ea : lookP ws ⟨rows, [], ap⟩ (p, o) = ⟨rows, [], ap⟩ := by
            unfold lookP
            rw [if_neg hc, er]
            rw [hits_one] at hit
            exact if_neg hit
          rw [ea] at k
          exact k _ l (hW2.mono (Same.new hl)) (Keep.same (s02.trans (Same.new hl))) (s02.free hl) upd_same
        · refine ite2 (fun q => absurd (of_decide_eq_true q) (by intro z; cases z)) (fun _ => ?_)
          have ea : lookP ws ⟨rows, [], ap⟩ (p, o) = ⟨rows ++ [(p, r)], [] ++ (leads r p).map (fun q => (q, p)), ap⟩ := by
            unfold lookP
            rw [if_neg hc, er]
            exact if_neg hit
          rw [ea] at k
          have ho := rowAt_ok hb er
          have hrt2 := hrt.mono s2
          have ek : putK kvs (Sum.inl p) (V.ref t) = kvs ++ [(Sum.inl p, .ref t)] := putK_new _ (by
            have := rkv_find (p := p) hr2
            rw [hnr] at this
            exact Option.isNone_iff_eq_none.mp (by cases q : valV kvs (Sum.inl p) with
              | none => rfl
              | some v =>
                rw [q] at this
                cases this))
          refine ⟨_, rfl, _, rfl, A.x, C, A.dx, wf A, _, rfl, hW2.x, M'.cl, M'.rows, rfl, _, rfl, A.r, _, rfl, DPut.k (k := Sum.inl p) hr2' ?_, ?_⟩
          · rw [hr2.1]
            exact Nat.lt_of_le_of_lt hrl (by decide)
          rw [ek]
          have x3 : upd H2 A.r (.dK (kvs ++ [(Sum.inl p, .ref t)])) A.x = some (.ins C A.dx (wf A)) := (upd_ne nxr).trans hW2.x
          have r3 : upd H2 A.r (.dK (kvs ++ [(Sum.inl p, .ref t)])) A.r = some (.dK (kvs ++ [(Sum.inl p, .ref t)])) := upd_same
          have h3 : upd H2 A.r (.dK (kvs ++ [(Sum.inl p, .ref t)])) A.h = some (.dK hv) := (upd_ne hW.ne.symm).trans hh2'
          have lp3 : upd H2 A.r (.dK (kvs ++ [(Sum.inl p, .ref t)])) lp = some (.lst (il ((List.range r.size).map fun (i : Nat) => p + (i : Int)))) := (upd_ne (ne_of hlp hr2' (fun z => by cases z))).trans hlp
          have k3 : ∀ q u, H2 q = some u → q ≠ A.r → upd H2 A.r (.dK (kvs ++ [(Sum.inl p, .ref t)])) q = some u := fun q u e n => (upd_ne n).trans e
          generalize upd H2 A.r (.dK (kvs ++ [(Sum.inl p, .ref t)])) = H3 at x3 r3 h3 lp3 k3 ⊢
          have nlh : lp ≠ A.h := ne_of hlp hh2' (fun z => by cases z)
          refine ⟨fun σ' H4 => ∃ (y : Option V) (hv4 : List (L2.Key × V)), σ' = [some (.ref A.x), some (.ref pw), some (.int p), some (.int o), some (.ref t), some (.ref lp), y] ∧ (∀ q u, H3 q = some u → q ≠ A.h → H4 q = some u) ∧ H4 A.h = some (.dK hv4) ∧ hv4.length ≤ hv.length + r.size ∧
            ∀ q, valV hv4 (Sum.inl q) = if p ≤ q ∧ q < p + (r.size : Int) then some (.int p) else homeOf rows q, ?_, ?_⟩
          · refine ⟨_, rfl, lp, rfl, ⟨_, SqL.of lp3⟩, for_list (K := K) (a := lp) (xs := il ((List.range r.size).map fun (i : Nat) => p + (i : Int))) (fun i σ H4 => ∃ (y : Option V) (hv4 : List (L2.Key × V)), σ = [some (.ref A.x), some (.ref pw), some (.int p), some (.int o), some (.ref t), some (.ref lp), y] ∧ (∀ q u, H3 q = some u → q ≠ A.h → H4 q = some u) ∧ H4 A.h = some (.dK hv4) ∧ hv4.length ≤ hv.length + i ∧
              ∀ q, valV hv4 (Sum.inl q) = if p ≤ q ∧ q < p + (i : Int) then some (.int p) else homeOf rows q) ⟨_, hv, rfl, fun _ _ e _ => e, h3, Nat.le_refl _, fun q => ?_⟩ (fun i σ H4 _ ⟨y, hv4, _, e, _⟩ => SqL.of (e _ _ lp3 nlh)) ?_ ?_⟩
            · rw [if_neg (by omega)]
              exact hh3 q
            · rintro i x σ H4 hx ⟨y, hv4, rfl, e4, hh4, hl4, hq4⟩
              obtain ⟨hi, rfl⟩ := ints_get hx
              rw [List.length_map, List.length_range] at hi
              have exi : ((List.range r.size).map fun (i : Nat) => p + (i : Int)).getD i 0 = p + (i : Int) := by
                rw [List.getD_eq_getElem?_getD, List.getElem?_map, List.getElem?_range hi]
                rfl
              rw [exi]
              refine ⟨_, rfl, _, rfl, A.x, C, A.dx, wf A, _, rfl, e4 _ _ x3 nxh, M'.cl, M'.homes, rfl, _, rfl, A.h, _, rfl, DPut.k (k := Sum.inl (p + (i : Int))) hh4 ?_, _, _, rfl, fun q u e z => ?_, upd_same, ?_, fun q => ?_⟩
              · have : hv4.length ≤ 3 * 256 + 3 := by omega
                exact Nat.lt_of_le_of_lt this (by decide)
              · rw [upd_ne z]
                exact e4 q u e z
              · have := length_putK hv4 (Sum.inl (p + (i : Int))) (V.int p)
                omega
              · rw [valV_put, hq4]
                by_cases q1 : q = p + (i : Int)
                · subst q1
                  rw [if_pos rfl, if_pos (by omega)]
                · rw [if_neg (fun z => q1 (Sum.inl.inj z))]
                  by_cases q2 : p ≤ q ∧ q < p + (i : Int)
                  · rw [if_pos q2, if_pos (by omega)]
                  · rw [if_neg q2, if_neg (by omega)]
            · rintro σ H4 ⟨y, hv4, rfl, e4, hh4, hl4, hq4⟩
              rw [List.length_map, List.length_map, List.length_range] at hl4
              rw [List.length_map, List.length_map, List.length_range] at hq4
              exact ⟨y, hv4, rfl, e4, hh4, hl4, hq4⟩
          · rintro σ' H4 ⟨y, hv4, rfl, e4, hh4, hl4, hq4⟩
            have up : ∀ q u, H2 q = some u → q ≠ A.r → q ≠ A.h → H4 q = some u := fun q u e n1 n2 => e4 q u (k3 q u e n1) n2
            have tr := ne_of hrt2.1 hr2' (fun z => by cases z)
            have th := ne_of hrt2.1 hh2' (fun z => by cases z)
            have br := ne_of hrt2.2.1 hr2' (fun z => by cases z)
            have bh := ne_of hrt2.2.1 hh2' (fun z => by cases z)
            have nr := ne_of hrt2.2.2 hr2' (fun z => by cases z)
            have nh := ne_of hrt2.2.2 hh2' (fun z => by cases z)
            have hrt4 : RowT H4 t b n r := ⟨up _ _ hrt2.1 tr th, up _ _ hrt2.2.1 br bh, up _ _ hrt2.2.2 nr nh⟩
            refine ⟨_, rfl, _, rfl, p, t, b, n, r, rfl, hrt4, ho, fun H5 l s5 zl hl5 => ?_⟩
            have kp : Keep A H H5 := fun q u e n1 n2 n3 => s5 _ _ (up q u (s02 _ _ e) n1 n2)
            have zlH : H l = none := by
              cases q : H l with
              | none => rfl
              | some u =>
                by_cases q1 : l = A.r
                · rw [q1] at zl
                  rw [e4 _ _ r3 hW.ne] at zl
                  cases zl
                · by_cases q2 : l = A.h
                  · rw [q2, hh4] at zl
                    cases zl
                  · rw [up l u (s02 _ _ q) q1 q2] at zl
                    cases zl
            refine k H5 l ⟨kp _ _ hW.x nxr nxh nxa, ⟨_, s5 _ _ (e4 _ _ r3 hW.ne), rkv_snoc (hr2.keep hW.ma hr1 hh1 ha1 kp) (hrt4.mono s5) (fun z => hoff b z zb) (fun z => hoff n z zn)⟩, ⟨hv4, s5 _ _ hh4, ?_, fun q => ?_⟩, ⟨ts, s5 _ _ (up _ _ ha2' nra.symm nha.symm), ha2⟩, hW.ne, hW.ma⟩ kp zlH ?_
            · rw [List.length_append]
              show hv4.length ≤ 3 * (rows.length + 1)
              omega
            · rw [home_snoc hitf]
              exact hq4 q
            · rw [hl5]
              simp
end
end Rs
namespace Rs
open PySem PySem.Spec PyProof.Rows L2 C8
theorem yesT {σ : L2.St} {H : Hp} {Q : Bool → Hp → Prop} (h : Q true H) : tYes σ H Q := h
theorem lt_pair (a b : Pt) : PySem.W.DatumOrd.lt a b = lt2 a b := by
  show (if a.1 = b.1 then decide (a.2 < b.2) else decide (a.1 < b.1)) = lt2 a b
  unfold lt2
  by_cases h : a.1 = b.1
  · rw [if_pos h]
    exact decide_eq_decide.mpr (by omega)
  · rw [if_neg h]
    exact decide_eq_decide.mpr (by omega)
theorem minOf_eq : ∀ (r : List Pt) (x : Pt), PySem.W.minOf x r = minP x r
  | [], x => rfl
  | y :: r, x => by
    show PySem.W.minOf (if PySem.W.DatumOrd.lt y x = true then y else x) r = minP (if lt2 y x = true then y else x) r
    rw [lt_pair, minOf_eq r]
theorem erase_at {l : List Pt} {m : Pt} (h : m ∈ l) : ∃ j, l[j]? = some m ∧ (∀ i, i < j → l[i]? ≠ some m) ∧ l.eraseIdx j = l.erase m := by
  induction l with
  | nil => cases h
  | cons a r ih =>
    by_cases e : a = m
    · exact ⟨0, by rw [e] <;> rfl, fun i hi => absurd hi (Nat.not_lt_zero _), by rw [e, List.erase_cons_head] <;> rfl⟩
    · have hr : m ∈ r := by
        rcases List.mem_cons.mp h with z | z
        · exact absurd z.symm e
        · exact z
      obtain ⟨j, h1, h2, h3⟩ := ih hr
      refine ⟨j + 1, h1, fun i hi => ?_, ?_⟩
      · match i, hi with
        | 0, _ => exact fun z => e (Option.some.inj z)
        | i + 1, hi => exact h2 i (by omega)
      · rw [List.erase_cons_tail (by rw [beq_iff_eq]; exact e), ← h3]
        rfl
theorem prs_erase {H : Hp} {ts : List Addr} {L : List Pt} (h : Rg.PrsAt H ts L) (j : Nat) : Rg.PrsAt H (ts.eraseIdx j) (L.eraseIdx j) := by
  refine ⟨by rw [List.length_eraseIdx, List.length_eraseIdx, h.1], fun i t e a b => ?_⟩
  rw [List.getElem?_eraseIdx] at a b
  by_cases q : i < j
  · rw [if_pos q] at a b
    exact h.2 i t e a b
  · rw [if_neg q] at a b
    exact h.2 (i + 1) t e a b
theorem prs_app {H : Hp} {ts us : List Addr} {L M : List Pt} (h : Rg.PrsAt H ts L) (g : Rg.PrsAt H us M) : Rg.PrsAt H (ts ++ us) (L ++ M) := by
  refine ⟨by rw [List.length_append, List.length_append, h.1, g.1], fun i t e a b => ?_⟩
  by_cases q : i < ts.length
  · rw [List.getElem?_append_left q] at a
    rw [List.getElem?_append_left (by rw [← h.1]; exact q)] at b
    exact h.2 i t e a b
  · rw [List.getElem?_append_right (by omega)] at a
    rw [List.getElem?_append_right (by rw [← h.1]; omega), ← h.1] at b
    exact g.2 _ t e a b
section
variable {P : Program} {w : World} {K : PySem.W.Frag} {mg : Str → Option Value} {base : Heap} {C : Addr}
def spWalked (C : Addr) (Tb : Addr) : Sp := fun vs H Q _ => ∃ (pw pb : Addr) (ws bs : List Int), vs = [.ref pw, .ref pb] ∧ H pw = some (.lst (il ws)) ∧ H pb = some (.lst (il bs)) ∧ ws.length ≤ 256 ∧ Bytes ws ∧ bs.length ≤ 16 ∧ H Tb = some (Rg.TabO Tb) ∧
  ∀ (H' : Hp) (A : Wd) (ap : List Pt), Same H H' → WAt C H' A [A.a] (trace ws bs).rows ap → (∀ e, e ∈ ap ↔ e ∈ (trace ws bs).apart) → ap.length ≤ 600 → H A.x = none → H A.r = none → H A.h = none → H A.a = none → Q (.ref A.x) H'
theorem ok_walked (D : DefAt K mg "walked" sD_walked) (T : Txt w K mg) (c_Walk : Mak P w K mg base 1 "Walk" C (spInitW C) []) (c_come : Cal P w K mg base 4 "come" (spLook C (tabAt K "come")) []) :
    Cal P w K mg base 5 "walked" (spWalked C (tabAt K "come")) [] := by
  refine cal_of D sc_walked (fun _ _ _ _ _ _ us hl => match us, hl with | [_, _], _ => rfl) (fun vs H Q E h => ?_) (fun cdv Ar outer s H vs Q E hr h => ?_)
  · obtain ⟨pw, pb, ws, bs, rfl, _⟩ := h
    rfl
  · obtain ⟨pw, pb, ws, bs, rfl, hpw, hpb, hl, hb, hbl, hT, k⟩ := h
    refine ⟨_, (pss_cons (ps_set (i := 2) sc_walked.nd rfl (Or.inl rfl) (pe_mk0 c_Walk hr (by decide) (by rfl)))
  (pss_cons (ps_setLc (i := 3) (own := [("begin", 8)]) (g := gName 8) (by rfl) sc_walked.nd rfl rfl (sw_true rfl rfl rfl (by decide +kernel)) (pi_list (pv 1)) (blkOk_by (own := [("begin", 8)]) (N := N_walked) (sc := defScope sD_walked) (by decide +kernel)) (fun _ _ _ _ _ => (pg_name (i := 8) sc_walked.nd rfl (Or.inl rfl))) (fun _ _ _ _ _ => pts_nil) (fun _ _ _ _ _ => (pe_tup (pa_cons (pv 8) (pa_cons (pe_gI (by rfl) T.g_BEGIN) pa_nil)))))
  (pss_cons (ps_while PassesOwn.never (pt_truth (pv 3) (by intro _; rfl))
   (pss_cons (ps_set (i := 4) sc_walked.nd rfl (Or.inl rfl) (pe_callB (Rg.cr_minP rfl (hu2_of hr)) (by rfl) T.free_min (by decide +kernel) (pa_cons (pv 3) pa_nil)))
  (pss_cons (ps_expr (pe_bm PySem.F.plainAttrs_list PySem.F.slot_list_remove PySem.F.type_list_remove (Rg.mt_remP (hu2_of hr)) (pv 3) (pa_cons (pv 4) pa_nil)))
  (pss_cons (ps_asg (pv 4) (pg_tup rfl (pgs_cons (pg_name (i := 5) sc_walked.nd rfl (Or.inr rfl)) (pgs_cons (pg_name (i := 6) sc_walked.nd rfl (Or.inl rfl)) pgs_nil))))
  (pss_cons (ps_set (i := 7) sc_walked.nd rfl (Or.inl rfl) (pe_c c_come hr (by decide) (by rfl) (pa_cons (pv 2) (pa_cons (pv 0) (pa_cons (pv 5) (pa_cons (pv 6) pa_nil))))))
  (pss_one (ps_expr (pe_bm PySem.F.plainAttrs_list PySem.F.slot_list_extend PySem.F.type_list_extend mt_extend (pv 3) (pa_cons (pe_lc (own := [("lead", 9)]) (g := gName 9) (by rfl) sc_walked.nd (pi_list (pv 7)) (blkOk_by (own := [("lead", 9)]) (N := N_walked) (sc := defScope sD_walked) (by decide +kernel)) (fun _ _ _ _ _ => (pg_name (i := 9) sc_walked.nd rfl (Or.inl rfl))) (fun _ _ _ _ _ => pts_nil) (fun _ _ _ _ _ => (pe_tup (pa_cons (pv 9) (pa_cons (pv 5) pa_nil))))) pa_nil)))))))))
  (pss_one (ps_ret (pv 2)))))), ?_⟩
    refine fun x dx nx ndx nex => ⟨x, dx, rfl, upd_same, fun H1 A ax hW fr fh fa pr => ⟨rfl, ?_⟩⟩
    have s0 : Same H (upd (upd H dx (.own x)) x (.ins C dx [])) := fun q o e => by
      rw [upd_ne (ne_of_none e nx), upd_ne (ne_of_none e ndx)]
      exact e
    have s1 : Same H H1 := fun q o e => pr q o (s0 q o e) (ne_of_none e nx)
    have zx : H A.x = none := by rw [ax]; exact nx
    have zr := s0.free fr
    have zh := s0.free fh
    have za := s0.free fa
    subst ax
    have hpb1 := s1 _ _ hpb
    refine ⟨_, rfl, pb, rfl, ⟨_, SqL.of hpb1⟩, fun lw hlw => ?_⟩
    have zw : H lw = none := s1.free hlw
    refine lc_list (K := K) (a := pb) (xs := il bs) (fun i H' => ∃ ts : List Addr, H' lw = some (.lst (ts.map V.ref)) ∧ Rg.PrsAt H' ts ((bs.take i).map fun b => (b, -1)) ∧ Same H1 H') ⟨[], upd_same, ⟨rfl, fun i t e h1 => by cases h1⟩, Same.new hlw⟩ (fun i H' _ ⟨ts, _, _, z⟩ => SqL.of (z _ _ hpb1)) ?_ ?_
    · rintro i v H' hv ⟨ts, h1, h2, h3⟩
      obtain ⟨hi, rfl⟩ := ints_get hv
      refine ⟨rfl, yesT ?_⟩
      refine iteT ⟨_, rfl, (by show 2 ≤ sizeLine; decide), fun t ht => ⟨_, Same.new ht _ _ h1, ?_, ts ++ [t], ?_, ?_, ?_⟩⟩
      · rw [List.length_map, h2.1, List.length_map, List.length_take]
        exact Nat.lt_of_le_of_lt (Nat.le_trans (Nat.min_le_right _ _) hbl) (by decide)
      · rw [upd_same, List.map_append]
        rfl
      · have nlt : lw ≠ t := ne_of_none h1 ht
        have e1 : (bs.take (i + 1)).map (fun b => ((b, -1) : Pt)) = (bs.take i).map (fun b => ((b, -1) : Pt)) ++ [(bs.getD i 0, -1)] := by
          rw [List.take_add_one, List.map_append, List.getD_eq_getElem?_getD, List.getElem?_eq_getElem hi]
          rfl
        rw [e1]
        refine prs_snoc (PrsAt_mono h2 fun q xs e => ?_) ?_
        · rw [upd_ne (ne_of (Same.new ht _ _ e) (Same.new (o := .tup [V.int (bs.getD i 0), V.int (-1)]) ht _ _ h1) (fun z => by cases z))]
          exact Same.new ht _ _ e
        · rw [upd_ne nlt.symm, upd_same]
      · intro q o e
        rw [upd_ne (ne_of_none e hlw)]
        exact Same.new ht _ _ (h3 _ _ e)
    rintro H2 ⟨ts, hw2, hp2, s2⟩
    rw [List.length_map, List.take_length] at hp2
    have s02 := s1.trans s2
    -- the loop
    refine ⟨fun n σ H' => ∃ (ts : List Addr) (t : TS) (y4 y5 y6 y7 y8 y9 : Option V), σ = [some (.ref pw), some (.ref pb), some (.ref A.x), some (.ref lw), y4, y5, y6, y7, y8, y9] ∧ Same H H' ∧ H' lw = some (.lst (ts.map V.ref)) ∧ lw ≠ A.a ∧ Rg.PrsAt H' ts t.wait ∧ WAt C H' A [A.a, lw] t.rows t.apart ∧ Beside ws bs t ∧ t.apart.length + tmu ws t ≤ 2 * ws.length + bs.length ∧ n = tmu ws t,
      ⟨_, ts, start0 bs, _, _, _, _, _, _, rfl, s02, hw2, (ne_of_none hW.a.choose_spec.1 hlw).symm, hp2, (hW.mono s2).with List.mem_cons_self, beside0 ws bs, ?_, rfl⟩, ?_⟩
    · unfold tmu start0
      simp
    rintro n σ H3 ⟨ts, t, y4, y5, y6, y7, y8, y9, rfl, s3, hw3, nwa, hp3, hW3, hbe, hmu, rfl⟩
    refine ⟨_, rfl, _, .inl ⟨_, SqL.of hw3, rfl⟩, ?_⟩
    cases hwt : t.wait with
    | nil =>
      have ets : ts = [] := by
        have := hp3.1
        rw [hwt] at this
        exact List.eq_nil_of_length_eq_zero this
      rw [ets]
      refine iteF ?_
      obtain ⟨e1, e2⟩ := beside_end hbe hwt
      rw [e1] at hW3
      exact ⟨_, rfl, k H3 A _ s3 (hW3.less (fun q hq => by rw [List.mem_singleton.mp hq]; exact List.mem_cons_self) (List.mem_singleton.mpr rfl)) e2 (by omega) zx zr zh za⟩
    | cons p0 ps =>
      have hne : ts ≠ [] := fun z => by
        have := hp3.1
        rw [z, hwt] at this
        cases this
      have ete : (ts.map V.ref).isEmpty = false := by
        cases ts with
        | nil => exact absurd rfl hne
        | cons a r => rfl
      rw [ete]
      refine iteT ⟨fun σ' H' => ∃ (ts' : List Addr) (y4 y5 y6 y7 y8 y9 : Option V), σ' = [some (.ref pw), some (.ref pb), some (.ref A.x), some (.ref lw), y4, y5, y6, y7, y8, y9] ∧ Same H H' ∧ H' lw = some (.lst (ts'.map V.ref)) ∧ Rg.PrsAt H' ts' (pstep ws t).wait ∧ WAt C H' A [A.a, lw] (pstep ws t).rows (pstep ws t).apart, ?_, ?_⟩
      · rintro σ' H' ⟨ts', y4, y5, y6, y7, y8, y9, rfl, q1, q2, q3, q4⟩
        obtain ⟨m1, m2⟩ := pstep_mu hbe hwt
        exact ⟨_, m1, ts', pstep ws t, _, _, _, _, _, _, rfl, q1, q2, nwa, q3, q4, beside_step hbe, by omega, rfl⟩
      · rw [pstep_eq hwt]
        dsimp only
        obtain ⟨hmm, _⟩ := minP_all (x := p0) (r := ps)
        refine ⟨_, rfl, lw, ts, p0, ps, rfl, SqL.of hw3, hwt ▸ hp3, fun i tm hi hpi => ?_⟩
        rw [minOf_eq] at hpi
        generalize minP p0 ps = mn at hmm hpi ⊢
        have htm : H3 tm = some (.tup [.int mn.1, .int mn.2]) := hp3.2 i tm mn hi (by rw [hwt]; exact hpi)
        obtain ⟨j, j1, j2, j3⟩ := erase_at (l := t.wait) (m := mn) (by rw [hwt]; exact hmm)
        refine ⟨_, rfl, .inl ⟨rfl, _, SqL.of hw3⟩, _, rfl, lw, tm, ts, t.wait, mn, j, rfl, rfl, hw3, hp3, htm, j1, j2, ?_⟩
        have nlt : tm ≠ lw := ne_of htm hw3 (fun z => by cases z)
        have w4 : upd H3 lw (.lst ((ts.eraseIdx j).map V.ref)) lw = some (.lst ((ts.eraseIdx j).map V.ref)) := upd_same
        have s4 : ∀ q u, H3 q = some u → q ≠ lw → upd H3 lw (.lst ((ts.eraseIdx j).map V.ref)) q = some u := fun q u e z => (upd_ne z).trans e
        generalize upd H3 lw (.lst ((ts.eraseIdx j).map V.ref)) = H4 at w4 s4 ⊢
        have s04 : Same H H4 := fun q o e => s4 q o (s3 _ _ e) (ne_of_none e zw)
        refine ⟨_, rfl, tm, _, rfl, SqT.of (s4 _ _ htm nlt), rfl, _, _, rfl, _, _, rfl, rfl, ?_⟩
        have hW4 := hW3.put hw3 (List.mem_cons_of_mem _ (List.mem_singleton.mpr rfl)) nwa s4
        have hp4 : Rg.PrsAt H4 (ts.eraseIdx j) (t.wait.erase mn) := by
          rw [← j3]
          exact prs_erase (PrsAt_mono hp3 fun q xs e => s4 q _ e (ne_of e hw3 (fun z => by cases z))) j
        have zpa : pw ≠ A.a := ne_of_none hpw za
        refine ⟨_, rfl, _, rfl, _, rfl, _, rfl, A, [A.a, lw], t.rows, t.apart, pw, ws, mn.1, mn.2, rfl, hW4, fun q hq => ?_, s04 _ _ hpw, zpa, hl, hb, Nat.le_trans (beside_len hbe) hl, by omega, s04 _ _ hT, fun H5 l hW5 kp zl hl5 => ?_⟩
        · rcases List.mem_cons.mp hq with z | z
          · obtain ⟨_, z2, _⟩ := hW4.a
            rw [z, z2]
            exact fun y => by cases y
          · rw [List.mem_singleton.mp z, w4]
            exact fun y => by cases y
        obtain ⟨en, ecs⟩ := lookP_new ws t.rows t.apart mn
        have lw2 : (lookP ws ⟨t.rows, [], t.apart⟩ mn).wait.length ≤ 2 := by
          rcases ecs with ⟨_, z, _⟩ | ⟨_, _, z, _⟩
          · rw [z]
            decide
          · exact z
        clear ecs
        rw [show (mn.1, mn.2) = mn from rfl] at hW5 hl5
        generalize lookP ws ⟨t.rows, [], t.apart⟩ mn = look at hW5 hl5 en lw2 ⊢
        obtain ⟨_, kr, _⟩ := hW4.r
        obtain ⟨_, kh, _⟩ := hW4.h
        have nlr : lw ≠ A.r := ne_of w4 kr (fun z => by cases z)
        have nlh : lw ≠ A.h := ne_of w4 kh (fun z => by cases z)
        have w5 : H5 lw = some (.lst ((ts.eraseIdx j).map V.ref)) := kp _ _ w4 nlr nlh nwa
        have s05 : Same H H5 := fun q o e => kp q o (s04 _ _ e) (ne_of_none e zr) (ne_of_none e zh) (ne_of_none e za)
        have hp5 : Rg.PrsAt H5 (ts.eraseIdx j) (t.wait.erase mn) := PrsAt_mono hp4 fun q xs e => kp q _ e (ne_of e kr (fun z => by cases z)) (ne_of e kh (fun z => by cases z)) (by
          obtain ⟨_, ka, _⟩ := hW4.a
          exact ne_of e ka (fun z => by cases z))
        have nll : l ≠ lw := (ne_of_none w4 zl).symm
        -- the new ones
        refine ⟨_, rfl, .inl ⟨rfl, _, SqL.of w5⟩, _, rfl, l, rfl, ⟨_, SqL.of hl5⟩, fun D2 hD2 => ?_⟩
        refine lc_list (K := K) (a := l) (xs := il (look.wait.map (·.1))) (fun i H' => ∃ us : List Addr, H' D2 = some (.lst (us.map V.ref)) ∧ Rg.PrsAt H' us ((look.wait.take i).map fun q => (q.1, mn.1)) ∧ Same H5 H') ⟨[], upd_same, ⟨rfl, fun i t e h1 => by cases h1⟩, Same.new hD2⟩ (fun i H' _ ⟨us, _, _, z⟩ => SqL.of (z _ _ hl5)) ?_ ?_
        · rintro i v H' hv ⟨us, h1, h2, h3⟩
          obtain ⟨hi, rfl⟩ := ints_get hv
          rw [List.length_map] at hi
          refine ⟨rfl, yesT ?_⟩
          refine iteT ⟨_, rfl, _, rfl, (by show 2 ≤ sizeLine; decide), fun t' ht => ⟨_, Same.new ht _ _ h1, ?_, us ++ [t'], ?_, ?_, ?_⟩⟩
          · rw [List.length_map, h2.1, List.length_map, List.length_take]
            exact Nat.lt_of_le_of_lt (Nat.le_trans (Nat.min_le_right _ _) lw2) (by decide)
          · rw [upd_same, List.map_append]
            rfl
          · have nlt : D2 ≠ t' := ne_of_none h1 ht
            have e0 : (look.wait.map (·.1)).getD i 0 = (look.wait[i]).1 := by
              rw [List.getD_eq_getElem?_getD, List.getElem?_map, List.getElem?_eq_getElem hi]
              rfl
            have e1 : (look.wait.take (i + 1)).map (fun q => ((q.1, mn.1) : Pt)) = (look.wait.take i).map (fun q => ((q.1, mn.1) : Pt)) ++ [((look.wait.map (·.1)).getD i 0, mn.1)] := by
              rw [List.take_add_one, List.map_append, List.getElem?_eq_getElem hi, e0]
              rfl
            rw [e1]
            refine prs_snoc (PrsAt_mono h2 fun q xs e => ?_) ?_
            · rw [upd_ne (ne_of (Same.new ht _ _ e) (Same.new (o := .tup [V.int ((look.wait.map (·.1)).getD i 0), V.int mn.1]) ht _ _ h1) (fun z => by cases z))]
              exact Same.new ht _ _ e
            · rw [upd_ne nlt.symm, upd_same]
          · intro q o e
            rw [upd_ne (ne_of_none e hD2)]
            exact Same.new ht _ _ (h3 _ _ e)
        rintro H6 ⟨us, hu6, hp6, s6⟩
        rw [List.length_map, List.length_map, List.take_length] at hp6
        have hp6' : Rg.PrsAt H6 us look.wait := by
          rw [en, List.map_map]
          exact hp6
        have w6 := s6 _ _ w5
        have hp56 : Rg.PrsAt H6 (ts.eraseIdx j) (t.wait.erase mn) := PrsAt_mono hp5 fun q xs e => s6 q _ e
        refine ⟨lw, D2, _, _, rfl, rfl, w6, hu6, ?_, ts.eraseIdx j ++ us, _, _, _, _, _, _, rfl, ?_, ?_, ?_, ?_⟩
        · rw [List.length_map, List.length_map, hp56.1, hp6'.1]
          have := List.length_erase_le (a := mn) (l := t.wait)
          have h7 : t.wait.length ≤ 600 := by
            unfold tmu at hmu
            omega
          exact Nat.le_trans (show (t.wait.erase mn).length + look.wait.length ≤ 602 by omega) (by decide)
        · intro q o e
          rw [upd_ne (ne_of_none e zw)]
          exact s6 _ _ (s05 _ _ e)
        · rw [upd_same, List.map_append]
        · exact PrsAt_mono (prs_app hp56 hp6') fun q xs e => (upd_ne (ne_of e w6 (fun z => by cases z))).trans e
        · exact (hW5.mono s6).put w6 (List.mem_cons_of_mem _ (List.mem_singleton.mpr rfl)) nwa fun q u e z => (upd_ne z).trans e
end
end Rs
namespace Rg
open PySem PySem.Spec PyProof.Rows L2
theorem list_of {α : Type} {P : Nat → α → Prop} : ∀ (n : Nat), (∀ j, j < n → ∃ x, P j x) → ∃ l : List α, l.length = n ∧ ∀ j x, l[j]? = some x → P j x
  | 0, _ => ⟨[], rfl, fun j x h => by cases h⟩
  | n + 1, h => by
    obtain ⟨l, hl, hp⟩ := list_of n fun j hj => h j (Nat.lt_succ_of_lt hj)
    obtain ⟨x, hx⟩ := h n (Nat.lt_succ_self n)
    refine ⟨l ++ [x], by rw [List.length_append, hl] <;> rfl, fun j y hy => ?_⟩
    by_cases q : j < l.length
    · rw [List.getElem?_append_left q] at hy
      exact hp j y hy
    · rw [List.getElem?_append_right (by omega)] at hy
      have hj : j - l.length = 0 := by
        have := (List.getElem?_eq_some_iff.mp hy).1
        simp at this
        omega
      rw [hj] at hy
      cases hy
      have e : j = n := by omega
      rw [e]
      exact hx
section
variable {X : Cx}
/-- d.update(xs), d a dict with int and text keys, xs a list of pairs -/
def rUpdP (K : PySem.W.Frag) : V → List V → Hp → VK → Prop := fun x xs H Q => ∃ (d a : Addr) (kvs0 : List (L2.Key × V)) (ps : List Addr) (kvs : List (L2.Key × V)), x = .ref d ∧ xs = [.ref a] ∧ H d = some (.dK kvs0) ∧ SqL K H a (ps.map V.ref) ∧ Paired (fun p kv => SqT K H p [kV kv.1, kv.2]) ps kvs ∧
  kvs0.length + kvs.length ≤ sizeLine ∧ Q .non (upd H d (.dK (mergeK kvs0 kvs)))
theorem mt_updP (hc : X.calm = true) : MtR X "dict.update" (rUpdP X.K) := by
  intro pins s σ H x xs v us Q I rx rxs h
  obtain ⟨d, a, kvs0, ps, kvs, rfl, rfl, hd, hS, hp, hz, q⟩ := h
  cases rx
  obtain ⟨u1, rfl, r1⟩ := vals1 rxs
  cases r1
  obtain ⟨_, hsys, vs0, rel0, dd⟩ := dk_of I.hok hd
  obtain ⟨its, rv, pl, hz2⟩ := I.list hS
  obtain rfl := vals_refs rv
  obtain ⟨prs, rel, hl, hpr⟩ := pairs_of I hp
  have hlk : kvs.length = prs.length := rel.length
  obtain ⟨vps, hvl, hvp⟩ := list_of (P := fun j (x : Value × Value) => ∃ (b : Addr) (key : L2.Key), ps[j]? = some b ∧ IsTup s.heap b #[x.1, x.2] ∧ prs[j]? = some (key, x.2) ∧ keyIs key x.1 = true) ps.length fun j hj => by
    have hj2 : j < prs.length := by omega
    obtain ⟨b, u, e1, e2, e3⟩ := hpr j prs[j] (List.getElem?_eq_getElem hj2)
    exact ⟨(u, prs[j].2), b, prs[j].1, e1, e2, List.getElem?_eq_getElem hj2, e3⟩
  have hdl : ∃ o es ep, s.heap.get? d = some o ∧ o.data = .dict es ep := by
    obtain ⟨o, es, ep, ho, _, hdat, _⟩ := dd
    exact ⟨o, es, ep, ho, hdat⟩
  obtain ⟨od, esd, epd, hod, hdatd⟩ := hdl
  obtain ⟨oa, na, hoa, hca, hda, hdata⟩ := pl
  refine call_update_pairs (knd := mixKind X.prog X.w) (acc := vs0) (kvs := prs) (PairArg.list a (ps.map Value.ref).toArray (fun j => ps.getD j 0) vps) (I.ok.hd hc) ⟨⟨oa, na, hoa, hca, hda, hdata⟩, ?_, fun j k v e => ?_⟩ (fun hm => ?_) ⟨by rw [hvl]; exact hl, fun i key v e => ?_⟩ dd (by rw [← rel0.length, hvl, ← hl, ← hlk]; exact hz) fun h' tk dd' hk => ?_
  · rw [List.size_toArray, List.length_map, hvl]
  · obtain ⟨b, ky, e1, ⟨o, ho, hcl, n, hdt⟩, e3, e4⟩ := hvp j (k, v) e
    have eb : ps.getD j 0 = b := by rw [List.getD_eq_getElem?_getD, e1] <;> rfl
    refine ⟨?_, .inl ⟨o, ?_, hcl, n, hdt⟩⟩
    · show (ps.map Value.ref).toArray[j]? = some (Value.ref (ps.getD j 0))
      rw [List.getElem?_toArray, List.getElem?_map, e1, eb] <;> rfl
    · show s.heap.get? (ps.getD j 0) = some o
      rw [eb]
      exact ho
  · rcases List.mem_cons.mp hm with e | hm
    · rw [← e, hod] at hoa
      cases hoa
      rw [hdatd] at hdata
      cases hdata
    · obtain ⟨j, hj, ej⟩ := List.mem_map.mp hm
      have hj2 : j < vps.length := List.mem_range.mp hj
      obtain ⟨b, ky, e1, ⟨o, ho, hcl, n, hdt⟩, _⟩ := hvp j vps[j] (List.getElem?_eq_getElem hj2)
      have eb : ps.getD j 0 = b := by rw [List.getD_eq_getElem?_getD, e1] <;> rfl
      rw [eb] at ej
      rw [ej, hod] at ho
      cases ho
      rw [hdatd] at hdt
      cases hdt
  · obtain ⟨b, ky, e1, _, e3, e4⟩ := hvp i (key, v) e
    exact ⟨ky, e3, e4⟩
  · have hlen : (mergeK kvs0 kvs).length ≤ sizeLine := Nat.le_trans (length_mergeK kvs kvs0) hz
    obtain ⟨o2, es2, ep2, ho2, r2⟩ := _root_.id dd'
    refine ⟨.non, _, I.write (x := d) (e := d) (o := .dK (mergeK kvs0 kvs)) (t' := tk) (by rw [hd]; exact True.intro) (.inl rfl) (fun b u hb e => hk b u hb (by simp) e) ⟨_, ho2⟩ (show ObjOk X.prog X.w _ _ _ (.dK (mergeK kvs0 kvs)) from ⟨hlen, hsys, _, KV.merge rel rel0, dd'⟩), rfl, q⟩
/-- sorted(xs), xs a list of pairs of ints -/
def rSortedP (K : PySem.W.Frag) : List V → Hp → VK → Prop := fun vs H Q => ∃ (a : Addr) (ts : List Addr) (ps : List Pt), vs = [V.ref a] ∧ SqL K H a (ts.map V.ref) ∧ PrsAt H ts ps ∧
  ∀ (us : List Addr) (qs : List Pt) (p : Addr), qs.Perm ps → qs.Pairwise (fun x y => SrtO.lexB y x = false) → PrsAt H us qs → H p = none → Q (.ref p) (upd H p (.lst (us.map V.ref)))
def refV : V → Addr
  | .ref t => t
  | _ => 0
theorem cr_sortedP : CallR X (.builtin "sorted") (rSortedP X.K) := by
  intro pins s σ H vs us Q I r h
  obtain ⟨a, ts, ps, rfl, hs, hp, q⟩ := h
  refine cr_sortedPO pins s σ H _ us Q I r ⟨a, ts.map V.ref, fun x => prOf H (refV x), rfl, hs, fun x hx => ?_, fun ys p h1 h2 hpn => ?_⟩
  · obtain ⟨t, ht, rfl⟩ := List.mem_map.mp hx
    obtain ⟨e, he⟩ := hp.mem ht
    refine ⟨t, rfl, ?_⟩
    show H t = some (.tup [.int (prOf H t).1, .int (prOf H t).2])
    rw [prOf_eq he]
    exact he
  · have hys : ys = (ys.map refV).map V.ref := by
      rw [List.map_map]
      refine (List.map_id ys).symm.trans (List.map_congr_left fun v hv => ?_)
      obtain ⟨t, _, rfl⟩ := List.mem_map.mp (h2.perm.mem_iff.mp hv)
      rfl
    have hperm : (ys.map refV).Perm ts := by
      have := h2.perm.map refV
      rw [List.map_map] at this
      rwa [show ts.map (refV ∘ V.ref) = ts from List.map_id ts] at this
    have hpu := prs_of (H := H) (ys.map refV) fun t ht => hp.mem (hperm.mem_iff.mp ht)
    rw [hys]
    refine q (ys.map refV) _ p ?_ ?_ hpu hpn
    · have := hperm.map (prOf H)
      rwa [prs_map hp] at this
    · rw [List.map_map]
      exact List.pairwise_map.mpr h1
end
end Rg
namespace Rs
open PySem PySem.Spec PyProof.Rows L2 C8
theorem hu0_of {A : Around} {k : Nat} (hr : Room k A) : A.units < cLine := by
  have := hr.un
  omega
/-- all but what is at off is kept -/
def Kp (off : List Addr) (H H' : Hp) : Prop := ∀ q u, H q = some u → q ∉ off → H' q = some u
theorem Kp.of {off : List Addr} {H H' : Hp} (s : Same H H') : Kp off H H' := fun q u e _ => s q u e
theorem Kp.trans {off : List Addr} {H H1 H2 : Hp} (a : Kp off H H1) (b : Kp off H1 H2) : Kp off H H2 := fun q u e n => b q u (a q u e n) n
theorem Kp.put {off : List Addr} {H H1 : Hp} {d : Addr} {o : HO} (a : Kp off H H1) (m : d ∈ off) : Kp off H (upd H1 d o) := fun q u e n => (upd_ne (fun z => n (by rw [z]; exact m))).trans (a q u e n)
theorem Kp.add {off : List Addr} {H H1 : Hp} {d : Addr} {o : HO} (a : Kp off H H1) (m : H1 d = none) : Kp off H (upd H1 d o) := fun q u e n => Same.new m _ _ (a q u e n)
theorem Kp.same {off : List Addr} {H H' : Hp} (a : Kp off H H') (h : ∀ q ∈ off, H q = none) : Same H H' := fun q u e => a q u e fun m => by
  rw [h q m] at e
  cases e
def Row4 (H : Hp) (t : Addr) (r : Row) : Prop := ∃ b n, H t = some (.tup [.str r.k.str, .ref b, .ref n, .int (r.size : Nat)]) ∧ H n = some (.lst (il r.nm))
def RK4 (H : Hp) (kvs : List (L2.Key × V)) (rows : List (Int × Row)) : Prop := kvs.length = rows.length ∧ ∀ (i : Nat) (kv : L2.Key × V) (e : Int × Row), kvs[i]? = some kv → rows[i]? = some e → ∃ t, kv = (Sum.inl e.1, .ref t) ∧ Row4 H t e.2
/-- what is kept off is a dict -/
def Dks (H : Hp) (off : List Addr) : Prop := ∀ q ∈ off, (∃ k, H q = some (.dK k)) ∨ ∃ k, H q = some (.dT k)
theorem Dks.tup {H : Hp} {off : List Addr} (h : Dks H off) {q : Addr} {xs : List V} (e : H q = some (.tup xs)) : q ∉ off := fun m => by
  rcases h q m with ⟨k, z⟩ | ⟨k, z⟩ <;> (rw [e] at z; cases z)
theorem Dks.lst {H : Hp} {off : List Addr} (h : Dks H off) {q : Addr} {xs : List V} (e : H q = some (.lst xs)) : q ∉ off := fun m => by
  rcases h q m with ⟨k, z⟩ | ⟨k, z⟩ <;> (rw [e] at z; cases z)
theorem Row4.kp {H H' : Hp} {off : List Addr} {t : Addr} {r : Row} (h : Row4 H t r) (d : Dks H off) (s : Kp off H H') : Row4 H' t r := by
  obtain ⟨b, n, h1, h2⟩ := h
  exact ⟨b, n, s _ _ h1 (d.tup h1), s _ _ h2 (d.lst h2)⟩
theorem RK4.kp {H H' : Hp} {off : List Addr} {kvs : List (L2.Key × V)} {rows : List (Int × Row)} (h : RK4 H kvs rows) (d : Dks H off) (s : Kp off H H') : RK4 H' kvs rows :=
  ⟨h.1, fun i kv e h1 h2 => by
    obtain ⟨t, e1, e2⟩ := h.2 i kv e h1 h2
    exact ⟨t, e1, e2.kp d s⟩⟩
theorem Dks.nil (H : Hp) : Dks H [] := fun q m => by cases m
theorem Kp.nil {H H' : Hp} (s : Same H H') : Kp [] H H' := fun q u e _ => s q u e
theorem RK4.mono {H H' : Hp} {kvs : List (L2.Key × V)} {rows : List (Int × Row)} (h : RK4 H kvs rows) (s : Same H H') : RK4 H' kvs rows := h.kp (Dks.nil H) (Kp.nil s)
theorem rk4_find {H : Hp} {p : Int} : ∀ {kvs : List (L2.Key × V)} {rows : List (Int × Row)}, RK4 H kvs rows → (valV kvs (Sum.inl p)).isSome = isRow rows p
  | [], [], _ => rfl
  | [], e :: r, h => by cases h.1
  | kv :: k, [], h => by cases h.1
  | kv :: k, e :: r, h => by
    obtain ⟨t, e1, _⟩ := h.2 0 kv e rfl rfl
    have ih := rk4_find (p := p) (kvs := k) (rows := r) ⟨by simpa using h.1, fun i x y h1 h2 => h.2 (i + 1) x y h1 h2⟩
    subst e1
    unfold isRow at ih ⊢
    rw [List.any_cons, ← ih]
    by_cases q : e.1 = p
    · rw [valV_pos (p := (Sum.inl e.1, V.ref t)) (by rw [q]), decide_eq_true q]
      rfl
    · rw [valV_neg (p := (Sum.inl e.1, V.ref t)) (fun z => q (Sum.inl.inj z)), decide_eq_false q]
      rfl
theorem rk4_snoc {H : Hp} {kvs : List (L2.Key × V)} {rows : List (Int × Row)} {p : Int} {t : Addr} {r : Row} (h : RK4 H kvs rows) (ht : Row4 H t r) : RK4 H (kvs ++ [(Sum.inl p, .ref t)]) (rows ++ [(p, r)]) := by
  refine ⟨by rw [List.length_append, List.length_append, h.1] <;> rfl, fun i u d x y => ?_⟩
  by_cases q : i < kvs.length
  · rw [List.getElem?_append_left q] at x
    rw [List.getElem?_append_left (by rw [← h.1]; exact q)] at y
    exact h.2 i u d x y
  · rw [List.getElem?_append_right (by omega)] at x
    rw [List.getElem?_append_right (by rw [← h.1]; omega), ← h.1] at y
    cases e : i - kvs.length with
    | zero =>
      rw [e] at x y
      cases x
      cases y
      exact ⟨t, rfl, ht⟩
    | succ j =>
      rw [e] at x
      cases x
/-! keys that are pairs -/
def KeysP (kvs : List (List L2.Key × V)) (w : List Pt) : Prop := kvs.map (·.1) = w.map Rg.pk
theorem keys_any {kvs : List (List L2.Key × V)} {w : List Pt} (h : KeysP kvs w) (x : Pt) : (kvs.any fun kv => decide (kv.1 = Rg.pk x)) = decide (x ∈ w) := by
  have e : (kvs.any fun kv => decide (kv.1 = Rg.pk x)) = (kvs.map (·.1)).any fun k => decide (k = Rg.pk x) := by rw [List.any_map]; rfl
  rw [e, show kvs.map (·.1) = w.map Rg.pk from h, List.any_map, Bool.eq_iff_iff, List.any_eq_true, decide_eq_true_iff]
  constructor
  · rintro ⟨y, h1, h2⟩
    have : y = x := Rg.pk_inj (of_decide_eq_true h2)
    rw [← this]
    exact h1
  · intro h1
    exact ⟨x, h1, decide_eq_true rfl⟩
theorem keys_put {kvs : List (List L2.Key × V)} {w : List Pt} (h : KeysP kvs w) (x : Pt) (v : V) : KeysP (putK kvs (Rg.pk x) v) (insP w x) := by
  unfold KeysP putK insP
  rw [keys_any h x]
  by_cases q : x ∈ w
  · rw [if_pos (decide_eq_true q), if_pos q, List.map_map, ← h]
    refine List.map_congr_left fun kv _ => ?_
    show (if kv.1 = Rg.pk x then (kv.1, v) else kv).1 = kv.1
    split <;> rfl
  · rw [if_neg (by rw [decide_eq_false q]; decide), if_neg q, List.map_append, List.map_append, h]
    rfl
theorem keys_drop {kvs : List (List L2.Key × V)} {w : List Pt} (h : KeysP kvs w) (x : Pt) : KeysP (dropK kvs (Rg.pk x)) (w.filter fun y => decide (y ≠ x)) := by
  unfold KeysP dropK at *
  have e1 : (kvs.filter fun kv => decide (kv.1 ≠ Rg.pk x)).map (·.1) = (kvs.map (·.1)).filter fun k => decide (k ≠ Rg.pk x) := by rw [List.filter_map]; rfl
  rw [e1, h, List.filter_map]
  congr 1
  refine List.filter_congr fun y _ => ?_
  show decide (Rg.pk y ≠ Rg.pk x) = decide (y ≠ x)
  exact decide_eq_decide.mpr ⟨fun z q => z (by rw [q]), fun z q => z (Rg.pk_inj q)⟩
theorem keys_len {kvs : List (List L2.Key × V)} {w : List Pt} (h : KeysP kvs w) : kvs.length = w.length := by
  have := congrArg List.length h
  rwa [List.length_map, List.length_map] at this
theorem keys_val {kvs : List (List L2.Key × V)} {w : List Pt} (h : KeysP kvs w) {x : Pt} (m : x ∈ w) : ∃ v, valV kvs (Rg.pk x) = some v := by
  have : (valV kvs (Rg.pk x)).isSome = true := by
    rw [← valV_any, keys_any h x, decide_eq_true m]
  exact Option.isSome_iff_exists.mp this
theorem rk4_keys {H : Hp} : ∀ {kvs : List (L2.Key × V)} {rows : List (Int × Row)}, RK4 H kvs rows → kvs.map (·.1) = (rows.map (·.1)).map Sum.inl
  | [], [], _ => rfl
  | [], e :: r, h => by cases h.1
  | kv :: k, [], h => by cases h.1
  | kv :: k, e :: r, h => by
    obtain ⟨t, e1, _⟩ := h.2 0 kv e rfl rfl
    have ih := rk4_keys (kvs := k) (rows := r) ⟨by simpa using h.1, fun i x y h1 h2 => h.2 (i + 1) x y h1 h2⟩
    rw [List.map_cons, List.map_cons, List.map_cons, ih, e1]
theorem valV_at {k : L2.Key} {v : V} : ∀ {kvs : List (L2.Key × V)} {i : Nat}, (kvs.map (·.1)).Nodup → kvs[i]? = some (k, v) → valV kvs k = some v
  | [], i, _, h => by cases h
  | a :: r, 0, _, h => by
    cases h
    exact valV_pos (p := (k, v)) rfl
  | a :: r, i + 1, nd, h => by
    rw [List.map_cons, List.nodup_cons] at nd
    have h2 : r[i]? = some (k, v) := h
    rw [valV_neg (p := a) (fun z => nd.1 (by rw [z]; exact List.mem_map.mpr ⟨_, List.mem_of_getElem? h2, rfl⟩))]
    exact valV_at nd.2 h2
theorem rk4_at {H : Hp} {kvs : List (L2.Key × V)} {rows : List (Int × Row)} {i : Nat} {p : Int} {v : V} (h : RK4 H kvs rows) (nd : (rows.map (·.1)).Nodup) (hi : kvs[i]? = some (Sum.inl p, v)) : valV kvs (Sum.inl p) = some v := by
  refine valV_at ?_ hi
  rw [rk4_keys h]
  exact List.pairwise_map.mpr (nd.imp fun z y => z (Sum.inl.inj y))
theorem merge_has {k : L2.Key} : ∀ (more kvs : List (L2.Key × V)), (valV (mergeK kvs more) k).isSome = ((valV kvs k).isSome || more.any fun kv => decide (kv.1 = k))
  | [], kvs => by simp [mergeK]
  | b :: r, kvs => by
    show (valV (mergeK (putK kvs b.1 b.2) r) k).isSome = _
    rw [merge_has r, valV_put, List.any_cons]
    by_cases h : b.1 = k
    · simp [h]
    · simp [h, Ne.symm h]
theorem span_any (p q : Int) (n : Nat) : (((List.range n).map fun (k : Nat) => ((Sum.inl (p + (0 + (k : Int))) : L2.Key), V.bl true)).any fun kv => decide (kv.1 = Sum.inl q)) = decide (p ≤ q ∧ q < p + (n : Int)) := by
  rw [List.any_map, Bool.eq_iff_iff, List.any_eq_true, decide_eq_true_iff]
  constructor
  · rintro ⟨k, h1, h2⟩
    have h3 : p + (0 + (k : Int)) = q := Sum.inl.inj (of_decide_eq_true h2)
    have := List.mem_range.mp h1
    omega
  · rintro ⟨h1, h2⟩
    refine ⟨(q - p).toNat, List.mem_range.mpr (by omega), decide_eq_true ?_⟩
    show (Sum.inl (p + (0 + (((q - p).toNat : Nat) : Int))) : L2.Key) = Sum.inl q
    rw [show p + (0 + (((q - p).toNat : Nat) : Int)) = q by omega]
theorem paired_snoc {α β : Type} {F : α → β → Prop} : ∀ {l : List α} {m : List β} {x : α} {y : β}, Paired F l m → F x y → Paired F (l ++ [x]) (m ++ [y])
  | _, _, _, _, .nil, h => .cons h .nil
  | _, _, _, _, .cons a b, h => .cons a (paired_snoc b h)
theorem paired_imp {α β : Type} {F G : α → β → Prop} (f : ∀ a b, F a b → G a b) : ∀ {l : List α} {m : List β}, Paired F l m → Paired G l m
  | _, _, .nil => .nil
  | _, _, .cons a b => .cons (f _ _ a) (paired_imp f b)
theorem paired_len {α β : Type} {F : α → β → Prop} : ∀ {l : List α} {m : List β}, Paired F l m → l.length = m.length
  | _, _, .nil => rfl
  | _, _, .cons _ b => congrArg Nat.succ (paired_len b)
/-- where the law's own following stands -/
structure TAt (H : Hp) (dr dw da : Addr) (t : TS) : Prop where
  r : ∃ kr, H dr = some (.dK kr) ∧ RK4 H kr t.rows
  w : ∃ kw, H dw = some (.dT kw) ∧ KeysP kw t.wait
  a : ∃ ka, H da = some (.dT ka) ∧ KeysP ka t.apart
  ne : dw ≠ da
theorem TAt.mono {H H' : Hp} {dr dw da : Addr} {t : TS} (h : TAt H dr dw da t) (s : Same H H') : TAt H' dr dw da t := by
  obtain ⟨kr, r1, r2⟩ := h.r
  obtain ⟨kw, w1, w2⟩ := h.w
  obtain ⟨ka, a1, a2⟩ := h.a
  exact ⟨⟨kr, s _ _ r1, r2.mono s⟩, ⟨kw, s _ _ w1, w2⟩, ⟨ka, s _ _ a1, a2⟩, h.ne⟩
theorem tstep_sum {ws : List Int} {s : TS} (h : Fit ws s) (hw : s.wait ≠ []) : tmu ws (tstep ws s) < tmu ws s ∧ (tstep ws s).apart.length + tmu ws (tstep ws s) ≤ s.apart.length + tmu ws s := by
  have h1 := (tstep_fit h).2 hw
  have h2 : (tstep ws s).apart.length ≤ s.apart.length + 1 := by
    unfold tstep
    split
    · omega
    · unfold look
      split
      · dsimp only
        omega
      · split
        · split
          · exact insP_len _ _
          · dsimp only
            omega
        · split
          · exact insP_len _ _
          · dsimp only
            omega
  exact ⟨h1, by omega⟩
end Rs
namespace Rs
open PySem PySem.Spec PyProof.Rows L2 C8
/-! what is told of a following -/
def comeL (ws bs : List Int) : List (Int × Kd) := ((trace ws bs).rows.map fun e => (e.1, e.2.k)).mergeSort fun a b => decide (a.1 ≤ b.1)
def apartL (ws bs : List Int) : List Pt := (trace ws bs).apart.mergeSort fun a b => !lt2 b a
theorem comeL_mem {ws bs : List Int} {p : Int} : (∃ k, (p, k) ∈ comeL ws bs) ↔ RowsP (trace ws bs) p := by
  unfold comeL RowsP
  constructor
  · rintro ⟨k, h⟩
    obtain ⟨⟨q, r⟩, h1, h2⟩ := List.mem_map.mp (List.mem_mergeSort.mp h)
    obtain ⟨e1, e2⟩ := Prod.mk.inj h2
    have e3 : q = p := e1
    subst e3
    exact ⟨r, h1⟩
  · rintro ⟨r, h⟩
    exact ⟨r.k, List.mem_mergeSort.mpr (List.mem_map.mpr ⟨(p, r), h, rfl⟩)⟩
theorem apartL_mem {ws bs : List Int} {e : Pt} : e ∈ apartL ws bs ↔ e ∈ (trace ws bs).apart := List.mem_mergeSort
theorem look_apart {ws : List Int} {s : TS} {m : Pt} : (look ws s m).apart.length ≤ s.apart.length + 1 := by
  unfold look
  split
  · omega
  · split
    · split
      · exact insP_len _ _
      · omega
    · split
      · exact insP_len _ _
      · dsimp only
        omega
theorem tstep_apart {ws : List Int} {s : TS} : (tstep ws s).apart.length ≤ s.apart.length + 1 := by
  unfold tstep
  split
  · omega
  · exact look_apart
theorem traceN_apart {ws : List Int} : ∀ {n : Nat} {s : TS}, (traceN ws n s).apart.length ≤ s.apart.length + n
  | 0, s => Nat.le_refl _
  | n + 1, s => by
    have h1 := traceN_apart (ws := ws) (n := n) (s := tstep ws s)
    have h2 := tstep_apart (ws := ws) (s := s)
    show (traceN ws n (tstep ws s)).apart.length ≤ _
    omega
theorem apart_len (ws bs : List Int) : (apartL ws bs).length ≤ 2 * ws.length + bs.length := by
  have h := traceN_apart (ws := ws) (n := 2 * ws.length + bs.length) (s := begin0 bs)
  unfold apartL
  rw [List.length_mergeSort]
  have e : (begin0 bs).apart.length = 0 := rfl
  rw [e, Nat.zero_add] at h
  exact h
def PairsAt (H : Hp) (ts : List Addr) (L : List (Int × Kd)) : Prop := ts.length = L.length ∧ ∀ (i : Nat) (t : Addr) (e : Int × Kd), ts[i]? = some t → L[i]? = some e → H t = some (.tup [.int e.1, .str e.2.str])
abbrev ApartAt (H : Hp) (ts : List Addr) (L : List Pt) : Prop := Rg.PrsAt H ts L
def Handed (Tb : Addr) (H : Hp) (vs : List V) (ws bs : List Int) : Prop := H Tb = some (Rg.TabO Tb) ∧ ∃ a b : Addr, vs = [.ref a, .ref b] ∧ H a = some (.lst (il ws)) ∧ H b = some (.lst (il bs)) ∧ ws.length ≤ 256 ∧ Bytes ws ∧ bs.length ≤ 16 ∧ ∀ x ∈ bs, 0 ≤ x ∧ x ≤ 255
def spCome (Tb : Addr) : Sp := fun vs H Q _ => ∃ ws bs : List Int, Handed Tb H vs ws bs ∧ ∀ (H' : Hp) (p : Addr) (ts : List Addr), Same H H' → H p = none → H' p = some (.lst (ts.map V.ref)) → PairsAt H' ts (comeL ws bs) → Q (.ref p) H'
def spMid (Tb : Addr) : Sp := fun vs H Q _ => ∃ ws bs : List Int, Handed Tb H vs ws bs ∧ ∀ (H' : Hp) (p : Addr) (ts : List Addr), Same H H' → H p = none → H' p = some (.lst (ts.map V.ref)) → ApartAt H' ts (apartL ws bs) → Q (.ref p) H'
section
variable {P : Program} {w : World} {K : PySem.W.Frag} {mg : Str → Option Value} {base : Heap} {C : Addr}
def spCheckBs (K : PySem.W.Frag) : Sp := fun vs H Q _ => ∃ (a : Addr) (bs : List Int), vs = [.ref a] ∧ SqL K H a (il bs) ∧ bs.length ≤ 16 ∧ (∀ x ∈ bs, 0 ≤ x ∧ x ≤ 255) ∧ ∀ H', Same H H' → Q .non H'
theorem ok_check_begins (D : DefAt K mg "check_begins" sD_check_begins) (T : Txt w K mg) (c_is_whole : Cal P w K mg base 1 "is_whole" spWhole []) : Cal P w K mg base 2 "check_begins" (spCheckBs K) [] := by
  refine cal_of D sc_check_begins (fun _ _ _ _ _ _ us hl => match us, hl with | [_], _ => rfl) (fun vs H Q E h => ?_) (fun cdv A outer s H vs Q E hr h => ?_)
  · obtain ⟨a, ws, rfl, _⟩ := h
    rfl
  · obtain ⟨a, ws, rfl, hS, hl, hb, k⟩ := h
    refine ⟨_, (pss_one (ps_for PassesOwn.never rfl (pi_enum (by rfl) T.free_enumerate (pa_cons (pv 0) pa_nil)) (pg_tup rfl (pgs_cons (pg_name (i := 1) sc_check_begins.nd rfl (Or.inl rfl)) (pgs_cons (pg_name (i := 2) sc_check_begins.nd rfl (Or.inl rfl)) pgs_nil)))
   (pss_one (ps_if (PW.pt (pw_or (pt_cmpR op_ge (pv 1) (pe_gI (by rfl) T.g_BEGINS_MOST) (nomark _)) (pw_or1 (pt_not (pt_val (pe_c c_is_whole hr (by decide) (by rfl) (pa_cons (pv 2) (pa_cons (pe_gI (by rfl) T.g_WORD_MOST) pa_nil))))))))
   (pss_one ps_never)
   pss_nil)))), ?_⟩
    refine ⟨_, rfl, a, _, rfl, hS, for_it (walk_enum (K := K) (a := a) (xs := il ws)) (fun i σ H' => Same H H' ∧ ∃ x y, σ = [some (.ref a), x, y]) ⟨Same.refl _, _, _, rfl⟩ (fun i σ H' _ ⟨s, _⟩ => s.seq hS) ?_ (fun σ H' ⟨s, _⟩ => k _ s)⟩
    rintro i v σ H1 H2 hi ⟨s1, x, y, rfl⟩ ⟨T', x1, y1, rfl, hn, rfl, e1, e2⟩
    cases e1
    obtain ⟨hi2, rfl⟩ := ints_get e2
    have hby := hb _ (getD_mem hi2)
    refine ⟨T', _, rfl, SqT.of upd_same, rfl, _, _, rfl, _, _, rfl, rfl, ?_⟩
    refine ⟨_, rfl, _, _, rfl, rfl, _, rfl, ?_⟩
    have e0 : decide ((16 : Int) ≤ ((i : Nat) : Int)) = false := decide_eq_false (by omega)
    rw [e0]
    refine iteF ?_
    refine ⟨_, rfl, _, _, rfl, _, rfl, ?_⟩
    have e3 : decide (0 ≤ ws.getD i 0 ∧ ws.getD i 0 ≤ 255) = true := decide_eq_true hby
    rw [e3]
    exact iteF ⟨s1.add hn, _, _, rfl⟩
/-- the walk of what is handed in -/
def spChecked (C : Addr) (Tb : Addr) : Sp := fun vs H Q _ => ∃ ws bs : List Int, Handed Tb H vs ws bs ∧
  ∀ (H' : Hp) (A : Wd) (ap : List Pt), Same H H' → WAt C H' A [A.a] (trace ws bs).rows ap → (∀ e, e ∈ ap ↔ e ∈ (trace ws bs).apart) → ap.length ≤ 600 → H A.x = none → H A.r = none → H A.h = none → H A.a = none → Q (.ref A.x) H'
theorem ok_checked_walk (D : DefAt K mg "checked_walk" sD_checked_walk) (T : Txt w K mg) (c_check_words : Cal P w K mg base 2 "check_words" (spCheckW K) []) (c_check_begins : Cal P w K mg base 2 "check_begins" (spCheckBs K) [])
    (c_walked : Cal P w K mg base 5 "walked" (spWalked C (tabAt K "come")) []) : Cal P w K mg base 6 "checked_walk" (spChecked C (tabAt K "come")) [] := by
  refine cal_of D sc_checked_walk (fun _ _ _ _ _ _ us hl => match us, hl with | [_, _], _ => rfl) (fun vs H Q E h => ?_) (fun cdv A outer s H vs Q E hr h => ?_)
  · obtain ⟨ws, bs, ⟨_, a, b, rfl, _⟩, _⟩ := h
    rfl
  · obtain ⟨ws, bs, ⟨hT, a, b, rfl, ha, hb, hl, hy, hbl, hbv⟩, k⟩ := h
    refine ⟨_, (pss_cons (ps_expr (pe_c c_check_words hr (by decide) (by rfl) (pa_cons (pv 0) pa_nil)))
  (pss_cons (ps_expr (pe_c c_check_begins hr (by decide) (by rfl) (pa_cons (pv 1) pa_nil)))
  (pss_one (ps_ret (pe_c c_walked hr (by decide) (by rfl) (pa_cons (pv 0) (pa_cons (pv 1) pa_nil))))))), ?_⟩
    refine ⟨_, rfl, a, ws, rfl, SqL.of ha, hl, hy, fun H1 s1 => ?_⟩
    refine ⟨_, rfl, b, bs, rfl, SqL.of (s1 _ _ hb), hbl, hbv, fun H2 s2 => ?_⟩
    have s12 := s1.trans s2
    refine ⟨_, rfl, _, rfl, a, b, ws, bs, rfl, s12 _ _ ha, s12 _ _ hb, hl, hy, hbl, s12 _ _ hT, fun H3 A ap s3 hW e1 e2 z1 z2 z3 z4 => ?_⟩
    exact k H3 A ap (s12.trans s3) hW e1 e2 (s12.free z1) (s12.free z2) (s12.free z3) (s12.free z4)
theorem rkv_keys {H : Hp} {off : List Addr} : ∀ {kvs : List (L2.Key × V)} {rows : List (Int × Row)}, RKV H off kvs rows → kvs.map (·.1) = (rows.map (·.1)).map Sum.inl
  | [], [], _ => rfl
  | [], e :: r, h => by cases h.1
  | kv :: k, [], h => by cases h.1
  | kv :: k, e :: r, h => by
    obtain ⟨t, b, n, e1, _⟩ := h.2 0 kv e rfl rfl
    have ih := rkv_keys (kvs := k) (rows := r) ⟨by simpa using h.1, fun i x y h1 h2 => h.2 (i + 1) x y h1 h2⟩
    rw [List.map_cons, List.map_cons, List.map_cons, ih, e1]
theorem rkv_get {H : Hp} {off : List Addr} {p : Int} {r : Row} : ∀ {kvs : List (L2.Key × V)} {rows : List (Int × Row)}, RKV H off kvs rows → (rows.map (·.1)).Nodup → (p, r) ∈ rows → ∃ t b n, valV kvs (Sum.inl p) = some (.ref t) ∧ RowT H t b n r
  | [], [], _, _, m => by cases m
  | [], e :: r, h, _, _ => by cases h.1
  | kv :: k, [], h, _, _ => by cases h.1
  | kv :: k, e :: rs, h, nd, m => by
    obtain ⟨t, b, n, e1, e2, _⟩ := h.2 0 kv e rfl rfl
    subst e1
    rcases List.mem_cons.mp m with q | q
    · rw [← q] at e2 ⊢
      exact ⟨t, b, n, valV_pos (p := (Sum.inl p, V.ref t)) rfl, e2⟩
    · rw [List.map_cons, List.nodup_cons] at nd
      obtain ⟨t', b', n', q1, q2⟩ := rkv_get (kvs := k) (rows := rs) ⟨by simpa using h.1, fun i x y h1 h2 => h.2 (i + 1) x y h1 h2⟩ nd.2 q
      refine ⟨t', b', n', ?_, q2⟩
      rw [valV_neg (p := (Sum.inl e.1, V.ref t)) (fun z => nd.1 (by
        have : e.1 = p := Sum.inl.inj z
        rw [this]
        exact List.mem_map.mpr ⟨_, q, rfl⟩))]
      exact q1
theorem trace_nd (ws bs : List Int) : ((trace ws bs).rows.map (·.1)).Nodup := (traceN_fit (ws := ws) (n := 2 * ws.length + bs.length) (s := begin0 bs) ⟨by simp [begin0], fun e h => (by cases h)⟩).nd
/-- the places in order are those of what is told -/
theorem come_keys {ws bs ys : List Int} (h1 : ys.Perm ((trace ws bs).rows.map (·.1))) (h2 : ys.Pairwise (· ≤ ·)) : (comeL ws bs).map (·.1) = ys := by
  refine List.Perm.eq_of_pairwise (le := (· ≤ ·)) (fun a b _ _ x y => by omega) ?_ h2 ?_
  · rw [List.pairwise_map]
    have := List.pairwise_mergeSort (le := fun a b : Int × Kd => decide (a.1 ≤ b.1)) (fun a b c x y => by simp only [decide_eq_true_eq] at x y ⊢; omega) (fun a b => by simp only [Bool.or_eq_true, decide_eq_true_eq]; omega) ((trace ws bs).rows.map fun e => (e.1, e.2.k))
    exact this.imp fun z => of_decide_eq_true z
  · refine List.Perm.trans ?_ h1.symm
    have := (List.mergeSort_perm ((trace ws bs).rows.map fun e => (e.1, e.2.k)) (fun a b => decide (a.1 ≤ b.1))).map (·.1)
    rw [List.map_map] at this
    exact this
theorem pairs_snoc {H : Hp} {ts : List Addr} {L : List (Int × Kd)} {t : Addr} {e : Int × Kd} (h : PairsAt H ts L) (ht : H t = some (.tup [.int e.1, .str e.2.str])) : PairsAt H (ts ++ [t]) (L ++ [e]) := by
  refine ⟨by rw [List.length_append, List.length_append, h.1] <;> rfl, fun i u d a b => ?_⟩
  by_cases q : i < ts.length
  · rw [List.getElem?_append_left q] at a
    rw [List.getElem?_append_left (by rw [← h.1]; exact q)] at b
    exact h.2 i u d a b
  · rw [List.getElem?_append_right (by omega)] at a
    rw [List.getElem?_append_right (by rw [← h.1]; omega), ← h.1] at b
    cases e : i - ts.length with
    | zero =>
      rw [e] at a b
      cases a
      cases b
      exact ht
    | succ j =>
      rw [e] at a
      cases a
theorem pairs_mono {H H' : Hp} {ts : List Addr} {L : List (Int × Kd)} (h : PairsAt H ts L) (s : ∀ q xs, H q = some (.tup xs) → H' q = some (.tup xs)) : PairsAt H' ts L := ⟨h.1, fun i t e h1 h2 => s _ _ (h.2 i t e h1 h2)⟩
theorem come_len (ws bs : List Int) : (comeL ws bs).length ≤ ws.length := by
  unfold comeL
  rw [List.length_mergeSort, List.length_map]
  exact beside_len (s := trace ws bs) (bs := bs) ⟨2 * ws.length + bs.length, rfl, fun _ => Iff.rfl, fun _ h => h, fun _ h => .inl h⟩
theorem ok_come_to (D : DefAt K mg "come_to" sD_come_to) (T : Txt w K mg) (M' : TxtW K C) (c_checked_walk : Cal P w K mg base 6 "checked_walk" (spChecked C (tabAt K "come")) []) : Cal P w K mg base 7 "come_to" (spCome (tabAt K "come")) [] := by
  refine cal_of D sc_come_to (fun _ _ _ _ _ _ us hl => match us, hl with | [_, _], _ => rfl) (fun vs H Q E h => ?_) (fun cdv Ar outer s H vs Q E hr h => ?_)
  · obtain ⟨ws, bs, ⟨_, a, b, rfl, _⟩, _⟩ := h
    rfl
  · obtain ⟨ws, bs, hH, k⟩ := h
    obtain ⟨hT, a, b, rfl, hR⟩ := _root_.id hH
    refine ⟨_, (pss_cons (ps_set (i := 2) sc_come_to.nd rfl (Or.inr rfl) (pe_fld (pe_c c_checked_walk hr (by decide) (by rfl) (pa_cons (pv 0) (pa_cons (pv 1) pa_nil))) rfl))
  (pss_one (ps_ret (pe_lc (own := [("place", 3)]) (g := gName 3) (by rfl) sc_come_to.nd (pi_list (pe_callB (Rg.cr_sortedD rfl) (by rfl) T.free_sorted (by decide +kernel) (pa_cons (pv 2) pa_nil))) (blkOk_by (own := [("place", 3)]) (N := N_come_to) (sc := defScope sD_come_to) (by decide +kernel)) (fun _ _ _ _ _ => (pg_name (i := 3) sc_come_to.nd rfl (Or.inl rfl))) (fun _ _ _ _ _ => pts_nil) (fun _ _ _ _ _ => (pe_tup (pa_cons (pv 3) (pa_cons (pe_ix (r := rIxT K) ix_tup (pe_dget (hu_of hr) (pv 2) (pv 3) (fun _ _ => rfl)) pe_int (fun _ _ => rfl)) pa_nil)))))))), ?_⟩
    refine ⟨_, rfl, _, rfl, ws, bs, hH, fun H1 A ap s1 hW e1 e2 z1 z2 z3 z4 => ?_⟩
    obtain ⟨kvs, hr1, hr2⟩ := hW.r
    refine ⟨A.x, C, A.dx, wf A, _, rfl, hW.x, M'.cl, M'.rows, rfl, ?_⟩
    refine ⟨_, rfl, A.r, kvs, (trace ws bs).rows.map (·.1), rfl, .inl hr1, rkv_keys hr2, fun ys p hy1 hy2 hp => ?_⟩
    have ey := come_keys hy1 hy2
    subst ey
    have s2 := Same.new (o := .lst (il ((comeL ws bs).map (·.1)))) hp
    have hpl : upd H1 p (.lst (il ((comeL ws bs).map (·.1)))) p = some (.lst (il ((comeL ws bs).map (·.1)))) := upd_same
    have hr3 := s2 _ _ hr1
    have hr4 := hr2.mono s2
    have s12 := s1.trans s2
    generalize upd H1 p (.lst (il ((comeL ws bs).map (·.1)))) = H2 at s2 hpl hr3 hr4 s12 ⊢
    refine ⟨p, rfl, ⟨_, SqL.of hpl⟩, fun Dl hD => ?_⟩
    refine lc_list (K := K) (a := p) (xs := il ((comeL ws bs).map (·.1))) (fun i H' => ∃ ts : List Addr, H' Dl = some (.lst (ts.map V.ref)) ∧ PairsAt H' ts ((comeL ws bs).take i) ∧ Same H2 H') ⟨[], upd_same, ⟨rfl, fun i t e h1 => by cases h1⟩, Same.new hD⟩ (fun i H' _ ⟨ts, _, _, z⟩ => SqL.of (z _ _ hpl)) ?_ ?_
    · rintro i v H' hv ⟨ts, h1, h2, h3⟩
      obtain ⟨hi, rfl⟩ := ints_get hv
      rw [List.length_map] at hi
      have e0 : ((comeL ws bs).map (·.1)).getD i 0 = ((comeL ws bs)[i]).1 := by
        rw [List.getD_eq_getElem?_getD, List.getElem?_map, List.getElem?_eq_getElem hi]
        rfl
      rw [e0]
      have hm : (comeL ws bs)[i] ∈ comeL ws bs := List.getElem_mem hi
      obtain ⟨er, m1, m2⟩ := List.mem_map.mp (List.mem_mergeSort.mp hm)
      obtain ⟨t, b', n', g1, g2⟩ := rkv_get (p := er.1) (r := er.2) hr4 (trace_nd ws bs) m1
      have ep : ((comeL ws bs)[i]).1 = er.1 := by rw [← m2]
      have ek : ((comeL ws bs)[i]).2 = er.2.k := by rw [← m2]
      refine ⟨rfl, yesT ?_⟩
      refine iteT ⟨_, rfl, _, rfl, _, rfl, A.r, .ref t, rfl, ?_, t, _, _, _, rfl, rfl, SqT.of (h3 _ _ g2.1), atI_nat (j := 0) rfl, (by show 2 ≤ sizeLine; decide), fun t' ht => ⟨_, Same.new ht _ _ h1, ?_, ts ++ [t'], ?_, ?_, ?_⟩⟩
      · rw [ep, ← g1]
        exact DGet.k (k := Sum.inl er.1) (h3 _ _ hr3)
      · rw [List.length_map, h2.1, List.length_take]
        have := come_len ws bs
        have := hR.2.2.1
        exact Nat.lt_of_le_of_lt (Nat.le_trans (Nat.min_le_right _ _) (show (comeL ws bs).length ≤ 256 by omega)) (by decide)
      · rw [upd_same, List.map_append]
        rfl
      · have nlt : Dl ≠ t' := ne_of_none h1 ht
        have e1 : (comeL ws bs).take (i + 1) = (comeL ws bs).take i ++ [(comeL ws bs)[i]] := by
          rw [List.take_add_one, List.getElem?_eq_getElem hi]
          rfl
        rw [e1]
        refine pairs_snoc (pairs_mono h2 fun q xs e => ?_) ?_
        · rw [upd_ne (ne_of (Same.new ht _ _ e) (Same.new (o := .tup [V.int ((comeL ws bs)[i]).1, V.str er.2.k.str]) ht _ _ h1) (fun z => by cases z))]
          exact Same.new ht _ _ e
        · rw [upd_ne nlt.symm, upd_same, ek]
      · intro q o e
        rw [upd_ne (ne_of_none e hD)]
        exact Same.new ht _ _ (h3 _ _ e)
    rintro H3 ⟨ts, h1, h2, h3⟩
    rw [List.length_map, List.length_map, List.take_length] at h2
    exact k H3 Dl ts (s12.trans h3) (s12.free hD) h1 h2
end
end Rs
namespace Rs
open PySem PySem.Spec PyProof.Rows L2 C8
/-! data: lists of ints, of pairs -/
def dI (l : List Int) : List PyData := l.map PyData.int
def dP (l : List Pt) : List PyData := l.map fun e => PyData.tuple [.int e.1, .int e.2]
theorem dp_all {K : PySem.W.Frag} {H : Hp} : ∀ l : List Int, DpAll K H (il l) (dI l)
  | [] => .nil
  | a :: r => .cons (.int a) (dp_all r)
theorem dp_pairs {K : PySem.W.Frag} {H : Hp} : ∀ {ts : List Addr} {L : List Pt}, ApartAt H ts L → DpAll K H (ts.map V.ref) (dP L)
  | [], [], _ => .nil
  | [], b :: s, h => by cases h.1
  | a :: r, [], h => by cases h.1
  | a :: r, b :: s, h => .cons (.tup (SqT.of (h.2 0 a b rfl rfl)) (.cons (.int _) (.cons (.int _) .nil))) (dp_pairs ⟨by simpa using h.1, fun i t e h1 h2 => h.2 (i + 1) t e h1 h2⟩)
theorem lay_ints : ∀ l : List Int, PyData.canLayAll0 (dI l) = true
  | [] => rfl
  | a :: r => by
    show (PyData.canLay0 (.int a) && PyData.canLayAll0 (dI r)) = true
    rw [lay_ints r] <;> rfl
theorem depth_ints : ∀ l : List Int, PyData.depthAll (dI l) = 0
  | [] => rfl
  | a :: r => by
    show max (PyData.depth (.int a)) (PyData.depthAll (dI r)) = 0
    rw [depth_ints r] <;> rfl
theorem shaped_ints (l : List Int) : SeqAt.shaped (.list (dI l)) = true := by
  have h2 : PyData.depth (.list (dI l)) = 1 := by
    show PyData.depthAll (dI l) + 1 = 1
    rw [depth_ints]
  unfold SeqAt.shaped
  rw [show PyData.canLay0 (.list (dI l)) = true from lay_ints l, h2]
  rfl
theorem lay_pairs : ∀ l : List Pt, PyData.canLayAll0 (dP l) = true
  | [] => rfl
  | a :: r => by
    show (PyData.canLay0 (.tuple [.int a.1, .int a.2]) && PyData.canLayAll0 (dP r)) = true
    rw [lay_pairs r] <;> rfl
theorem depth_pairs : ∀ l : List Pt, PyData.depthAll (dP l) ≤ 1
  | [] => by decide
  | a :: r => by
    show max (PyData.depth (.tuple [.int a.1, .int a.2])) (PyData.depthAll (dP r)) ≤ 1
    have := depth_pairs r
    have e : PyData.depth (.tuple [.int a.1, .int a.2]) = 1 := rfl
    omega
theorem shaped_pairs (l : List Pt) : SeqAt.shaped (.list (dP l)) = true := by
  have h2 : PyData.depth (.list (dP l)) ≤ 64 := by
    show PyData.depthAll (dP l) + 1 ≤ 64
    have := depth_pairs l
    omega
  unfold SeqAt.shaped
  rw [show PyData.canLay0 (.list (dP l)) = true from lay_pairs l, decide_eq_true h2]
  rfl
theorem eqv_nilI (l : List Int) : PyData.eqv (.list (dI l)) (.list []) = decide (l = []) := by
  cases l with
  | nil => rfl
  | cons a r => simp [dI, PyData.eqv, PyData.eqvAll]
theorem eqv_nilP (l : List Pt) : PyData.eqv (.list (dP l)) (.list []) = decide (l = []) := by
  cases l with
  | nil => rfl
  | cons a r => simp [dP, PyData.eqv, PyData.eqvAll]
theorem flat_il (l : List Int) : (il l).all flatV = true := by
  rw [List.all_eq_true]
  intro x hx
  obtain ⟨i, _, rfl⟩ := List.mem_map.mp hx
  rfl
theorem in_il {l : List Int} {x : Int} (h : x ∈ l) : inV (V.int x) (il l) = true := by
  unfold inV
  rw [List.any_eq_true]
  exact ⟨V.int x, List.mem_map.mpr ⟨x, h, rfl⟩, by simp [eqV]⟩
end Rs
namespace Rs
open PySem PySem.Spec PyProof.Rows L2 C8
theorem lexB_eq (a b : Pt) : SrtO.lexB a b = lt2 a b := by
  rw [← lt_pair]
  rfl
theorem apart_sorted {ws bs : List Int} {qs : List Pt} (h1 : qs.Perm (trace ws bs).apart) (h2 : qs.Pairwise fun x y => SrtO.lexB y x = false) : qs = apartL ws bs := by
  refine List.Perm.eq_of_pairwise (le := fun x y => lt2 y x = false) (fun a b _ _ x y => lt2_tot y x) (h2.imp fun {x y} z => by rw [← lexB_eq]; exact z) ?_ (h1.trans (List.mergeSort_perm _ _).symm)
  have := List.pairwise_mergeSort (le := fun a b : Pt => !lt2 b a) (fun a b c x y => ?_) (fun a b => ?_) (trace ws bs).apart
  · exact this.imp fun {x y} z => by simpa using z
  · simp only [Bool.not_eq_true'] at x y ⊢
    have a1 := lt2_no.mp x
    have a2 := lt2_no.mp y
    exact lt2_no.mpr (by omega)
  · simp only [Bool.or_eq_true, Bool.not_eq_true']
    by_cases q : lt2 b a = true
    · right
      have := lt2_iff.mp q
      exact lt2_no.mpr (by omega)
    · left
      exact Bool.eq_false_iff.mpr q
section
variable {P : Program} {w : World} {K : PySem.W.Frag} {mg : Str → Option Value} {base : Heap}
def spTrace : Sp := fun vs H Q _ => ∃ (pw pb : Addr) (ws bs : List Int), vs = [.ref pw, .ref pb] ∧ H pw = some (.lst (il ws)) ∧ H pb = some (.lst (il bs)) ∧ ws.length ≤ 256 ∧ Bytes ws ∧ bs.length ≤ 16 ∧
  ∀ (H' : Hp) (t dr p : Addr) (kr : List (L2.Key × V)) (ts : List Addr), Same H H' → H' t = some (.tup [.ref dr, .ref p]) → H' dr = some (.dK kr) → RK4 H' kr (trace ws bs).rows → H' p = some (.lst (ts.map V.ref)) → Rg.PrsAt H' ts (apartL ws bs) → H t = none → H dr = none → H p = none → Q (.ref t) H'
theorem ok_trace (D : DefAt K mg "_law_trace" sD__law_trace) (T : Txt w K mg) (c__law_read : Cal P w K mg base 2 "_law_read" spRead []) : Cal P w K mg base 3 "_law_trace" spTrace [] := by
  refine cal_of D sc__law_trace (fun _ _ _ _ _ _ us hl => match us, hl with | [_, _], _ => rfl) (fun vs H Q E h => ?_) (fun cdv Ar outer s H vs Q E hr h => ?_)
  · obtain ⟨pw, pb, ws, bs, rfl, _⟩ := h
    rfl
  · obtain ⟨pw, pb, ws, bs, rfl, hpw, hpb, hl, hb, hbl, k⟩ := h
    refine ⟨_, (pss_cons (ps_par3 (i := 2) (j := 3) (l := 4) (by rfl) sc__law_trace.nd rfl rfl rfl (by decide) (by decide) (by decide) rfl rfl rfl (pa_cons pe_dnewK (pa_cons pe_dnewT (pa_cons pe_dnewT pa_nil))) (by rfl))
  (pss_cons (ps_for PassesOwn.never rfl (pi_list (pv 1)) (pg_name (i := 5) sc__law_trace.nd rfl (Or.inr rfl))
   (pss_one (ps_dput (hu_of hr) (pv 3) (pe_tup (pa_cons (pv 5) (pa_cons (pe_op op_sub pe_int pe_int) pa_nil))) pe_bl rfl)))
  (pss_cons (ps_while PassesOwn.never (pt_cmpR (Rg.op_neE (hu0_of hr)) (pv 3) pe_dnewK (nomark _))
   (pss_cons (ps_asg (pe_callB (Rg.cr_minT rfl (hu2_of hr)) (by rfl) T.free_min (by decide +kernel) (pa_cons (pv 3) pa_nil)) (pg_tup rfl (pgs_cons (pg_name (i := 5) sc__law_trace.nd rfl (Or.inr rfl)) (pgs_cons (pg_name (i := 6) sc__law_trace.nd rfl (Or.inl rfl)) pgs_nil))))
  (pss_cons (ps_expr (pe_bm PySem.F.plainAttrs_dict PySem.F.slot_dict_pop PySem.F.type_dict_pop (Rg.mt_popT1 (hu_of hr)) (pv 3) (pa_cons (pe_tup (pa_cons (pv 5) (pa_cons (pv 6) pa_nil))) pa_nil)))
  (pss_cons (ps_set (i := 7) sc__law_trace.nd rfl (Or.inr rfl) pe_dnewK)
  (pss_cut (ps_lock (ps_for PassesOwn.never rfl (pi_keys (pv 2)) (pg_name (i := 8) sc__law_trace.nd rfl (Or.inr rfl))
   (pss_one (ps_expr (pe_bm PySem.F.plainAttrs_dict PySem.F.slot_dict_update PySem.F.type_dict_update (Rg.mt_updP rfl) (pv 7) (pa_cons (pe_lc (own := [("_law_k", 13)]) (g := gName 13) (by rfl) sc__law_trace.nd (pi_range1 (by rfl) T.free_range (pa_cons (pe_ix ix_tup (pe_dget (hu_of hr) (pv 2) (pv 8) (fun _ _ => rfl)) pe_int (fun _ _ => rfl)) pa_nil)) (blkOk_by (own := [("_law_k", 13)]) (N := N__law_trace) (sc := defScope sD__law_trace) (by decide +kernel)) (fun _ _ _ _ _ => (pg_name (i := 13) sc__law_trace.nd rfl (Or.inl rfl))) (fun _ _ _ _ _ => pts_nil) (fun _ _ _ _ _ => (pe_tup (pa_cons (pe_op op_add (pv 8) (pv 13)) (pa_cons pe_bl pa_nil))))) pa_nil))))))
  (pss_cut (ps_set (i := 9) sc__law_trace.nd rfl (Or.inl rfl) (pe_c c__law_read hr (by decide) (by rfl) (pa_cons (pv 0) (pa_cons (pv 5) pa_nil))))
  (pss_one (ps_if (PW.pt (pw_and (pt_chain op_le op_lt pe_int (pv 5) (pe_callB call_len_seq (by rfl) T.free_len (by decide +kernel) (pa_cons (pv 0) pa_nil))) (pw_and1 (pt_cmp (pc_dnotin (hu_of hr) (pv 5) (pv 2))))))
   (pss_cut (ps_set (i := 10) sc__law_trace.nd rfl (Or.inl rfl) (pe_ifExp (pt_cmpR op_notN (pv 9) pe_non (nomark _)) (pe_lc (own := [("_law_k", 13)]) (g := gName 13) (by rfl) sc__law_trace.nd (pi_range1 (by rfl) T.free_range (pa_cons (pe_ix ix_tup (pv 9) pe_int (fun _ _ => rfl)) pa_nil)) (blkOk_by (own := [("_law_k", 13)]) (N := N__law_trace) (sc := defScope sD__law_trace) (by decide +kernel)) (fun _ _ _ _ _ => (pg_name (i := 13) sc__law_trace.nd rfl (Or.inl rfl))) (fun _ _ _ _ _ => pts_nil) (fun _ _ _ _ _ => (pe_op op_add (pv 5) (pv 13)))) (pe_lst (pa_cons (pv 5) pa_nil))))
  (pss_one (ps_if (PW.pt (pw_or (pt_cmp (pc_din (hu_of hr) (pv 5) (pv 7))) (pw_or1 (PW.pt (pw_and (pt_cmpR op_notN (pv 9) pe_non (nomark _)) (pw_and1 (pt_cmpR (op_neD hr.units) (pe_lc (own := [("_law_one", 14)]) (g := gName 14) (by rfl) sc__law_trace.nd (pi_list (pv 10)) (blkOk_by (own := [("_law_one", 14)]) (N := N__law_trace) (sc := defScope sD__law_trace) (by decide +kernel)) (fun _ _ _ _ _ => (pg_name (i := 14) sc__law_trace.nd rfl (Or.inl rfl))) (fun _ _ _ _ _ => (pts_one (pt_cmp (pc_din (hu_of hr) (pv 14) (pv 7))))) (fun _ _ _ _ _ => (pv 14))) (pe_lst pa_nil) (nomark _))))))))
   (pss_one (ps_dput (hu_of hr) (pv 4) (pe_tup (pa_cons (pv 6) (pa_cons (pv 5) pa_nil))) pe_bl rfl))
   (pss_one (ps_if (pt_cmpR op_notN (pv 9) pe_non (nomark _))
   (pss_cons (ps_dput (hu_of hr) (pv 2) (pv 5) (pv 9) rfl)
  (pss_cons (ps_par (i := 11) (j := 12) (by rfl) sc__law_trace.nd rfl rfl (by decide) rfl rfl (pa_cons (pe_ix ix_tup (pv 9) pe_int (fun _ _ => rfl)) (pa_cons (pe_op op_add (pv 5) (pe_ix ix_tup (pv 9) pe_int (fun _ _ => rfl))) pa_nil)) (by rfl))
  (pss_cut (ps_if (pt_cmpR op_in_seq (pv 11) (pe_tup (pa_cons pe_str (pa_cons pe_str (pa_cons pe_str (pa_cons pe_str pa_nil))))) (by rfl))
   (pss_one (ps_dput (hu_of hr) (pv 3) (pe_tup (pa_cons (pe_ix ix_list (pe_ix ix_tup (pv 9) pe_int (fun _ _ => rfl)) pe_int (fun _ _ => rfl)) (pa_cons (pv 5) pa_nil))) pe_bl rfl))
   pss_nil)
  (pss_cut (ps_if (pt_cmpR op_eq (pv 11) pe_str (nomark _))
   (pss_one (ps_dput (hu_of hr) (pv 3) (pe_tup (pa_cons (pe_op op_sub (pe_op op_add (pv 12) (pe_op op_mod (pe_op op_add (pe_ix ix_list (pe_ix ix_tup (pv 9) pe_int (fun _ _ => rfl)) pe_int (fun _ _ => rfl)) pe_int) pe_int)) pe_int) (pa_cons (pv 5) pa_nil))) pe_bl rfl))
   pss_nil)
  (pss_one (ps_if (pt_cmpR op_notIn_seq (pv 11) (pe_tup (pa_cons pe_str (pa_cons pe_str (pa_cons pe_str (pa_cons pe_str pa_nil))))) (by rfl))
   (pss_one (ps_dput (hu_of hr) (pv 3) (pe_tup (pa_cons (pv 12) (pa_cons (pv 5) pa_nil))) pe_bl rfl))
   pss_nil))))))
   pss_nil)))))
   pss_nil))))))))
  (pss_one (ps_ret (pe_tup (pa_cons (pv 2) (pa_cons (pe_callB (Rg.cr_sortedT rfl) (by rfl) T.free_sorted (by decide +kernel) (pa_cons (pv 4) pa_nil)) pa_nil)))))))), ?_⟩
    refine fun dr hdr dw hdw da hda => ⟨_, _, _, rfl, ?_⟩
    have zr : H dr = none := hdr
    have s1 := Same.new (o := .dK []) hdr
    have s2 := s1.add (o := .dT []) hdw
    have s3 := s2.add (o := .dT []) hda
    have zw : H dw = none := s1.free hdw
    have za : H da = none := s2.free hda
    have t0 : TAt (upd (upd (upd H dr (.dK [])) dw (.dT [])) da (.dT [])) dr dw da ⟨[], [], []⟩ := by
      have nrw : dr ≠ dw := ne_of_none upd_same hdw
      have nwa : dw ≠ da := ne_of_none upd_same hda
      have nra : dr ≠ da := ne_of_none ((upd_ne nrw).trans upd_same) hda
      exact ⟨⟨[], (upd_ne nra).trans ((upd_ne nrw).trans upd_same), rfl, fun i kv e h1 => by cases h1⟩, ⟨[], (upd_ne nwa).trans upd_same, rfl⟩, ⟨[], upd_same, rfl⟩, nwa⟩
    generalize upd (upd (upd H dr (.dK [])) dw (.dT [])) da (.dT []) = H1 at s3 t0 ⊢
    have nra : dr ≠ da := by
      obtain ⟨_, x1, _⟩ := t0.r
      obtain ⟨_, x2, _⟩ := t0.a
      exact ne_of x1 x2 (fun z => by cases z)
    have nrw : dr ≠ dw := by
      obtain ⟨_, x1, _⟩ := t0.r
      obtain ⟨_, x2, _⟩ := t0.w
      exact ne_of x1 x2 (fun z => by cases z)
    have nwa := t0.ne
    -- the begins wait
    refine ⟨_, rfl, pb, rfl, ⟨_, SqL.of (s3 _ _ hpb)⟩, for_list (K := K) (a := pb) (xs := il bs) (fun i σ H' => ∃ y5 : Option V, σ = [some (.ref pw), some (.ref pb), some (.ref dr), some (.ref dw), some (.ref da), y5, none, none, none, none, none, none, none, none, none] ∧ Same H H' ∧ TAt H' dr dw da ⟨[], (bs.take i).foldl (fun w b => insP w (b, -1)) [], []⟩) ⟨_, rfl, s3, t0⟩ (fun i σ H' _ ⟨_, _, z, _⟩ => SqL.of (z _ _ hpb)) ?_ ?_⟩
    · rintro i x σ H' hx ⟨y5, rfl, q1, q2⟩
      obtain ⟨hi, rfl⟩ := ints_get hx
      obtain ⟨kw, w1, w2⟩ := q2.w
      refine ⟨_, rfl, _, rfl, _, _, rfl, rfl, (by show 2 ≤ sizeLine; decide), fun t ht => ⟨dw, _, rfl, DPut.t (k := Rg.pk (bs.getD i 0, -1)) (Same.new ht _ _ w1) upd_same ?_, _, rfl, ?_, ?_⟩⟩
      · rw [keys_len w2]
        have h7 := begin0_len (bs.take i)
        have h8 : (bs.take i).length ≤ bs.length := by rw [List.length_take]; exact Nat.min_le_right _ _
        unfold begin0 at h7
        dsimp only at h7
        exact Nat.lt_of_le_of_lt (Nat.le_trans h7 (Nat.le_trans h8 hbl)) (by decide)
      · intro q u e
        rw [upd_ne (ne_of_none e zw)]
        exact Same.new ht _ _ (q1 _ _ e)
      · obtain ⟨kr, r1, r2⟩ := q2.r
        obtain ⟨ka, a1, a2⟩ := q2.a
        have e1 : (bs.take (i + 1)).foldl (fun w b => insP w (b, -1)) [] = insP ((bs.take i).foldl (fun w b => insP w (b, -1)) []) (bs.getD i 0, -1) := by
          rw [List.take_add_one, List.foldl_append, List.getD_eq_getElem?_getD, List.getElem?_eq_getElem hi]
          rfl
        rw [e1]
        have nr := ne_of r1 w1 (fun z => by cases z)
        refine ⟨⟨kr, (upd_ne nr).trans (Same.new ht _ _ r1), r2.1, fun i kv e _ h2 => by cases h2⟩, ⟨_, upd_same, keys_put w2 _ _⟩, ⟨ka, (upd_ne nwa.symm).trans (Same.new ht _ _ a1), a2⟩, nwa⟩
    · rintro σ H2 ⟨y5, rfl, s02, t2⟩
      rw [List.length_map, List.take_length] at t2
      refine ⟨fun n σ H' => ∃ (t : TS) (m : Nat) (y5 y6 y7 y8 y9 y10 y11 y12 y13 y14 : Option V), σ = [some (.ref pw), some (.ref pb), some (.ref dr), some (.ref dw), some (.ref da), y5, y6, y7, y8, y9, y10, y11, y12, y13, y14] ∧ Same H H' ∧ TAt H' dr dw da t ∧ t = traceN ws m (begin0 bs) ∧ t.apart.length + tmu ws t ≤ 2 * ws.length + bs.length ∧ n = tmu ws t,
        ⟨_, begin0 bs, 0, _, _, _, _, _, _, _, _, _, _, rfl, s02, t2, rfl, ?_, rfl⟩, ?_⟩
      · have := begin0_len bs
        unfold tmu
        have e : (begin0 bs).rows = [] := rfl
        have e2 : (begin0 bs).apart = [] := rfl
        rw [e, e2]
        simp
        omega
      rintro n σ H3 ⟨t, m, y5, y6, y7, y8, y9, y10, y11, y12, y13, y14, rfl, s03, t3, et, hmu, rfl⟩
      have hfit : Fit ws t := by
        rw [et]
        exact traceN_fit ⟨by simp [begin0], fun e h => (by cases h)⟩
      obtain ⟨kw, w1, w2⟩ := t3.w
      refine ⟨_, rfl, fun z hz => ⟨dw, z, kw, rfl, rfl, Same.new hz _ _ w1, upd_same, _, rfl, ?_⟩⟩
      have s4 := Same.new (o := .dK []) hz
      have t4 := t3.mono s4
      have s04 := s03.trans s4
      have w14 := s4 _ _ w1
      generalize upd H3 z (.dK []) = H4 at s4 t4 s04 w14 ⊢
      cases hwt : t.wait with
      | nil =>
        have ekw : kw = [] := by
          have := keys_len w2
          rw [hwt] at this
          exact List.eq_nil_of_length_eq_zero this
        rw [ekw]
        refine iteF ?_
        have ett : t = trace ws bs := by
          rw [et]
          exact trace_eq (by rw [← et]; exact hwt)
        rw [ett] at t4
        obtain ⟨kr, r1, r2⟩ := t4.r
        obtain ⟨ka, a1, a2⟩ := t4.a
        refine ⟨_, rfl, _, rfl, da, ka, _, rfl, a1, a2, fun us qs p hq1 hq2 hq3 hp => ⟨(by show 2 ≤ sizeLine; decide), fun tt htt => ?_⟩⟩
        have eq := apart_sorted hq1 hq2
        subst eq
        have s5 := Same.new (o := .lst (us.map V.ref)) hp
        have s6 := s5.add (o := .tup [.ref dr, .ref p]) htt
        exact k _ tt dr p kr us (s04.trans s6) upd_same (s6 _ _ r1) (r2.mono s6) (Same.new htt _ _ upd_same) ⟨hq3.1, fun i t e h1 h2 => s6 _ _ (hq3.2 i t e h1 h2)⟩ ((s04.trans s5).free htt) zr (s04.free hp)
      | cons p0 ps =>
        have ekw : kw ≠ [] := fun z => by
          have := keys_len w2
          rw [z, hwt] at this
          cases this
        rw [decide_eq_true ekw]
        refine iteT ⟨fun σ' H' => ∃ (y5 y6 y7 y8 y9 y10 y11 y12 y13 y14 : Option V), σ' = [some (.ref pw), some (.ref pb), some (.ref dr), some (.ref dw), some (.ref da), y5, y6, y7, y8, y9, y10, y11, y12, y13, y14] ∧ Same H H' ∧ TAt H' dr dw da (tstep ws t), ?_, ?_⟩
        · rintro σ' H' ⟨y5, y6, y7, y8, y9, y10, y11, y12, y13, y14, rfl, q1, q2⟩
          obtain ⟨m1, m2⟩ := tstep_sum hfit (by rw [hwt]; exact fun z => by cases z)
          refine ⟨_, m1, tstep ws t, m + 1, _, _, _, _, _, _, _, _, _, _, rfl, q1, q2, ?_, by omega, rfl⟩
          rw [et, traceN_add]
          rfl
        · have est : tstep ws t = look ws { t with wait := t.wait.filter fun y => decide (y ≠ minP p0 ps) } (minP p0 ps) := by
            unfold tstep
            rw [hwt]
          obtain ⟨hmm, _⟩ := minP_all (x := p0) (r := ps)
          refine ⟨_, rfl, dw, kw, p0, ps, rfl, w14, hwt ▸ w2, fun tm htm => ?_⟩
          rw [minOf_eq] at htm
          generalize minP p0 ps = mn at est hmm htm
          refine ⟨tm, _, rfl, SqT.of htm, rfl, _, _, rfl, _, _, rfl, rfl, ?_⟩
          obtain ⟨v, hv⟩ := keys_val w2 (x := mn) (by rw [hwt]; exact hmm)
          -- it waits no more
          refine ⟨_, rfl, .inr (.inr (.inl ⟨rfl, .inr ⟨_, w14⟩⟩)), _, rfl, _, rfl, (by show 2 ≤ sizeLine; decide), fun t2 ht2 => ⟨dw, t2, kw, Rg.pk mn, v, rfl, rfl, Same.new ht2 _ _ w14, upd_same, hv, ?_⟩⟩
          have k5 : Kp [dw] H4 (upd (upd H4 t2 (.tup [V.int mn.1, V.int mn.2])) dw (.dT (dropK kw (Rg.pk mn)))) := (Kp.of (Same.new ht2)).put (List.mem_singleton.mpr rfl)
          have t5 : TAt (upd (upd H4 t2 (.tup [V.int mn.1, V.int mn.2])) dw (.dT (dropK kw (Rg.pk mn)))) dr dw da { t with wait := t.wait.filter fun y => decide (y ≠ mn) } := by
            obtain ⟨kr, r1, r2⟩ := t4.r
            obtain ⟨ka, a1, a2⟩ := t4.a
            have dd : Dks H4 [dw] := fun q m => by rw [List.mem_singleton.mp m]; exact .inr ⟨_, w14⟩
            exact ⟨⟨kr, k5 _ _ r1 (fun z => nrw (List.mem_singleton.mp z)), r2.kp dd k5⟩, ⟨_, upd_same, keys_drop w2 mn⟩, ⟨ka, k5 _ _ a1 (fun z => nwa (List.mem_singleton.mp z).symm), a2⟩, nwa⟩
          have s05 : Same H (upd (upd H4 t2 (.tup [V.int mn.1, V.int mn.2])) dw (.dT (dropK kw (Rg.pk mn)))) := fun q u e => k5 q u (s04 _ _ e) (fun z => ne_of_none e zw (List.mem_singleton.mp z))
          generalize upd (upd H4 t2 (.tup [V.int mn.1, V.int mn.2])) dw (.dT (dropK kw (Rg.pk mn))) = H5 at t5 s05 ⊢
          clear k5
          -- what is taken
          refine fun dk hdk => ?_
          have s6 := Same.new (o := .dK []) hdk
          have t6 := t5.mono s6
          have s06 := s05.trans s6
          have d6 : upd H5 dk (.dK []) dk = some (.dK []) := upd_same
          generalize upd H5 dk (.dK []) = H6 at s6 t6 s06 d6 ⊢
          obtain ⟨kr, r1, r2⟩ := t6.r
          have nkr : dk ≠ dr := (ne_of_none (t5.r.choose_spec.1) hdk).symm
          refine ⟨fun σ' H' => ∃ (y8 y13 : Option V) (kt : List (L2.Key × V)), σ' = [some (.ref pw), some (.ref pb), some (.ref dr), some (.ref dw), some (.ref da), some (.int mn.1), some (.int mn.2), some (.ref dk), y8, y9, y10, y11, y12, y13, y14] ∧ Kp [dk] H6 H' ∧ H' dk = some (.dK kt) ∧ ∀ q, (valV kt (Sum.inl q)).isSome = covers t.rows q, ?_, ?_⟩
          · refine ⟨dr, .dK kr, r1, trivial, fun od => ?_⟩
            have f7 : upd H6 dr (.frz od (.dK kr)) dr = some (.frz od (.dK kr)) := upd_same
            have d7 : upd H6 dr (.frz od (.dK kr)) dk = some (.dK []) := (upd_ne nkr).trans d6
            have k7 : ∀ q u, H6 q = some u → q ≠ dr → upd H6 dr (.frz od (.dK kr)) q = some u := fun q u e n => (upd_ne n).trans e
            generalize upd H6 dr (.frz od (.dK kr)) = H7 at f7 d7 k7 ⊢
            refine ⟨_, rfl, dr, od, rfl, .inl ⟨kr, f7, for_it (walk_keys (d := dr) (o := od) (kvs := kr)) (fun i σ H' => ∃ (y8 y13 : Option V) (kt : List (L2.Key × V)), σ = [some (.ref pw), some (.ref pb), some (.ref dr), some (.ref dw), some (.ref da), some (.int mn.1), some (.int mn.2), some (.ref dk), y8, y9, y10, y11, y12, y13, y14] ∧ Kp [dk] H7 H' ∧ H' dk = some (.dK kt) ∧ kt.length ≤ 3 * i ∧ ∀ q, (valV kt (Sum.inl q)).isSome = covers (t.rows.take i) q) ⟨_, _, [], rfl, fun _ _ e _ => e, d7, Nat.le_refl _, fun q => rfl⟩ (fun i σ H' _ ⟨_, _, _, _, z, _⟩ => z _ _ f7 (fun y => nkr (List.mem_singleton.mp y).symm)) ?_ ?_⟩⟩
            · rintro i x σ H8 H9 hi ⟨y8, y13, kt, rfl, q1, q2, q3, q4⟩ ⟨rfl, kk, vv, hkv, rfl⟩
              have hie : i < t.rows.length := by
                rw [← r2.1]
                exact hi
              obtain ⟨tr, e1, e2⟩ := r2.2 i (kk, vv) t.rows[i] hkv (List.getElem?_eq_getElem hie)
              obtain ⟨rfl, rfl⟩ := Prod.mk.inj e1
              have er : rowAt ws (t.rows[i]).1 = some (t.rows[i]).2 := by
                have htr : Tr ws bs t := by
                  rw [et]
                  exact traceN_tr (begin0_tr ws bs)
                exact htr.is _ _ (List.getElem_mem hie)
              generalize he : t.rows[i] = e at e1 e2 er hkv
              have esz : (e.2.size : Int) ≤ 3 := by
                rw [(rowAt_ok hb er).sz]
                cases e.2.k <;> decide
              obtain ⟨b4, n4, f1, f2⟩ := e2
              have f1' : H9 tr = some (.tup [.str e.2.k.str, .ref b4, .ref n4, .int (e.2.size : Nat)]) := q1 _ _ (k7 _ _ f1 (ne_of f1 r1 (fun z => by cases z))) (fun y => ne_of f1 d6 (fun z => by cases z) (List.mem_singleton.mp y))
              have fr : H9 dr = some (.frz od (.dK kr)) := q1 _ _ f7 (fun y => nkr (List.mem_singleton.mp y).symm)
              have hget : DGet H9 dr (V.int e.1) (some (.ref tr)) := by
                exact .inl ⟨kr, Sum.inl e.1, .inr ⟨od, fr⟩, rfl, (rk4_at r2 hfit.nd hkv).symm⟩
              refine ⟨_, rfl, .inr (.inr (.inl ⟨rfl, .inl ⟨_, q2⟩⟩)), _, rfl, _, rfl, dr, .ref tr, rfl, hget, tr, _, _, _, rfl, rfl, SqT.of f1', atI_nat (j := 3) rfl, _, rfl, by omega, by omega, fun Dl hD => ?_⟩
              refine lc_range (n := (e.2.size : Int).toNat) (fun j H' => ∃ us : List Addr, H' Dl = some (.lst (us.map V.ref)) ∧ Paired (fun p (kv : L2.Key × V) => H' p = some (.tup [kV kv.1, kv.2])) us ((List.range j).map fun (k : Nat) => (Sum.inl (e.1 + (0 + (k : Int))), V.bl true)) ∧ Same H9 H') ⟨[], upd_same, .nil, Same.new hD⟩ ?_ ?_
              · rintro j H' hj ⟨us, u1, u2, u3⟩
                refine ⟨rfl, yesT ?_⟩
                refine iteT ⟨_, rfl, _, rfl, _, _, rfl, rfl, (by show 2 ≤ sizeLine; decide), fun t' ht => ⟨_, Same.new ht _ _ u1, ?_, us ++ [t'], ?_, ?_, ?_⟩⟩
                · rw [List.length_map, paired_len u2, List.length_map, List.length_range]
                  exact Nat.lt_of_lt_of_le hj (Nat.le_trans (show (e.2.size : Int).toNat ≤ 3 by omega) (by decide))
                · rw [upd_same, List.map_append]
                  rfl
                · have nlt : Dl ≠ t' := ne_of_none u1 ht
                  rw [List.range_succ, List.map_append]
                  refine paired_snoc (paired_imp (fun a b z => ?_) u2) ?_
                  · rw [upd_ne (ne_of (Same.new ht _ _ z) (Same.new (o := .tup [V.int (e.1 + (0 + (j : Int))), V.bl true]) ht _ _ u1) (fun y => by cases y))]
                    exact Same.new ht _ _ z
                  · rw [upd_ne nlt.symm, upd_same]
                    rfl
                · intro q u e
                  rw [upd_ne (ne_of_none e hD)]
                  exact Same.new ht _ _ (u3 _ _ e)
              rintro H10 ⟨us, u1, u2, u3⟩
              refine ⟨dk, Dl, kt, us, _, rfl, rfl, u3 _ _ q2, SqL.of u1, paired_imp (fun a b z => SqT.of z) u2, ?_, _, _, mergeK kt _, rfl, ((q1.trans (Kp.of u3)).put (List.mem_singleton.mpr rfl)), upd_same, ?_, fun q => ?_⟩
              · rw [List.length_map, List.length_range]
                have : t.rows.length ≤ ws.length := by
                  have := nodup_le (n := ws.length) hfit.nd fun x hx => by
                    obtain ⟨e, h1, h2⟩ := List.mem_map.mp hx
                    rw [← h2]
                    exact hfit.lo e h1
                  rwa [List.length_map] at this
                exact Nat.le_trans (show kt.length + (e.2.size : Int).toNat ≤ 3 * 256 + 3 by omega) (by decide)
              · have h9 := length_mergeK ((List.range (e.2.size : Int).toNat).map fun (k : Nat) => ((Sum.inl (e.1 + (0 + (k : Int))) : L2.Key), V.bl true)) kt
                rw [List.length_map, List.length_range] at h9
                omega
              · rw [merge_has, q4, span_any, List.take_add_one, List.getElem?_eq_getElem hie, he]
                unfold covers
                rw [List.any_append]
                congr 1
                show _ = ([e].any fun e => decide (e.1 ≤ q ∧ q < e.1 + (e.2.size : Int)))
                rw [List.any_cons, List.any_nil, Bool.or_false]
                exact decide_eq_decide.mpr (by omega)
            · rintro σ H8 ⟨y8, y13, kt, rfl, q1, q2, q3, q4⟩
              refine ⟨q1 _ _ f7 (fun y => nkr (List.mem_singleton.mp y).symm), y8, y13, kt, rfl, fun q u e n => ?_, (upd_ne nkr).trans q2, fun q => ?_⟩
              · by_cases qd : q = dr
                · rw [qd, r1] at e
                  cases e
                  rw [qd]
                  exact upd_same
                · rw [upd_ne qd]
                  exact q1 _ _ (k7 _ _ e qd) n
              · rw [q4 q, r2.1, List.take_length]
          · rintro σ' H8 ⟨y8, y13, kt, rfl, k8, d8, c8⟩
            have zk : H dk = none := s05.free hdk
            have nkw : dk ≠ dw := (ne_of_none (t5.w.choose_spec.1) hdk).symm
            have nka : dk ≠ da := (ne_of_none (t5.a.choose_spec.1) hdk).symm
            have t8 : TAt H8 dr dw da { t with wait := t.wait.filter fun y => decide (y ≠ mn) } := by
              obtain ⟨kr, r1, r2⟩ := t6.r
              obtain ⟨kw, w1, w2⟩ := t6.w
              obtain ⟨ka, a1, a2⟩ := t6.a
              have dd : Dks H6 [dk] := fun q m => by rw [List.mem_singleton.mp m]; exact .inl ⟨_, d6⟩
              exact ⟨⟨kr, k8 _ _ r1 (fun z => nkr (List.mem_singleton.mp z).symm), r2.kp dd k8⟩, ⟨kw, k8 _ _ w1 (fun z => nkw (List.mem_singleton.mp z).symm), w2⟩, ⟨ka, k8 _ _ a1 (fun z => nka (List.mem_singleton.mp z).symm), a2⟩, nwa⟩
            have s08 : Same H H8 := fun q u e => k8 q u (s06 _ _ e) (fun z => ne_of_none e zk (List.mem_singleton.mp z))
            clear k8 t6 s06 d6 r1 r2 t5 s05 s6 t4 s04 s4 w14 t3 s03 w1
            -- the row that lies there
            refine ⟨fun σ' H' => ∃ rv : V, σ' = [some (.ref pw), some (.ref pb), some (.ref dr), some (.ref dw), some (.ref da), some (.int mn.1), some (.int mn.2), some (.ref dk), y8, some rv, y10, y11, y12, y13, y14] ∧ Same H8 H' ∧ ((rowAt ws mn.1 = none ∧ rv = .non) ∨ ∃ r tr, rowAt ws mn.1 = some r ∧ rv = .ref tr ∧ Row4 H' tr r), ?_, ?_⟩
            · exact ⟨_, rfl, _, rfl, pw, ws, mn.1, rfl, s08 _ _ hpw, hl, fun e H' q => ⟨_, rfl, q, .inl ⟨e, rfl⟩⟩, fun r er H' tr b n q1 _ _ _ q2 q3 q4 => ⟨_, rfl, q1, .inr ⟨r, tr, er, rfl, b, n, q2, q4⟩⟩⟩
            rintro σ' H9 ⟨rv, rfl, s9, hrow⟩
            have t9 := t8.mono s9
            have s09 := s08.trans s9
            have d9 := s9 _ _ d8
            clear t8 s08 d8
            obtain ⟨kr, r1, r2⟩ := t9.r
            rw [est]
            -- nothing more
            have same : (¬ (0 ≤ mn.1 ∧ mn.1 < (ws.length : Int)) ∨ isRow t.rows mn.1 = true) → ∃ (z5 z6 z7 z8 z9 z10 z11 z12 z13 z14 : Option V), [some (V.ref pw), some (V.ref pb), some (V.ref dr), some (V.ref dw), some (V.ref da), some (V.int mn.1), some (V.int mn.2), some (V.ref dk), y8, some rv, y10, y11, y12, y13, y14] = [some (.ref pw), some (.ref pb), some (.ref dr), some (.ref dw), some (.ref da), z5, z6, z7, z8, z9, z10, z11, z12, z13, z14] ∧ Same H H9 ∧ TAt H9 dr dw da (look ws { t with wait := t.wait.filter fun y => decide (y ≠ mn) } mn) := fun c => by
              refine ⟨_, _, _, _, _, _, _, _, _, _, rfl, s09, ?_⟩
              unfold look
              rw [if_pos c]
              exact t9
            refine ⟨_, rfl, _, _, rfl, rfl, _, rfl, ?_⟩
            by_cases h1 : 0 ≤ mn.1
            case neg =>
              rw [decide_eq_false h1]
              exact iteF ⟨_, rfl, iteF (iteF (same (.inl fun y => h1 y.1)))⟩
            rw [decide_eq_true h1]
            refine iteT ⟨_, rfl, pw, _, rfl, .inl (SqL.of (s09 _ _ hpw)), _, _, rfl, rfl, _, rfl, ?_⟩
            rw [List.length_map]
            by_cases h2 : mn.1 < (ws.length : Int)
            case neg =>
              rw [decide_eq_false h2]
              exact iteF (iteF (same (.inl fun y => h2 y.2)))
            rw [decide_eq_true h2]
            refine iteT ⟨_, rfl, _, rfl, dr, _, rfl, DGet.k (k := Sum.inl mn.1) r1, _, rfl, ?_⟩
            rw [rk4_find r2]
            by_cases h3 : isRow t.rows mn.1 = true
            case pos =>
              rw [show isRow ({ t with wait := t.wait.filter fun y => decide (y ≠ mn) } : TS).rows mn.1 = true from h3]
              exact iteF (same (.inr h3))
            rw [show isRow ({ t with wait := t.wait.filter fun y => decide (y ≠ mn) } : TS).rows mn.1 = false from Bool.eq_false_iff.mpr h3]
            refine iteT ?_
            have hcov : ∀ q, (valV kt (Sum.inl q)).isSome = covers t.rows q := c8
            refine ⟨fun σ' H' => ∃ (lm : Addr) (l : List Int), σ' = [some (.ref pw), some (.ref pb), some (.ref dr), some (.ref dw), some (.ref da), some (.int mn.1), some (.int mn.2), some (.ref dk), y8, some rv, some (.ref lm), y11, y12, y13, y14] ∧ Same H9 H' ∧ H' lm = some (.lst (il l)) ∧ l.length ≤ 3 ∧ ∀ r, rowAt ws mn.1 = some r → l = (List.range r.size).map fun (k : Nat) => mn.1 + (0 + (k : Int)), ?_, ?_⟩
            · refine ⟨_, rfl, rfl, _, rfl, ?_⟩
              rcases hrow with ⟨e, rfl⟩ | ⟨r, tr, e, rfl, b4, n4, f1, f2⟩
              · exact iteF ⟨_, rfl, (by show 1 ≤ sizeLine; decide), fun lm hlm => ⟨lm, [mn.1], rfl, Same.new hlm, upd_same, by simp, fun r z => by rw [e] at z; cases z⟩⟩
              · have esz : (r.size : Int) ≤ 3 := by
                  rw [(rowAt_ok hb e).sz]
                  cases r.k <;> decide
                refine iteT ⟨_, rfl, tr, _, _, _, rfl, rfl, SqT.of f1, atI_nat (j := 3) rfl, _, rfl, by omega, by omega, fun Dl hD => ?_⟩
                refine lc_range (n := (r.size : Int).toNat) (fun j H' => H' Dl = some (.lst (il ((List.range j).map fun (k : Nat) => mn.1 + (0 + (k : Int))))) ∧ Same H9 H') ⟨upd_same, Same.new hD⟩ ?_ ?_
                · rintro j H' hj ⟨u1, u2⟩
                  refine ⟨rfl, yesT ?_⟩
                  refine iteT ⟨_, rfl, _, rfl, _, _, rfl, rfl, _, u1, ?_, ?_, ?_⟩
                  · rw [List.length_map, List.length_map, List.length_range]
                    exact Nat.lt_of_lt_of_le hj (Nat.le_trans (show (r.size : Int).toNat ≤ 3 by omega) (by decide))
                  · rw [upd_same, List.range_succ, List.map_append, il_app]
                    rfl
                  · exact fun q u e => (upd_ne (ne_of_none e hD)).trans (u2 _ _ e)
                · rintro H' ⟨u1, u2⟩
                  refine ⟨Dl, _, rfl, u2, u1, ?_, fun r' z => ?_⟩
                  · rw [List.length_map, List.length_range]
                    omega
                  · rw [e] at z
                    cases z
                    rfl
            rintro σ' H10 ⟨lm, l, rfl, s10, hlm, ll3, hlr⟩
            have t10 := t9.mono s10
            have s010 := s09.trans s10
            have d10 := s10 _ _ d9
            have hrow10 : (rowAt ws mn.1 = none ∧ rv = .non) ∨ ∃ r tr, rowAt ws mn.1 = some r ∧ rv = .ref tr ∧ Row4 H10 tr r := by
              rcases hrow with q | ⟨r, tr, e, e2, q⟩
              · exact .inl q
              · exact .inr ⟨r, tr, e, e2, q.kp (Dks.nil _) (Kp.nil s10)⟩
            clear same t9 s09 d9 hrow r1 r2
            have hc : ¬ (¬ (0 ≤ mn.1 ∧ mn.1 < (ws.length : Int)) ∨ isRow t.rows mn.1 = true) := fun z => z.elim (fun y => y ⟨h1, h2⟩) h3
            -- it is apart
            have leafA : look ws { t with wait := t.wait.filter fun y => decide (y ≠ mn) } mn = { t with wait := t.wait.filter fun y => decide (y ≠ mn), apart := insP t.apart (mn.2, mn.1) } → ∀ (Hx : Hp), Same H10 Hx → ∀ t2, Hx t2 = none → ∃ ka, (upd Hx t2 (.tup [V.int mn.2, V.int mn.1])) da = some (.dT ka) ∧ ka.length < sizeLine ∧
                Same H (upd (upd Hx t2 (.tup [V.int mn.2, V.int mn.1])) da (.dT (putK ka (Rg.pk (mn.2, mn.1)) (.bl true)))) ∧ TAt (upd (upd Hx t2 (.tup [V.int mn.2, V.int mn.1])) da (.dT (putK ka (Rg.pk (mn.2, mn.1)) (.bl true)))) dr dw da (look ws { t with wait := t.wait.filter fun y => decide (y ≠ mn) } mn) := fun el Hx sx t2 ht2 => by
              have sx2 := sx.add (o := .tup [V.int mn.2, V.int mn.1]) ht2
              have tx := t10.mono sx2
              obtain ⟨kr, r1, r2⟩ := tx.r
              obtain ⟨kw, w1, w2⟩ := tx.w
              obtain ⟨ka, a1, a2⟩ := tx.a
              have kp : Kp [da] (upd Hx t2 (.tup [V.int mn.2, V.int mn.1])) (upd (upd Hx t2 (.tup [V.int mn.2, V.int mn.1])) da (.dT (putK ka (Rg.pk (mn.2, mn.1)) (.bl true)))) := (Kp.of (Same.refl _)).put (List.mem_singleton.mpr rfl)
              have dd : Dks (upd Hx t2 (.tup [V.int mn.2, V.int mn.1])) [da] := fun q m => by rw [List.mem_singleton.mp m]; exact .inr ⟨_, a1⟩
              refine ⟨ka, a1, ?_, fun q u e => kp q u (sx2 _ _ (s010 _ _ e)) (fun z => ne_of_none e za (List.mem_singleton.mp z)), ?_⟩
              · rw [keys_len a2]
                exact Nat.lt_of_le_of_lt (show t.apart.length ≤ 528 by omega) (by decide)
              · rw [el]
                exact ⟨⟨kr, kp _ _ r1 (fun z => nra (List.mem_singleton.mp z)), r2.kp dd kp⟩, ⟨kw, kp _ _ w1 (fun z => nwa (List.mem_singleton.mp z)), w2⟩, ⟨_, upd_same, keys_put a2 _ _⟩, nwa⟩
            refine ⟨_, rfl, _, rfl, dk, _, rfl, DGet.k (k := Sum.inl mn.1) d10, _, rfl, ?_⟩
            rw [hcov]
            by_cases h4 : covers t.rows mn.1 = true
            · rw [h4]
              have el : look ws { t with wait := t.wait.filter fun y => decide (y ≠ mn) } mn = { t with wait := t.wait.filter fun y => decide (y ≠ mn), apart := insP t.apart (mn.2, mn.1) } := by
                unfold look
                rw [if_neg hc]
                rcases hrow10 with ⟨e, _⟩ | ⟨r, _, e, _⟩
                · rw [e]
                  exact if_pos h4
                · rw [e]
                  refine if_pos ?_
                  unfold hits
                  refine List.any_eq_true.mpr ⟨0, List.mem_range.mpr ?_, ?_⟩
                  · rw [(rowAt_ok hb e).sz]
                    cases r.k <;> decide
                  · show covers t.rows (mn.1 + 0) = true
                    rw [Int.add_zero]
                    exact h4
              refine iteT (iteT ⟨_, rfl, _, rfl, _, rfl, (by show 2 ≤ sizeLine; decide), fun t2 ht2 => ?_⟩)
              obtain ⟨ka, a1, a2, a3, a4⟩ := leafA el H10 (Same.refl _) t2 ht2
              exact ⟨da, _, rfl, DPut.t (k := Rg.pk (mn.2, mn.1)) a1 upd_same a2, _, _, _, _, _, _, _, _, _, _, rfl, a3, a4⟩
            · rw [Bool.eq_false_iff.mpr h4]
              refine iteF ?_
              refine ⟨_, rfl, rfl, _, rfl, ?_⟩
              rcases hrow10 with ⟨er, rfl⟩ | ⟨r, tr, er, rfl, hr4⟩
              · -- no row
                have el : look ws { t with wait := t.wait.filter fun y => decide (y ≠ mn) } mn = { t with wait := t.wait.filter fun y => decide (y ≠ mn) } := by
                  unfold look
                  rw [if_neg hc, er]
                  exact if_neg h4
                refine iteF (iteF ⟨_, rfl, rfl, _, rfl, iteF ⟨_, _, _, _, _, _, _, _, _, _, rfl, s010, ?_⟩⟩)
                rw [el]
                exact t10
              · refine iteT ⟨_, rfl, lm, rfl, ⟨_, SqL.of hlm⟩, fun Dl hD => ?_⟩
                refine lc_list (K := K) (a := lm) (xs := il l) (fun i H' => H' Dl = some (.lst (il ((l.take i).filter fun q => covers t.rows q))) ∧ Same H10 H') ⟨upd_same, Same.new hD⟩ (fun i H' _ ⟨_, z⟩ => SqL.of (z _ _ hlm)) ?_ ?_
                · rintro i v H' hv ⟨u1, u2⟩
                  obtain ⟨hi, rfl⟩ := ints_get hv
                  have e1 : (l.take (i + 1)).filter (fun q => covers t.rows q) = (l.take i).filter (fun q => covers t.rows q) ++ if covers t.rows (l.getD i 0) = true then [l.getD i 0] else [] := by
                    rw [List.take_add_one, List.filter_append, List.getD_eq_getElem?_getD, List.getElem?_eq_getElem hi]
                    by_cases q : covers t.rows l[i] = true
                    · simp [q]
                    · simp [q]
                  rw [e1]
                  refine ⟨rfl, ?_⟩
                  refine ⟨_, rfl, _, rfl, dk, _, rfl, DGet.k (k := Sum.inl (l.getD i 0)) (u2 _ _ d10), _, rfl, ?_⟩
                  rw [hcov]
                  by_cases q : covers t.rows (l.getD i 0) = true
                  · rw [q, if_pos rfl]
                    refine iteT ⟨_, rfl, _, u1, ?_, ?_, ?_⟩
                    · rw [List.length_map]
                      have a1 := List.length_filter_le (fun q => covers t.rows q) (l.take i)
                      have a2 : (l.take i).length ≤ l.length := by rw [List.length_take]; exact Nat.min_le_right _ _
                      exact Nat.lt_of_le_of_lt (show _ ≤ 3 by omega) (by decide)
                    · rw [upd_same, il_app]
                    · exact fun q u e => (upd_ne (ne_of_none e hD)).trans (u2 _ _ e)
                  · rw [Bool.eq_false_iff.mpr q, if_neg (by decide), List.append_nil]
                    exact iteF ⟨u1, u2⟩
                · rintro H11 ⟨u1, u2⟩
                  rw [List.length_map, List.take_length] at u1
                  refine ⟨Nat.zero_le _, fun z hz => ⟨.list (dI (l.filter fun q => covers t.rows q)), .list [], .lst (SqL.of (Same.new hz _ _ u1)) (dp_all _), .lst (SqL.of upd_same) .nil, shaped_ints _, rfl, _, rfl, ?_⟩⟩
                  rw [eqv_nilI]
                  have u3 := u2.add (o := .lst []) hz
                  generalize upd H11 z (.lst []) = H12 at u3 ⊢
                  have ehit : hits t.rows mn.1 r.size = !decide ((l.filter fun q => covers t.rows q) = []) := by
                    rw [hlr r er, Bool.eq_iff_iff, Bool.not_eq_true', decide_eq_false_iff_not]
                    unfold hits
                    rw [List.any_eq_true]
                    constructor
                    · rintro ⟨k, k1, k2⟩ z
                      have : mn.1 + (0 + (k : Int)) ∈ ((List.range r.size).map fun (k : Nat) => mn.1 + (0 + (k : Int))).filter fun q => covers t.rows q := List.mem_filter.mpr ⟨List.mem_map.mpr ⟨k, k1, rfl⟩, by rw [Int.zero_add]; exact k2⟩
                      rw [z] at this
                      cases this
                    · intro z
                      cases e9 : ((List.range r.size).map fun (k : Nat) => mn.1 + (0 + (k : Int))).filter fun q => covers t.rows q with
                      | nil => exact absurd e9 z
                      | cons a rest =>
                        have : a ∈ ((List.range r.size).map fun (k : Nat) => mn.1 + (0 + (k : Int))).filter fun q => covers t.rows q := by
                          rw [e9]
                          exact List.mem_cons_self
                        obtain ⟨m1, m2⟩ := List.mem_filter.mp this
                        obtain ⟨k, k1, k2⟩ := List.mem_map.mp m1
                        refine ⟨k, k1, ?_⟩
                        rw [← k2, Int.zero_add] at m2
                        exact m2
                  rw [← ehit]
                  by_cases h5 : hits t.rows mn.1 r.size = true
                  · rw [h5]
                    have el : look ws { t with wait := t.wait.filter fun y => decide (y ≠ mn) } mn = { t with wait := t.wait.filter fun y => decide (y ≠ mn), apart := insP t.apart (mn.2, mn.1) } := by
                      unfold look
                      rw [if_neg hc, er]
                      exact if_pos h5
                    refine iteT ⟨_, rfl, _, rfl, _, rfl, (by show 2 ≤ sizeLine; decide), fun t2 ht2 => ?_⟩
                    obtain ⟨ka, a1, a2, a3, a4⟩ := leafA el H12 u3 t2 ht2
                    exact ⟨da, _, rfl, DPut.t (k := Rg.pk (mn.2, mn.1)) a1 upd_same a2, _, _, _, _, _, _, _, _, _, _, rfl, a3, a4⟩
                  · rw [Bool.eq_false_iff.mpr h5]
                    have el : look ws { t with wait := t.wait.filter fun y => decide (y ≠ mn) } mn = { t with rows := t.rows ++ [(mn.1, r)], wait := (leads r mn.1).foldl (fun w q => insP w (q, mn.1)) (t.wait.filter fun y => decide (y ≠ mn)) } := by
                      unfold look
                      rw [if_neg hc, er]
                      exact if_neg h5
                    rw [el]
                    refine iteF ⟨_, rfl, rfl, _, rfl, iteT ?_⟩
                    have t12 := t10.mono u3
                    have s012 := s010.trans u3
                    have hr12 := hr4.kp (Dks.nil _) (Kp.nil u3)
                    clear leafA t10 s010 hr4 u1 u2 u3 hlm d10
                    obtain ⟨b4, n4, f1, f2⟩ := hr12
                    obtain ⟨kr, r1, r2⟩ := t12.r
                    have ek : putK kr (Sum.inl mn.1) (V.ref tr) = kr ++ [(Sum.inl mn.1, .ref tr)] := putK_new _ (by
                      have := rk4_find (p := mn.1) r2
                      rw [show isRow ({ t with wait := t.wait.filter fun y => decide (y ≠ mn) } : TS).rows mn.1 = false from Bool.eq_false_iff.mpr h3] at this
                      cases q : valV kr (Sum.inl mn.1) with
                      | none => rfl
                      | some v =>
                        rw [q] at this
                        cases this)
                    have hrl : t.rows.length ≤ 256 := by
                      have := nodup_le (n := ws.length) hfit.nd fun x hx => by
                        obtain ⟨e, h1, h2⟩ := List.mem_map.mp hx
                        rw [← h2]
                        exact hfit.lo e h1
                      rw [List.length_map] at this
                      omega
                    refine ⟨_, rfl, _, rfl, _, rfl, dr, _, rfl, DPut.k (k := Sum.inl mn.1) r1 ?_, ?_⟩
                    · rw [r2.1]
                      exact Nat.lt_of_le_of_lt hrl (by decide)
                    rw [ek]
                    have k13 : Kp [dr] H12 (upd H12 dr (.dK (kr ++ [(Sum.inl mn.1, .ref tr)]))) := (Kp.of (Same.refl _)).put (List.mem_singleton.mpr rfl)
                    have dd13 : Dks H12 [dr] := fun q m => by rw [List.mem_singleton.mp m]; exact .inl ⟨_, r1⟩
                    have g1 := k13 _ _ f1 (dd13.tup f1)
                    have g2 := k13 _ _ f2 (dd13.lst f2)
                    have t13 : TAt (upd H12 dr (.dK (kr ++ [(Sum.inl mn.1, .ref tr)]))) dr dw da ⟨t.rows ++ [(mn.1, r)], t.wait.filter fun y => decide (y ≠ mn), t.apart⟩ := by
                      obtain ⟨kw, w1, w2⟩ := t12.w
                      obtain ⟨ka, a1, a2⟩ := t12.a
                      exact ⟨⟨_, upd_same, rk4_snoc (r2.kp dd13 k13) ⟨b4, n4, g1, g2⟩⟩, ⟨kw, k13 _ _ w1 (fun z => nrw (List.mem_singleton.mp z).symm), w2⟩, ⟨ka, k13 _ _ a1 (fun z => nra (List.mem_singleton.mp z).symm), a2⟩, nwa⟩
                    have s013 : Same H (upd H12 dr (.dK (kr ++ [(Sum.inl mn.1, .ref tr)]))) := fun q u e => k13 q u (s012 _ _ e) (fun z => ne_of_none e zr (List.mem_singleton.mp z))
                    generalize upd H12 dr (.dK (kr ++ [(Sum.inl mn.1, .ref tr)])) = H13 at g1 g2 t13 s013 ⊢
                    clear k13 dd13 t12 s012 f1 f2 r1 r2 ek
                    have ho := rowAt_ok hb er
                    refine ⟨_, rfl, tr, _, _, _, rfl, rfl, SqT.of g1, atI_nat (j := 0) rfl, _, rfl, _, rfl, tr, _, _, _, rfl, rfl, SqT.of g1, atI_nat (j := 3) rfl, _, _, rfl, rfl, _, _, rfl, ?_⟩
                    -- one more waits
                    have leafW : ∀ (Hx : Hp) (w : List Pt) (q : Int), Same H Hx → TAt Hx dr dw da ⟨t.rows ++ [(mn.1, r)], w, t.apart⟩ → w.length ≤ 1000 → Hx tr = some (.tup [.str r.k.str, .ref b4, .ref n4, .int (r.size : Nat)]) → Hx n4 = some (.lst (il r.nm)) → ∀ t2, Hx t2 = none →
                        ∃ kw, (upd Hx t2 (.tup [V.int q, V.int mn.1])) dw = some (.dT kw) ∧ kw.length < sizeLine ∧ Same H (upd (upd Hx t2 (.tup [V.int q, V.int mn.1])) dw (.dT (putK kw (Rg.pk (q, mn.1)) (.bl true)))) ∧ TAt (upd (upd Hx t2 (.tup [V.int q, V.int mn.1])) dw (.dT (putK kw (Rg.pk (q, mn.1)) (.bl true)))) dr dw da ⟨t.rows ++ [(mn.1, r)], insP w (q, mn.1), t.apart⟩ ∧
                        (upd (upd Hx t2 (.tup [V.int q, V.int mn.1])) dw (.dT (putK kw (Rg.pk (q, mn.1)) (.bl true)))) tr = some (.tup [.str r.k.str, .ref b4, .ref n4, .int (r.size : Nat)]) ∧ (upd (upd Hx t2 (.tup [V.int q, V.int mn.1])) dw (.dT (putK kw (Rg.pk (q, mn.1)) (.bl true)))) n4 = some (.lst (il r.nm)) := fun Hx w q sx tx wl x1 x2 t2 ht2 => by
                      have sx2 := Same.new (o := .tup [V.int q, V.int mn.1]) ht2
                      have ty := tx.mono sx2
                      obtain ⟨kr, r1, r2⟩ := ty.r
                      obtain ⟨kw, w1, w2⟩ := ty.w
                      obtain ⟨ka, a1, a2⟩ := ty.a
                      have kp : Kp [dw] (upd Hx t2 (.tup [V.int q, V.int mn.1])) (upd (upd Hx t2 (.tup [V.int q, V.int mn.1])) dw (.dT (putK kw (Rg.pk (q, mn.1)) (.bl true)))) := (Kp.of (Same.refl _)).put (List.mem_singleton.mpr rfl)
                      have dd : Dks (upd Hx t2 (.tup [V.int q, V.int mn.1])) [dw] := fun q m => by rw [List.mem_singleton.mp m]; exact .inr ⟨_, w1⟩
                      refine ⟨kw, w1, ?_, fun q u e => kp q u (sx2 _ _ (sx _ _ e)) (fun z => ne_of_none e zw (List.mem_singleton.mp z)), ⟨⟨kr, kp _ _ r1 (fun z => nrw (List.mem_singleton.mp z)), r2.kp dd kp⟩, ⟨_, upd_same, keys_put w2 _ _⟩, ⟨ka, kp _ _ a1 (fun z => nwa (List.mem_singleton.mp z).symm), a2⟩, nwa⟩, kp _ _ (sx2 _ _ x1) (dd.tup (sx2 _ _ x1)), kp _ _ (sx2 _ _ x2) (dd.lst (sx2 _ _ x2))⟩
                      rw [keys_len w2]
                      exact Nat.lt_of_le_of_lt wl (by decide)
                    have wl0 : (t.wait.filter fun y => decide (y ≠ mn)).length ≤ 528 := by
                      have a1 := List.length_filter_le (fun y => decide (y ≠ mn)) t.wait
                      unfold tmu at hmu
                      omega
                    generalize (t.wait.filter fun y => decide (y ≠ mn)) = w0 at t13 wl0 ⊢
                    refine ⟨fun σ' H' => ∃ w1, σ' = [some (.ref pw), some (.ref pb), some (.ref dr), some (.ref dw), some (.ref da), some (.int mn.1), some (.int mn.2), some (.ref dk), y8, some (.ref tr), some (.ref lm), some (.str r.k.str), some (.int (mn.1 + ((r.size : Nat) : Int))), y13, y14] ∧ Same H H' ∧ TAt H' dr dw da ⟨t.rows ++ [(mn.1, r)], w1, t.apart⟩ ∧ w1 = (if r.k = .jump ∨ r.k = .call ∨ r.k = .zero ∨ r.k = .same then insP w0 (r.nm.getD 0 0, mn.1) else w0) ∧ H' tr = some (.tup [.str r.k.str, .ref b4, .ref n4, .int (r.size : Nat)]) ∧ H' n4 = some (.lst (il r.nm)), ?_, ?_⟩
                    · refine ⟨_, rfl, (by show 4 ≤ sizeLine; decide), fun tq htq => ⟨_, _, rfl, .inr (SqT.of upd_same), rfl, rfl, _, rfl, ?_⟩⟩
                      have sq := Same.new (o := .tup [V.str "jump", V.str "call", V.str "zero", V.str "same"]) htq
                      have x1 := sq _ _ g1
                      have x2 := sq _ _ g2
                      have tx := t13.mono sq
                      have sx := s013.trans sq
                      generalize upd H13 tq (.tup [V.str "jump", V.str "call", V.str "zero", V.str "same"]) = H14 at x1 x2 tx sx ⊢
                      by_cases hg : r.k = .jump ∨ r.k = .call ∨ r.k = .zero ∨ r.k = .same
                      · have ei : inV (V.str r.k.str) [.str "jump", .str "call", .str "zero", .str "same"] = true := by
                          rcases hg with e | e | e | e <;> rw [e] <;> decide +kernel
                        rw [show (if (false : Bool) = true then !inV (V.str r.k.str) [.str "jump", .str "call", .str "zero", .str "same"] else inV (V.str r.k.str) [.str "jump", .str "call", .str "zero", .str "same"]) = true from ei]
                        have e := num0 ho (by rcases hg with e | e | e | e <;> rw [e] <;> rfl)
                        refine iteT ⟨_, rfl, _, rfl, tr, _, _, _, rfl, rfl, SqT.of x1, atI_nat (j := 2) rfl, n4, _, _, _, rfl, rfl, SqL.of x2, (by rw [e]; exact atI_nat (j := 0) rfl), _, rfl, (by show 2 ≤ sizeLine; decide), fun t2 ht2 => ?_⟩
                        obtain ⟨kw, a1, a2, a3, a4, a5, a6⟩ := leafW H14 w0 (r.nm.getD 0 0) sx tx (by omega) x1 x2 t2 ht2
                        exact ⟨dw, _, rfl, DPut.t (k := Rg.pk (r.nm.getD 0 0, mn.1)) a1 upd_same a2, _, rfl, a3, a4, (if_pos hg).symm, a5, a6⟩
                      · have ei : inV (V.str r.k.str) [.str "jump", .str "call", .str "zero", .str "same"] = false := by
                          revert hg
                          cases r.k <;> decide +kernel
                        rw [show (if (false : Bool) = true then !inV (V.str r.k.str) [.str "jump", .str "call", .str "zero", .str "same"] else inV (V.str r.k.str) [.str "jump", .str "call", .str "zero", .str "same"]) = false from ei]
                        exact iteF ⟨_, rfl, sx, tx, (if_neg hg).symm, x1, x2⟩
                    rintro σ' H15 ⟨w1, rfl, s015, t15, ew1, y1, y2⟩
                    have wl1 : w1.length ≤ 529 := by
                      rw [ew1]
                      split
                      · have := insP_len w0 (r.nm.getD 0 0, mn.1)
                        omega
                      · omega
                    refine ⟨fun σ' H' => ∃ w2, σ' = [some (.ref pw), some (.ref pb), some (.ref dr), some (.ref dw), some (.ref da), some (.int mn.1), some (.int mn.2), some (.ref dk), y8, some (.ref tr), some (.ref lm), some (.str r.k.str), some (.int (mn.1 + ((r.size : Nat) : Int))), y13, y14] ∧ Same H H' ∧ TAt H' dr dw da ⟨t.rows ++ [(mn.1, r)], w2, t.apart⟩ ∧ w2 = (goals r mn.1).foldl (fun w q => insP w (q, mn.1)) w0 ∧ w2.length ≤ 530 ∧ H' tr = some (.tup [.str r.k.str, .ref b4, .ref n4, .int (r.size : Nat)]) ∧ H' n4 = some (.lst (il r.nm)), ?_, ?_⟩
                    · refine ⟨_, rfl, rfl, _, rfl, ?_⟩
                      by_cases hk : r.k = .skip
                      · refine ite2 (fun _ => ?_) (fun q => absurd (decide_eq_true (by rw [hk]; rfl)) q)
                        have e := num0 ho (by rw [hk]; rfl)
                        have hby : Byte (r.nm.getD 0 0) := ho.nv _ (by rw [e]; exact List.mem_singleton.mpr (by rw [← e]))
                        refine ⟨_, rfl, _, rfl, _, rfl, tr, _, _, _, rfl, rfl, SqT.of y1, atI_nat (j := 2) rfl, n4, _, _, _, rfl, rfl, SqL.of y2, (by rw [e]; exact atI_nat (j := 0) rfl), _, _, rfl, rfl, _, _, rfl, rfl, (by show (0 : Int) < 256; decide), _, _, rfl, rfl, _, _, rfl, rfl, _, rfl, (by show 2 ≤ sizeLine; decide), fun t2 ht2 => ?_⟩
                        obtain ⟨kw, a1, a2, a3, a4, a5, a6⟩ := leafW H15 w1 (mn.1 + ((r.size : Nat) : Int) + (r.nm.getD 0 0 + 128) % 256 - 128) s015 t15 (by omega) y1 y2 t2 ht2
                        refine ⟨dw, _, rfl, DPut.t (k := Rg.pk (mn.1 + ((r.size : Nat) : Int) + (r.nm.getD 0 0 + 128) % 256 - 128, mn.1)) a1 upd_same a2, _, rfl, a3, a4, ?_, ?_, a5, a6⟩
                        · have eg : goals r mn.1 = [mn.1 + ((r.size : Nat) : Int) + sgn (r.nm.getD 0 0)] := by
                            unfold goals
                            rw [hk]
                          rw [eg, ew1, if_neg (by rw [hk]; decide)]
                          show insP w0 _ = insP w0 _
                          congr 2
                          unfold sgn
                          have b1 := hby.1
                          have b2 := hby.2
                          split <;> omega
                        · have := insP_len w1 (mn.1 + ((r.size : Nat) : Int) + (r.nm.getD 0 0 + 128) % 256 - 128, mn.1)
                          omega
                      · refine ite2 (fun q => absurd (V.str.inj (of_decide_eq_true q)) (by revert hk; cases r.k <;> decide +kernel)) (fun _ => ?_)
                        refine ⟨_, rfl, s015, t15, ?_, by omega, y1, y2⟩
                        rw [ew1]
                        unfold goals
                        revert hk
                        cases r.k <;> simp
                    rintro σ' H16 ⟨w2, rfl, s016, t16, ew2, wl2, y1', y2'⟩
                    refine ⟨_, rfl, (by show 4 ≤ sizeLine; decide), fun tq htq => ⟨_, _, rfl, .inr (SqT.of upd_same), rfl, rfl, _, rfl, ?_⟩⟩
                    have sq := Same.new (o := .tup [V.str "stop", V.str "back", V.str "jump", V.str "skip"]) htq
                    have x1 := sq _ _ y1'
                    have x2 := sq _ _ y2'
                    have tx := t16.mono sq
                    have sx := s016.trans sq
                    generalize upd H16 tq (.tup [V.str "stop", V.str "back", V.str "jump", V.str "skip"]) = H17 at x1 x2 tx sx ⊢
                    have el2 : (leads r mn.1).foldl (fun w q => insP w (q, mn.1)) w0 = (onward r mn.1).foldl (fun w q => insP w (q, mn.1)) w2 := by
                      unfold leads
                      rw [List.foldl_append, ew2]
                    rw [el2]
                    by_cases hn : r.k = .stop ∨ r.k = .back ∨ r.k = .jump ∨ r.k = .skip
                    · have ei : inV (V.str r.k.str) [.str "stop", .str "back", .str "jump", .str "skip"] = true := by
                        rcases hn with e | e | e | e <;> rw [e] <;> decide +kernel
                      rw [show (if (true : Bool) = true then !inV (V.str r.k.str) [.str "stop", .str "back", .str "jump", .str "skip"] else inV (V.str r.k.str) [.str "stop", .str "back", .str "jump", .str "skip"]) = false from by rw [ei]; rfl]
                      have eo : onward r mn.1 = [] := by
                        unfold onward
                        rcases hn with e | e | e | e <;> rw [e]
                      rw [eo]
                      exact iteF ⟨_, _, _, _, _, _, _, _, _, _, rfl, sx, tx⟩
                    · have ei : inV (V.str r.k.str) [.str "stop", .str "back", .str "jump", .str "skip"] = false := by
                        revert hn
                        cases r.k <;> decide +kernel
                      rw [show (if (true : Bool) = true then !inV (V.str r.k.str) [.str "stop", .str "back", .str "jump", .str "skip"] else inV (V.str r.k.str) [.str "stop", .str "back", .str "jump", .str "skip"]) = true from by rw [ei]; rfl]
                      have eo : onward r mn.1 = [mn.1 + ((r.size : Nat) : Int)] := by
                        unfold onward
                        revert hn
                        cases r.k <;> simp
                      rw [eo]
                      refine iteT ⟨_, rfl, _, rfl, _, rfl, (by show 2 ≤ sizeLine; decide), fun t2 ht2 => ?_⟩
                      obtain ⟨kw, a1, a2, a3, a4, _, _⟩ := leafW H17 w2 (mn.1 + ((r.size : Nat) : Int)) sx tx (by omega) x1 x2 t2 ht2
                      exact ⟨dw, _, rfl, DPut.t (k := Rg.pk (mn.1 + ((r.size : Nat) : Int), mn.1)) a1 upd_same a2, _, _, _, _, _, _, _, _, _, _, rfl, a3, a4⟩
end
end Rs
namespace Rs
open PySem PySem.Spec PyProof.Rows L2 C8
theorem insP_nd {l : List Pt} {x : Pt} (h : l.Nodup) : (insP l x).Nodup := by
  unfold insP
  by_cases q : x ∈ l
  · rw [if_pos q]
    exact h
  · rw [if_neg q, List.nodup_append]
    exact ⟨h, List.nodup_cons.mpr ⟨(by simp), List.nodup_nil⟩, fun a ha b hb z => q (by rw [← List.mem_singleton.mp hb, ← z]; exact ha)⟩
theorem look_nd {ws : List Int} {s : TS} {m : Pt} (h : s.apart.Nodup) : (look ws s m).apart.Nodup := by
  unfold look
  split
  · exact h
  · split
    · split
      · exact insP_nd h
      · exact h
    · split
      · exact insP_nd h
      · exact h
theorem tstep_nd {ws : List Int} {s : TS} (h : s.apart.Nodup) : (tstep ws s).apart.Nodup := by
  unfold tstep
  split
  · exact h
  · exact look_nd h
theorem traceN_nd {ws : List Int} : ∀ {n : Nat} {s : TS}, s.apart.Nodup → (traceN ws n s).apart.Nodup
  | 0, s, h => h
  | n + 1, s, h => traceN_nd (n := n) (s := tstep ws s) (tstep_nd h)
theorem apart_nd (ws bs : List Int) : (trace ws bs).apart.Nodup := traceN_nd (s := begin0 bs) List.nodup_nil
theorem perm_of_nd {l m : List Pt} (h1 : l.Nodup) (h2 : m.Nodup) (h : ∀ e, e ∈ l ↔ e ∈ m) : l.Perm m := (List.perm_ext_iff_of_nodup h1 h2).mpr h
theorem lexB_lt2 (a b : Pt) : SrtO.lexB a b = lt2 a b := lt_pair a b
/-- the pairs in order are those of what is told -/
theorem apart_is {ws bs : List Int} {qs : List Pt} (h1 : qs.Perm (trace ws bs).apart) (h2 : qs.Pairwise (fun x y => SrtO.lexB y x = false)) : apartL ws bs = qs := by
  refine List.Perm.eq_of_pairwise (le := fun x y => lt2 y x = false) (fun a b _ _ x y => lt2_tot y x) ?_ (h2.imp fun z => by rw [lexB_lt2] at z; exact z) ((List.mergeSort_perm _ _).trans h1.symm)
  have := List.pairwise_mergeSort (le := fun a b : Pt => !lt2 b a) (fun a b c x y => by
    simp only [Bool.not_eq_true'] at x y ⊢
    have := lt2_no.mp x
    have := lt2_no.mp y
    exact lt2_no.mpr (by omega)) (fun a b => by
    cases e : lt2 b a with
    | false => rfl
    | true =>
      have := lt2_iff.mp e
      have e2 : lt2 a b = false := lt2_no.mpr (by omega)
      rw [e2]
      rfl) (trace ws bs).apart
  exact this.imp fun z => by simpa using z
section
variable {P : Program} {w : World} {K : PySem.W.Frag} {mg : Str → Option Value} {base : Heap} {C : Addr}
theorem ok_middles (D : DefAt K mg "middles" sD_middles) (T : Txt w K mg) (M' : TxtW K C) (c_checked_walk : Cal P w K mg base 6 "checked_walk" (spChecked C (tabAt K "come")) []) : Cal P w K mg base 7 "middles" (spMid (tabAt K "come")) [] := by
  refine cal_of D sc_middles (fun _ _ _ _ _ _ us hl => match us, hl with | [_, _], _ => rfl) (fun vs H Q E h => ?_) (fun cdv Ar outer s H vs Q E hr h => ?_)
  · obtain ⟨ws, bs, ⟨_, a, b, rfl, _⟩, _⟩ := h
    rfl
  · obtain ⟨ws, bs, hH, k⟩ := h
    obtain ⟨hT, a, b, rfl, hR⟩ := _root_.id hH
    refine ⟨_, (pss_one (ps_ret (pe_callB (Rg.cr_sortedT rfl) (by rfl) T.free_sorted (by decide +kernel) (pa_cons (pe_fld (pe_c c_checked_walk hr (by decide) (by rfl) (pa_cons (pv 0) (pa_cons (pv 1) pa_nil))) rfl) pa_nil)))), ?_⟩
    refine ⟨_, rfl, _, rfl, ws, bs, hH, fun H1 A ap s1 hW e1 e2 z1 z2 z3 z4 => ?_⟩
    obtain ⟨ts, ha1, ps, g1, g2, g3, g4⟩ := hW.a
    refine ⟨A.x, C, A.dx, wf A, _, rfl, hW.x, M'.cl, M'.apart, rfl, A.a, ts, ps, rfl, ha1, g1, fun us qs p hq1 hq2 hq3 hp => ?_⟩
    have eq := apart_is (ws := ws) (bs := bs) (hq1.trans (perm_of_nd g2 (apart_nd ws bs) fun e => (g3 e).trans (e1 e))) hq2
    refine k _ p us (s1.add hp) (s1.free hp) upd_same (PrsAt_mono ?_ fun q xs e => Same.new hp _ _ e)
    rw [eq]
    exact hq3
def spMidW (Tb : Addr) : Sp := fun vs H Q _ => ∃ ws bs : List Int, Handed Tb H vs ws bs ∧ ∀ (H' : Hp) (p : Addr) (ts : List Addr) (L : List Pt), Same H H' → H p = none → H' p = some (.lst (ts.map V.ref)) → Rg.PrsAt H' ts L → (∀ e, e ∈ L ↔ e ∈ (trace ws bs).apart) → L.length ≤ 600 → Q (.ref p) H'
theorem ok_middlesW (D : DefAt K mg "middles" sD_middles) (T : Txt w K mg) (M' : TxtW K C) (c_checked_walk : Cal P w K mg base 6 "checked_walk" (spChecked C (tabAt K "come")) []) : Cal P w K mg base 7 "middles" (spMidW (tabAt K "come")) [] := by
  refine cal_of D sc_middles (fun _ _ _ _ _ _ us hl => match us, hl with | [_, _], _ => rfl) (fun vs H Q E h => ?_) (fun cdv Ar outer s H vs Q E hr h => ?_)
  · obtain ⟨ws, bs, ⟨_, a, b, rfl, _⟩, _⟩ := h
    rfl
  · obtain ⟨ws, bs, hH, k⟩ := h
    obtain ⟨hT, a, b, rfl, hR⟩ := _root_.id hH
    refine ⟨_, (pss_one (ps_ret (pe_callB (Rg.cr_sortedT rfl) (by rfl) T.free_sorted (by decide +kernel) (pa_cons (pe_fld (pe_c c_checked_walk hr (by decide) (by rfl) (pa_cons (pv 0) (pa_cons (pv 1) pa_nil))) rfl) pa_nil)))), ?_⟩
    refine ⟨_, rfl, _, rfl, ws, bs, hH, fun H1 A ap s1 hW e1 e2 z1 z2 z3 z4 => ?_⟩
    obtain ⟨ts, ha1, ps, g1, g2, g3, g4⟩ := hW.a
    refine ⟨A.x, C, A.dx, wf A, _, rfl, hW.x, M'.cl, M'.apart, rfl, A.a, ts, ps, rfl, ha1, g1, fun us qs p hq1 hq2 hq3 hp => ?_⟩
    have eq := apart_is (ws := ws) (bs := bs) (hq1.trans (perm_of_nd g2 (apart_nd ws bs) fun e => (g3 e).trans (e1 e))) hq2
    refine k _ p us (apartL ws bs) (s1.add hp) (s1.free hp) upd_same (PrsAt_mono ?_ fun q xs e => Same.new hp _ _ e) (fun e => apartL_mem) ?_
    · rw [eq]
      exact hq3
    · have := apart_len ws bs
      have := hR.2.2.1
      have := hR.2.2.2.2.1
      omega
end
end Rs
namespace Rs
open PySem PySem.Spec PyProof.Rows L2 C8
theorem pick5 {d : Int} (h0 : 0 ≤ d) (h1 : d < 5) : ∃ j : Nat, j ≤ 2 ∧ atI ([V.int 0, V.int 1, V.int 1, V.int 1, V.int 2] : List V) d = some (V.int (j : Int)) := by
  have e : d = ((d.toNat : Nat) : Int) := by omega
  have h : d.toNat < 5 := by omega
  rw [e]
  match d.toNat, h with
  | 0, _ => exact ⟨0, by decide, rfl⟩
  | 1, _ => exact ⟨1, by decide, rfl⟩
  | 2, _ => exact ⟨1, by decide, rfl⟩
  | 3, _ => exact ⟨1, by decide, rfl⟩
  | 4, _ => exact ⟨2, by decide, rfl⟩
theorem pick3 (x y z : Int) {d : Int} (h0 : 0 ≤ d) (h1 : d < 3) : ∃ v, (v = x ∨ v = y ∨ v = z) ∧ atI ([V.int x, V.int y, V.int z] : List V) d = some (V.int v) := by
  have e : d = ((d.toNat : Nat) : Int) := by omega
  have h : d.toNat < 3 := by omega
  rw [e]
  match d.toNat, h with
  | 0, _ => exact ⟨x, .inl rfl, rfl⟩
  | 1, _ => exact ⟨y, .inr (.inl rfl), rfl⟩
  | 2, _ => exact ⟨z, .inr (.inr rfl), rfl⟩
theorem pickS {mm : Nat} (h : mm ≤ 2) : atI ([V.int 1, V.int 4, V.int 16] : List V) ((mm : Nat) : Int) = some (V.int (span mm)) := by
  match mm, h with
  | 0, _ => rfl
  | 1, _ => rfl
  | 2, _ => rfl
theorem bytes_snoc {l : List Int} {v : Int} (h : Bytes l) (hv : Byte v) : Bytes (l ++ [v]) := fun x hx => by
  rcases List.mem_append.mp hx with q | q
  · exact h x q
  · rw [List.mem_singleton.mp q]
    exact hv
theorem byte_mod (z : Int) : Byte (z % 256) := by constructor <;> omega
theorem cut_take (ws : List Int) {n : Nat} : cutV (il ws) none (some ((n : Nat) : Int)) = il (ws.take n) := by
  unfold cutV
  rw [HT.sIx_none, List.drop_zero, Nat.sub_zero, HT.sIx_nat, List.length_map, ← List.map_take]
  congr 1
  by_cases h : n ≤ ws.length
  · rw [Nat.min_eq_left h]
  · rw [Nat.min_eq_right (by omega), List.take_of_length_le (Nat.le_refl _), List.take_of_length_le (by omega)]
/-- all but st and f is as it was -/
def Pf (st f : Addr) (H H' : Hp) : Prop := ∀ q o, H q = some o → q ≠ st → q ≠ f → H' q = some o
theorem codes_base : ∀ c ∈ codes, 0 ≤ c.2.1 ∧ c.2.1 + span c.2.2.1 ≤ 144 ∧ c.2.2.1 ≤ 2 ∧ c.2.2.2 ≤ 2 := by decide
section
variable {P : Program} {w : World} {K : PySem.W.Frag} {mg : Str → Option Value} {base : Heap}
def spAny (K : PySem.W.Frag) : Sp := fun vs H Q _ => ∃ (st a : Addr) (ns : List Int), vs = [.ref st] ∧ St3 H st a ∧ Scr K H st a ns ∧
  ∀ (H' : Hp) (p : Addr) (ws : List Int), Pr st H H' → St3 H' st a → H p = none → H' p = some (.lst (il ws)) → ws.length ≤ 256 → Bytes ws → Q (.ref p) H'
theorem ok_any (D : DefAt K mg "_law_any_words" sD__law_any_words) (T : Txt w K mg) (c__law_drawn : Cal P w K mg base 1 "_law_drawn" (spDrawn K) []) (c__law_all_codes : Cal P w K mg base 1 "_law_all_codes" spCodes []) : Cal P w K mg base 2 "_law_any_words" (spAny K) [] := by
  refine cal_of D sc__law_any_words (fun _ _ _ _ _ _ us hl => match us, hl with | [_], _ => rfl) (fun vs H Q E h => ?_) (fun cdv A outer s H vs Q E hr h => ?_)
  · obtain ⟨st, a, ns, rfl, _⟩ := h
    rfl
  · obtain ⟨st, a, ns, rfl, t0, hSc, k⟩ := h
    refine ⟨_, (pss_cons (ps_set (i := 1) sc__law_any_words.nd rfl (Or.inl rfl) (pe_lst (pa_cons (pe_c c__law_drawn hr (by decide) (by rfl) (pa_cons (pv 0) (pa_cons pe_int pa_nil))) (pa_cons (pe_c c__law_drawn hr (by decide) (by rfl) (pa_cons (pv 0) (pa_cons pe_int pa_nil))) (pa_cons (pe_op op_add pe_int (pe_c c__law_drawn hr (by decide) (by rfl) (pa_cons (pv 0) (pa_cons pe_int pa_nil)))) pa_nil)))))
  (pss_cons (ps_set (i := 2) sc__law_any_words.nd rfl (Or.inl rfl) (pe_ix ix_list (pv 1) (pe_ix ix_list (pe_lst (pa_cons pe_int (pa_cons pe_int (pa_cons pe_int (pa_cons pe_int (pa_cons pe_int pa_nil)))))) (pe_c c__law_drawn hr (by decide) (by rfl) (pa_cons (pv 0) (pa_cons pe_int pa_nil))) (fun _ _ => rfl)) (fun _ _ => rfl)))
  (pss_cons (ps_par (i := 3) (j := 4) (by rfl) sc__law_any_words.nd rfl rfl (by decide) rfl rfl (pa_cons (pe_lst pa_nil) (pa_cons (pe_c0 c__law_all_codes hr (by decide) (by rfl)) pa_nil)) (by rfl))
  (pss_cons (ps_while PassesOwn.never (pt_cmpR op_lt (pe_callB call_len_seq (by rfl) T.free_len (by decide +kernel) (pa_cons (pv 3) pa_nil)) (pv 2) (nomark _))
   (pss_cons (ps_set (i := 5) sc__law_any_words.nd rfl (Or.inl rfl) (pe_c c__law_drawn hr (by decide) (by rfl) (pa_cons (pv 0) (pa_cons pe_int pa_nil))))
  (pss_one (ps_if (pt_cmpR op_eq (pv 5) pe_int (nomark _))
   (pss_one (ps_expr (pe_bm PySem.F.plainAttrs_list PySem.F.slot_list_append PySem.F.type_list_append mt_append (pv 3) (pa_cons (pe_c c__law_drawn hr (by decide) (by rfl) (pa_cons (pv 0) (pa_cons pe_int pa_nil))) pa_nil))))
   (pss_one (ps_if (pt_cmpR op_eq (pv 5) pe_int (nomark _))
   (pss_one (ps_expr (pe_bm PySem.F.plainAttrs_list PySem.F.slot_list_append PySem.F.type_list_append mt_append (pv 3) (pa_cons (pe_op op_add pe_int (pe_c c__law_drawn hr (by decide) (by rfl) (pa_cons (pv 0) (pa_cons pe_int pa_nil)))) pa_nil))))
   (pss_cons (ps_asg (pe_ix ix_list (pv 4) (pe_c c__law_drawn hr (by decide) (by rfl) (pa_cons (pv 0) (pa_cons pe_int pa_nil))) (fun _ _ => rfl)) (pg_tup rfl (pgs_cons (pg_name (i := 6) sc__law_any_words.nd rfl (Or.inl rfl)) (pgs_cons (pg_name (i := 7) sc__law_any_words.nd rfl (Or.inl rfl)) (pgs_cons (pg_name (i := 8) sc__law_any_words.nd rfl (Or.inl rfl)) (pgs_cons (pg_name (i := 9) sc__law_any_words.nd rfl (Or.inl rfl)) pgs_nil))))))
  (pss_cons (ps_expr (pe_bm PySem.F.plainAttrs_list PySem.F.slot_list_append PySem.F.type_list_append mt_append (pv 3) (pa_cons (pe_op op_add (pv 7) (pe_c c__law_drawn hr (by decide) (by rfl) (pa_cons (pv 0) (pa_cons (pe_ix ix_list (pe_lst (pa_cons pe_int (pa_cons pe_int (pa_cons pe_int pa_nil)))) (pv 8) (fun _ _ => rfl)) pa_nil)))) pa_nil)))
  (pss_one (ps_for PassesOwn.never rfl (pi_range1 (by rfl) T.free_range (pa_cons (pv 9) pa_nil)) (pg_name (i := 10) sc__law_any_words.nd rfl (Or.inl rfl))
   (pss_cons (ps_set (i := 11) sc__law_any_words.nd rfl (Or.inl rfl) (pe_lst (pa_cons (pe_c c__law_drawn hr (by decide) (by rfl) (pa_cons (pv 0) (pa_cons (pe_op op_add (pv 2) pe_int) pa_nil))) (pa_cons (pe_op op_sub (pe_op op_add (pe_callB call_len_seq (by rfl) T.free_len (by decide +kernel) (pa_cons (pv 3) pa_nil)) (pe_c c__law_drawn hr (by decide) (by rfl) (pa_cons (pv 0) (pa_cons pe_int pa_nil)))) pe_int) (pa_cons (pe_c c__law_drawn hr (by decide) (by rfl) (pa_cons (pv 0) (pa_cons pe_int pa_nil))) pa_nil)))))
  (pss_one (ps_expr (pe_bm PySem.F.plainAttrs_list PySem.F.slot_list_append PySem.F.type_list_append mt_append (pv 3) (pa_cons (pe_op op_mod (pe_ifExp (pt_cmpR op_ne (pv 6) pe_str (nomark _)) (pe_ix ix_list (pv 11) (pe_c c__law_drawn hr (by decide) (by rfl) (pa_cons (pv 0) (pa_cons pe_int pa_nil))) (fun _ _ => rfl)) (pe_op op_sub (pe_c c__law_drawn hr (by decide) (by rfl) (pa_cons (pv 0) (pa_cons pe_int pa_nil))) pe_int)) pe_int) pa_nil)))))))))))))))
  (pss_one (ps_ret (pe_slice sl_list (pv 3) po_none (po_some (pv 2))))))))), ?_⟩
    refine ⟨_, rfl, st, a, _, ns, rfl, by decide, by decide, t0, hSc, fun v1 H1 a1 b1 t1 o1 => ?_⟩
    have p1 : Pr st H H1 := o1.pr
    refine ⟨_, rfl, st, a, _, ns, rfl, by decide, by decide, t1, hSc.pr p1, fun v2 H2 a2 b2 t2 o2 => ?_⟩
    have p2 : Pr st H H2 := p1.trans o2.pr
    refine ⟨_, rfl, st, a, _, ns, rfl, by decide, by decide, t2, hSc.pr p2, fun v3 H3 a3 b3 t3 o3 => ?_⟩
    have p3 : Pr st H H3 := p2.trans o3.pr
    refine ⟨_, _, rfl, rfl, (by show 3 ≤ sizeLine; decide), fun l1 hl1 => ?_⟩
    have p4 : Pr st H (upd H3 l1 (.lst [V.int v1, V.int v2, V.int (200 + v3)])) := p3.add hl1
    have t4 : St3 (upd H3 l1 (.lst [V.int v1, V.int v2, V.int (200 + v3)])) st a := t3.put (t3.ne hl1)
    have e4 : upd H3 l1 (.lst [V.int v1, V.int v2, V.int (200 + v3)]) l1 = some (.lst [V.int v1, V.int v2, V.int (200 + v3)]) := upd_same
    generalize upd H3 l1 (.lst [V.int v1, V.int v2, V.int (200 + v3)]) = H4 at p4 t4 e4 ⊢
    refine ⟨_, rfl, (by show 5 ≤ sizeLine; decide), fun l2 hl2 => ?_⟩
    have p5 : Pr st H (upd H4 l2 (.lst [V.int 0, V.int 1, V.int 1, V.int 1, V.int 2])) := p4.add hl2
    have t5 : St3 (upd H4 l2 (.lst [V.int 0, V.int 1, V.int 1, V.int 1, V.int 2])) st a := t4.put (t4.ne hl2)
    have e5 : upd H4 l2 (.lst [V.int 0, V.int 1, V.int 1, V.int 1, V.int 2]) l2 = some (.lst [V.int 0, V.int 1, V.int 1, V.int 1, V.int 2]) := upd_same
    have e51 := Same.new (o := .lst [V.int 0, V.int 1, V.int 1, V.int 1, V.int 2]) hl2 _ _ e4
    have n2 : l2 ≠ st := (t4.ne hl2).symm
    have n1 : l1 ≠ st := (t3.ne hl1).symm
    generalize upd H4 l2 (.lst [V.int 0, V.int 1, V.int 1, V.int 1, V.int 2]) = H5 at p5 t5 e5 e51 ⊢
    refine ⟨_, rfl, st, a, _, ns, rfl, by decide, by decide, t5, hSc.pr p5, fun d H6 a4 b4 t6 o6 => ?_⟩
    have p6 : Pr st H H6 := p5.trans o6.pr
    obtain ⟨j, hj, ej⟩ := pick5 a4 b4
    obtain ⟨mm, hmm, em⟩ := pick3 v1 v2 (200 + v3) (d := (j : Int)) (by omega) (by omega)
    obtain ⟨many, rfl⟩ : ∃ many : Nat, mm = (many : Int) := ⟨mm.toNat, by omega⟩
    have hmany : many ≤ 256 := by omega
    refine ⟨l2, _, _, _, rfl, rfl, SqL.of ((o6 _ n2).trans e5), ej, l1, _, _, _, rfl, rfl, SqL.of ((o6 _ n1).trans e51), em, ?_⟩
    refine ⟨Nat.zero_le _, fun f hf => ?_⟩
    have p7 : Pr st H (upd H6 f (.lst [])) := p6.add hf
    have t7 : St3 (upd H6 f (.lst [])) st a := t6.put (t6.ne hf)
    have nf : f ≠ st := (t6.ne hf).symm
    have zf : H f = none := by
      cases e : H f with
      | none => rfl
      | some o =>
        have := p6 f o e nf
        rw [hf] at this
        cases this
    have e7 : upd H6 f (.lst []) f = some (.lst (il [])) := upd_same
    generalize upd H6 f (.lst []) = H7 at p7 t7 e7 ⊢
    refine ⟨rfl, fun H8 cl ts s8 z8 hcl hcd => ?_⟩
    have p8 : Pr st H H8 := p7.trans (fun q o e _ => s8 q o e)
    have t8 : St3 H8 st a := t7.same s8
    have e8 : H8 f = some (.lst (il [])) := s8 _ _ e7
    have ncf : cl ≠ f := (ne_of_none e7 z8).symm
    have ncs : cl ≠ st := (t7.ne z8).symm
    have tne : ∀ (i : Nat) (t : Addr) (c : Code), ts[i]? = some t → codes[i]? = some c → t ≠ st ∧ t ≠ f := fun i t c h1 h2 => by
      have := hcd.2 i t c h1 h2
      obtain ⟨i', m', r', et, _⟩ := t8
      exact ⟨ne_of this et (by intro q; cases q), ne_of this e8 (by intro q; cases q)⟩
    refine ⟨_, _, rfl, ?_⟩
    refine ⟨fun n σ' H' => ∃ (fs : List Int) (v1 v5 v6 v7 v8 v9 v10 v11 : Option V), n = many - fs.length ∧ σ' = [some (.ref st), v1, some (.int (many : Nat)), some (.ref f), some (.ref cl), v5, v6, v7, v8, v9, v10, v11] ∧ H' f = some (.lst (il fs)) ∧ Bytes fs ∧ fs.length ≤ 260 ∧
      Pr st H H' ∧ St3 H' st a ∧ Pf st f H8 H', ⟨_, [], _, _, _, _, _, _, _, _, rfl, rfl, e8, (fun x hx => by cases hx), Nat.zero_le _, p8, t8, fun q o e _ _ => e⟩, ?_⟩
    rintro n σ' H' ⟨fs, w1, w5, w6, w7, w8, w9, w10, w11, rfl, rfl, hfs, hby, hfl, pH, tH, pf⟩
    refine ⟨_, rfl, f, _, rfl, .inl (SqL.of hfs), _, rfl, _, _, rfl, rfl, _, rfl, ?_⟩
    rw [List.length_map]
    by_cases hlt : fs.length < many
    · rw [decide_eq_true (show ((fs.length : Nat) : Int) < ((many : Nat) : Int) by omega)]
      refine iteT ⟨fun σ' H' => ∃ (fs2 : List Int) (v1 v5 v6 v7 v8 v9 v10 v11 : Option V), fs.length < fs2.length ∧ σ' = [some (.ref st), v1, some (.int (many : Nat)), some (.ref f), some (.ref cl), v5, v6, v7, v8, v9, v10, v11] ∧ H' f = some (.lst (il fs2)) ∧ Bytes fs2 ∧ fs2.length ≤ 260 ∧
        Pr st H H' ∧ St3 H' st a ∧ Pf st f H8 H', fun σ' H' ⟨fs2, q1, q5, q6, q7, q8, q9, q10, q11, h1, h2⟩ => ⟨_, by omega, fs2, q1, q5, q6, q7, q8, q9, q10, q11, rfl, h2⟩, ?_⟩
      refine ⟨_, rfl, st, a, _, ns, rfl, by decide, by decide, tH, hSc.pr pH, fun way G1 g1 g2 u1 r1 => ?_⟩
      have pG1 : Pr st H G1 := pH.trans r1.pr
      have pf1 : Pf st f H8 G1 := fun q o e n1 n2 => (r1 q n1).trans (pf q o e n1 n2)
      have hf1 : G1 f = some (.lst (il fs)) := (r1 f nf).trans hfs
      have app : ∀ (G : Hp) (gs : List Int) (v : Int), Pr st H G → St3 G st a → Pf st f H8 G → Pr st H (upd G f (.lst (il (gs ++ [v])))) ∧ St3 (upd G f (.lst (il (gs ++ [v])))) st a ∧ Pf st f H8 (upd G f (.lst (il (gs ++ [v])))) := fun G gs v h1 h2 h3 =>
        ⟨h1.put zf, h2.put nf.symm, fun q o e n1 n2 => (upd_ne n2).trans (h3 q o e n1 n2)⟩
      have small : ∀ gs : List Int, gs.length ≤ 262 → (il gs).length < sizeLine := fun gs h => by
        rw [List.length_map]
        exact Nat.lt_of_le_of_lt h (by decide)
      refine ⟨_, rfl, rfl, _, rfl, ?_⟩
      refine ite2 (fun _ => ?_) (fun _ => ?_)
      · refine ⟨_, rfl, .inl ⟨rfl, _, SqL.of hf1⟩, _, rfl, st, a, _, ns, rfl, by decide, by decide, u1, hSc.pr pG1, fun v G2 g3 g4 u2 r2 => ?_⟩
        have hf2 : G2 f = some (.lst (il fs)) := (r2 f nf).trans hf1
        refine ⟨f, _, _, rfl, rfl, hf2, small fs (by omega), ?_⟩
        rw [il_app]
        obtain ⟨x1, x2, x3⟩ := app G2 fs v (pG1.trans r2.pr) u2 (fun q o e n1 n2 => (r2 q n1).trans (pf1 q o e n1 n2))
        exact ⟨fs ++ [v], _, _, _, _, _, _, _, _, by simp, rfl, upd_same, bytes_snoc hby ⟨g3, g4⟩, by simp; omega, x1, x2, x3⟩
      · refine ⟨_, rfl, rfl, _, rfl, ?_⟩
        refine ite2 (fun _ => ?_) (fun _ => ?_)
        · refine ⟨_, rfl, .inl ⟨rfl, _, SqL.of hf1⟩, _, rfl, st, a, _, ns, rfl, by decide, by decide, u1, hSc.pr pG1, fun v G2 g3 g4 u2 r2 => ?_⟩
          have hf2 : G2 f = some (.lst (il fs)) := (r2 f nf).trans hf1
          refine ⟨_, _, rfl, rfl, f, _, _, rfl, rfl, hf2, small fs (by omega), ?_⟩
          rw [il_app]
          obtain ⟨x1, x2, x3⟩ := app G2 fs (144 + v) (pG1.trans r2.pr) u2 (fun q o e n1 n2 => (r2 q n1).trans (pf1 q o e n1 n2))
          exact ⟨fs ++ [144 + v], _, _, _, _, _, _, _, _, by simp, rfl, upd_same, bytes_snoc hby ⟨by omega, by omega⟩, by simp; omega, x1, x2, x3⟩
        · refine ⟨_, rfl, _, rfl, st, a, _, ns, rfl, by decide, by decide, u1, hSc.pr pG1, fun ix G2 g3 g4 u2 r2 => ?_⟩
          have pG2 : Pr st H G2 := pG1.trans r2.pr
          have pf2 : Pf st f H8 G2 := fun q o e n1 n2 => (r2 q n1).trans (pf1 q o e n1 n2)
          have hf2 : G2 f = some (.lst (il fs)) := (r2 f nf).trans hf1
          have hts : ts.length = 15 := hcd.1
          obtain ⟨t, et⟩ : ∃ t, ts[ix.toNat]? = some t := ⟨_, List.getElem?_eq_getElem (by omega)⟩
          obtain ⟨c, ec⟩ : ∃ c, codes[ix.toNat]? = some c := ⟨_, List.getElem?_eq_getElem (by rw [← hcd.1]; omega)⟩
          have cm : c ∈ codes := List.mem_of_getElem? ec
          obtain ⟨cb0, cb1, cb2, cb3⟩ := codes_base c cm
          obtain ⟨nt1, nt2⟩ := tne _ t c et ec
          have htc := pf2 _ _ (hcd.2 _ t c et ec) nt1 nt2
          have eat : atI (ts.map V.ref) ix = some (V.ref t) := by
            have e : ix = ((ix.toNat : Nat) : Int) := by omega
            rw [e]
            refine atI_nat ?_
            rw [List.getElem?_map, et]
            rfl
          refine ⟨cl, _, _, _, rfl, rfl, SqL.of (pf2 _ _ hcl ncs ncf), eat, ?_⟩
          refine ⟨t, _, rfl, SqT.of htc, rfl, _, _, rfl, _, _, rfl, _, _, rfl, _, _, rfl, rfl, ?_⟩
          refine ⟨_, rfl, .inl ⟨rfl, _, SqL.of hf2⟩, _, rfl, _, rfl, (by show 3 ≤ sizeLine; decide), fun l hl => ?_⟩
          have nl1 : l ≠ st := (u2.ne hl).symm
          have sl := Same.new (o := .lst [V.int 1, V.int 4, V.int 16]) hl
          have u3 : St3 (upd G2 l (.lst [V.int 1, V.int 4, V.int 16])) st a := u2.put nl1.symm
          have pG3 : Pr st H (upd G2 l (.lst [V.int 1, V.int 4, V.int 16])) := pG2.add hl
          have sp0 : 0 < span c.2.2.1 ∧ span c.2.2.1 < 1000000 := by
            generalize c.2.2.1 = mm at cb2
            match mm, cb2 with
            | 0, _ => decide
            | 1, _ => decide
            | 2, _ => decide
          refine ⟨_, rfl, l, _, _, _, rfl, rfl, SqL.of upd_same, pickS cb2, st, a, _, ns, rfl, sp0.1, sp0.2, u3, hSc.pr pG3, fun v G4 g5 g6 u4 r4 => ?_⟩
          have pG4 : Pr st H G4 := pG3.trans r4.pr
          have pf4 : Pf st f H8 G4 := fun q o e n1 n2 => (r4 q n1).trans (sl _ _ (pf2 q o e n1 n2))
          have hf4 : G4 f = some (.lst (il fs)) := (r4 f nf).trans (sl _ _ hf2)
          refine ⟨_, _, rfl, rfl, f, _, _, rfl, rfl, hf4, small fs (by omega), ?_⟩
          rw [il_app]
          obtain ⟨x1, x2, x3⟩ := app G4 fs (c.2.1 + v) pG4 u4 pf4
          have hby1 : Bytes (fs ++ [c.2.1 + v]) := bytes_snoc hby ⟨by omega, by omega⟩
          have hf5 : upd G4 f (.lst (il (fs ++ [c.2.1 + v]))) f = some (.lst (il (fs ++ [c.2.1 + v]))) := upd_same
          generalize upd G4 f (.lst (il (fs ++ [c.2.1 + v]))) = G5 at x1 x2 x3 hf5 ⊢
          refine ⟨_, rfl, _, rfl, by omega, by omega, for_range (n := c.2.2.2)
            (fun i σ H' => ∃ (gs : List Int) (w10 w11 : Option V), σ = [some (.ref st), w1, some (.int (many : Nat)), some (.ref f), some (.ref cl), some (.int way), some (.str c.1.str), some (.int c.2.1), some (.int (c.2.2.1 : Nat)), some (.int (c.2.2.2 : Nat)), w10, w11] ∧ H' f = some (.lst (il gs)) ∧ Bytes gs ∧
              gs.length = fs.length + 1 + i ∧ Pr st H H' ∧ St3 H' st a ∧ Pf st f H8 H') ⟨_, _, _, rfl, hf5, hby1, by simp, x1, x2, x3⟩ ?_ ?_⟩
          · rintro i σ K0 hi ⟨gs, y10, y11, rfl, hg, gby, gl, pK, uK, pfK⟩
            refine ⟨_, rfl, _, rfl, _, _, rfl, rfl, st, a, _, ns, rfl, by omega, by omega, uK, hSc.pr pK, fun z1 K1 c1 d1 m1 r1 => ?_⟩
            have pK1 : Pr st H K1 := pK.trans r1.pr
            have pfK1 : Pf st f H8 K1 := fun q o e n1 n2 => (r1 q n1).trans (pfK q o e n1 n2)
            have hg1 : K1 f = some (.lst (il gs)) := (r1 f nf).trans hg
            refine ⟨_, rfl, f, _, rfl, .inl (SqL.of hg1), _, rfl, st, a, _, ns, rfl, by decide, by decide, m1, hSc.pr pK1, fun z2 K2 c2 d2 m2 r2 => ?_⟩
            have pK2 : Pr st H K2 := pK1.trans r2.pr
            have pfK2 : Pf st f H8 K2 := fun q o e n1 n2 => (r2 q n1).trans (pfK1 q o e n1 n2)
            have hg2 : K2 f = some (.lst (il gs)) := (r2 f nf).trans hg1
            refine ⟨_, _, rfl, rfl, _, _, rfl, rfl, ?_⟩
            refine ⟨_, rfl, st, a, _, ns, rfl, by decide, by decide, m2, hSc.pr pK2, fun z3 K3 c3 d3 m3 r3 => ?_⟩
            have pK3 : Pr st H K3 := pK2.trans r3.pr
            have pfK3 : Pf st f H8 K3 := fun q o e n1 n2 => (r3 q n1).trans (pfK2 q o e n1 n2)
            have hg3 : K3 f = some (.lst (il gs)) := (r3 f nf).trans hg2
            refine ⟨(by show 3 ≤ sizeLine; decide), fun nl hnl => ?_⟩
            have nnl : nl ≠ st := (m3.ne hnl).symm
            have pK4 := pK3.add (o := .lst [V.int z1, V.int (((il gs).length : Int) + z2 - 2), V.int z3]) hnl
            have sK4 := Same.new (o := .lst [V.int z1, V.int (((il gs).length : Int) + z2 - 2), V.int z3]) hnl
            have pfK4 : Pf st f H8 (upd K3 nl (.lst [V.int z1, V.int (((il gs).length : Int) + z2 - 2), V.int z3])) := fun q o e n1 n2 => sK4 _ _ (pfK3 q o e n1 n2)
            have hg4 := sK4 _ _ hg3
            have m4 := m3.same sK4
            have hnl4 : upd K3 nl (.lst [V.int z1, V.int (((il gs).length : Int) + z2 - 2), V.int z3]) nl = some (.lst [V.int z1, V.int (((il gs).length : Int) + z2 - 2), V.int z3]) := upd_same
            generalize upd K3 nl (.lst [V.int z1, V.int (((il gs).length : Int) + z2 - 2), V.int z3]) = K4 at pK4 pfK4 hg4 m4 hnl4 ⊢
            refine ⟨_, rfl, .inl ⟨rfl, _, SqL.of hg4⟩, ?_⟩
            refine ⟨_, rfl, rfl, _, rfl, ?_⟩
            refine ite2 (fun _ => ?_) (fun _ => ?_)
            · refine ⟨_, rfl, _, rfl, st, a, _, ns, rfl, by decide, by decide, m4, hSc.pr pK4, fun z4 K5 c5 d5 m5 r5 => ?_⟩
              obtain ⟨zz, _, ezz⟩ := pick3 z1 (((il gs).length : Int) + z2 - 2) z3 c5 d5
              have hg5 : K5 f = some (.lst (il gs)) := (r5 f nf).trans hg4
              refine ⟨nl, _, _, _, rfl, rfl, SqL.of ((r5 nl nnl).trans hnl4), ezz, _, _, rfl, rfl, (by show (0 : Int) < 256; decide), f, _, _, rfl, rfl, hg5, small gs (by omega), ?_⟩
              rw [il_app]
              obtain ⟨x1, x2, x3⟩ := app K5 gs (zz % 256) (pK4.trans r5.pr) m5 (fun q o e n1 n2 => (r5 q n1).trans (pfK4 q o e n1 n2))
              exact ⟨gs ++ [zz % 256], _, _, rfl, upd_same, bytes_snoc gby (byte_mod zz), by simp; omega, x1, x2, x3⟩
            · refine ⟨_, rfl, st, a, _, ns, rfl, by decide, by decide, m4, hSc.pr pK4, fun z4 K5 c5 d5 m5 r5 => ?_⟩
              have hg5 : K5 f = some (.lst (il gs)) := (r5 f nf).trans hg4
              refine ⟨_, _, rfl, rfl, _, _, rfl, rfl, (by show (0 : Int) < 256; decide), f, _, _, rfl, rfl, hg5, small gs (by omega), ?_⟩
              rw [il_app]
              obtain ⟨x1, x2, x3⟩ := app K5 gs ((z4 - 6) % 256) (pK4.trans r5.pr) m5 (fun q o e n1 n2 => (r5 q n1).trans (pfK4 q o e n1 n2))
              exact ⟨gs ++ [(z4 - 6) % 256], _, _, rfl, upd_same, bytes_snoc gby (byte_mod _), by simp; omega, x1, x2, x3⟩
          · rintro σ K0 ⟨gs, y10, y11, rfl, hg, gby, gl, pK, uK, pfK⟩
            exact ⟨gs, _, _, _, _, _, _, _, _, by omega, rfl, hg, gby, by omega, pK, uK, pfK⟩
    · rw [decide_eq_false (show ¬ ((fs.length : Nat) : Int) < ((many : Nat) : Int) by omega)]
      refine iteF ?_
      refine ⟨_, rfl, _, rfl, _, rfl, f, _, rfl, SqL.of hfs, fun p hp => ?_⟩
      rw [cut_take]
      have np : p ≠ st := (tH.ne hp).symm
      have zp : H p = none := by
        cases e : H p with
        | none => rfl
        | some o =>
          have := pH p o e np
          rw [hp] at this
          cases this
      refine k _ p (fs.take many) (pH.add hp) (tH.put np.symm) zp upd_same ?_ (fun x hx => hby x (List.mem_of_mem_take hx))
      rw [List.length_take]
      omega
end
end Rs
namespace Rs
open PySem PySem.Spec PyProof.Rows L2 C8
abbrev rLenX (K : PySem.W.Frag) : List V → Hp → VK → Prop := fun xs H Q => ∃ p ys, xs = [.ref p] ∧ (SqL K H p ys ∨ SqT K H p ys) ∧ Q (.int ys.length) H
theorem yes_of {σ : L2.St} {H : Hp} {Q : Bool → Hp → Prop} (h : Q true H) : tYes σ H Q := h
theorem pick2 (x y : Int) {d : Int} (h0 : 0 ≤ d) (h1 : d < 2) : ∃ v, (v = x ∨ v = y) ∧ atI ([V.int x, V.int y] : List V) d = some (V.int v) := by
  have e : d = ((d.toNat : Nat) : Int) := by omega
  have h : d.toNat < 2 := by omega
  rw [e]
  match d.toNat, h with
  | 0, _ => exact ⟨x, .inl rfl, rfl⟩
  | 1, _ => exact ⟨y, .inr rfl, rfl⟩
theorem Pr.none {x p : Addr} {H H1 : Hp} (pr : Pr x H H1) (hp : H1 p = none) (n : p ≠ x) : H p = none := by
  cases e : H p with
  | none => rfl
  | some u =>
    rw [pr p u e n] at hp
    cases hp
section
variable {P : Program} {w : World} {K : PySem.W.Frag} {mg : Str → Option Value} {base : Heap}
def spBegins (K : PySem.W.Frag) : Sp := fun vs H Q _ => ∃ (st a pw : Addr) (ns ws : List Int), vs = [.ref st, .ref pw] ∧ St3 H st a ∧ Scr K H st a ns ∧ pw ≠ st ∧ H pw = some (.lst (il ws)) ∧ ws.length ≤ 256 ∧
  ∀ (H' : Hp) (p : Addr) (bs : List Int), Pr st H H' → St3 H' st a → H p = none → H' p = some (.lst (il bs)) → 1 ≤ bs.length → bs.length ≤ 16 → (∀ b ∈ bs, 0 ≤ b ∧ b ≤ 255) → Q (.ref p) H'
theorem ok_begins (D : DefAt K mg "_law_begins" sD__law_begins) (T : Txt w K mg) (c__law_drawn : Cal P w K mg base 1 "_law_drawn" (spDrawn K) []) : Cal P w K mg base 2 "_law_begins" (spBegins K) [] := by
  refine cal_of D sc__law_begins (fun _ _ _ _ _ _ us hl => match us, hl with | [_, _], _ => rfl) (fun vs H Q E h => ?_) (fun cdv A outer s H vs Q E hr h => ?_)
  · obtain ⟨st, a, pw, ns, ws, rfl, _⟩ := h
    rfl
  · obtain ⟨st, a, pw, ns, ws, rfl, t0, hSc, npw, hw, hl, k⟩ := h
    refine ⟨_, (pss_cons (ps_set (i := 2) sc__law_begins.nd rfl (Or.inl rfl) (pe_op op_add pe_int (pe_c c__law_drawn hr (by decide) (by rfl) (pa_cons (pv 0) (pa_cons (pe_ix ix_list (pe_lst (pa_cons pe_int (pa_cons pe_int pa_nil))) (pe_c c__law_drawn hr (by decide) (by rfl) (pa_cons (pv 0) (pa_cons pe_int pa_nil))) (fun _ _ => rfl)) pa_nil)))))
  (pss_one (ps_ret (pe_lc (own := [("_law_k", 3)]) (g := gName 3) (by rfl) sc__law_begins.nd (pi_range1 (by rfl) T.free_range (pa_cons (pv 2) pa_nil)) (blkOk_by (own := [("_law_k", 3)]) (N := N__law_begins) (sc := defScope sD__law_begins) (by decide +kernel)) (fun _ _ _ _ _ => (pg_name (i := 3) sc__law_begins.nd rfl (Or.inl rfl))) (fun _ _ _ _ _ => pts_nil) (fun _ _ _ _ _ => (pe_c c__law_drawn hr (by decide) (by rfl) (pa_cons (pv 0) (pa_cons (pe_callB (call_min2 rfl) (by rfl) T.free_min (by decide +kernel) (pa_cons pe_int (pa_cons (pe_op op_add (pe_callB (r := rLenX K) call_len_seq (by rfl) T.free_len (by decide +kernel) (pa_cons (pv 1) pa_nil)) pe_int) pa_nil))) pa_nil)))))))), ?_⟩
    refine ⟨_, rfl, (by show 2 ≤ sizeLine; decide), fun l hl1 => ?_⟩
    have n1 : l ≠ st := (t0.ne hl1).symm
    have p1 := (Pr.refl st H).add (o := .lst [V.int 3, V.int 16]) hl1
    have t1 := t0.put (o := .lst [V.int 3, V.int 16]) n1.symm
    have e1 : upd H l (.lst [V.int 3, V.int 16]) l = some (.lst [V.int 3, V.int 16]) := upd_same
    generalize upd H l (.lst [V.int 3, V.int 16]) = H1 at p1 t1 e1 ⊢
    refine ⟨_, rfl, st, a, _, ns, rfl, by decide, by decide, t1, hSc.pr p1, fun d H2 a2 b2 t2 o2 => ?_⟩
    obtain ⟨v, hv, ev⟩ := pick2 3 16 a2 b2
    have p2 := p1.trans o2.pr
    refine ⟨l, _, _, _, rfl, rfl, SqL.of ((o2 l n1).trans e1), ev, st, a, _, ns, rfl, by omega, by omega, t2, hSc.pr p2, fun m H3 a3 b3 t3 o3 => ?_⟩
    have p3 := p2.trans o3.pr
    refine ⟨_, _, rfl, rfl, ?_⟩
    refine ⟨_, rfl, _, rfl, by omega, by omega, fun Dl hD => ?_⟩
    have nD : Dl ≠ st := (t3.ne hD).symm
    have zD : H Dl = none := p3.none hD nD
    refine lc_range (n := (1 + m).toNat) (fun i H' => ∃ acc : List Int, H' Dl = some (.lst (il acc)) ∧ acc.length = i ∧ (∀ b ∈ acc, 0 ≤ b ∧ b ≤ 255) ∧ Pr st H H' ∧ St3 H' st a) ⟨[], upd_same, rfl, fun b hb => (by cases hb), p3.add hD, t3.put nD.symm⟩ ?_ ?_
    · rintro i H4 hi ⟨acc, hA, la, ha, p4, t4⟩
      refine ⟨rfl, yes_of ?_⟩
      refine iteT ?_
      refine ⟨_, rfl, _, rfl, pw, _, rfl, .inl (SqL.of (p4 _ _ hw npw)), _, _, rfl, rfl, _, _, rfl, ?_⟩
      rw [List.length_map]
      have hmm : ∀ z : Int, z = (if (ws.length : Int) + 2 < 256 then (ws.length : Int) + 2 else 256) → 0 < z ∧ z ≤ 256 := fun z e => by
        rw [e]
        split <;> omega
      obtain ⟨m0, m1⟩ := hmm _ rfl
      refine ⟨st, a, _, ns, rfl, m0, by omega, t4, hSc.pr p4, fun v5 H5 a5 b5 t5 o5 => ?_⟩
      refine ⟨_, (o5 Dl nD).trans hA, ?_, acc ++ [v5], ?_, by simp [la], fun b hb => ?_, (p4.trans o5.pr).put zD, t5.put nD.symm⟩
      · rw [List.length_map, la]
        exact Nat.lt_of_lt_of_le hi (Nat.le_trans (show (1 + m).toNat ≤ 17 by omega) (by decide))
      · rw [upd_same, il_app]
      · rcases List.mem_append.mp hb with q | q
        · exact ha b q
        · rw [List.mem_singleton.mp q]
          omega
    · rintro H4 ⟨acc, hA, la, ha, p4, t4⟩
      exact k _ Dl acc p4 t4 zD hA (by omega) (by omega) ha
end
end Rs
namespace Rs
open PySem PySem.Spec PyProof.Rows L2 C8
def EqN : Nat → Hp → V → V → Prop
  | 0, _, _, _ => False
  | n + 1, H, x, y => (∃ i, x = .int i ∧ y = .int i) ∨ (∃ s, x = .str s ∧ y = .str s) ∨
    (∃ a b xs ys, x = .ref a ∧ y = .ref b ∧ H a = some (.lst xs) ∧ H b = some (.lst ys) ∧ xs.length = ys.length ∧ xs.length ≤ 2000 ∧ ∀ (i : Nat) (u v : V), xs[i]? = some u → ys[i]? = some v → EqN n H u v) ∨
    (∃ a b xs ys, x = .ref a ∧ y = .ref b ∧ H a = some (.tup xs) ∧ H b = some (.tup ys) ∧ xs.length = ys.length ∧ xs.length ≤ 2000 ∧ ∀ (i : Nat) (u v : V), xs[i]? = some u → ys[i]? = some v → EqN n H u v)
theorem EqN.mono : ∀ {n : Nat} {H H' : Hp} {x y : V}, EqN n H x y → Same H H' → EqN n H' x y
  | 0, _, _, _, _, h, _ => h
  | n + 1, H, H', x, y, h, s => by
    rcases h with h | h | ⟨a, b, xs, ys, e1, e2, h1, h2, h3, h4, h5⟩ | ⟨a, b, xs, ys, e1, e2, h1, h2, h3, h4, h5⟩
    · exact .inl h
    · exact .inr (.inl h)
    · exact .inr (.inr (.inl ⟨a, b, xs, ys, e1, e2, s _ _ h1, s _ _ h2, h3, h4, fun i u v p q => (h5 i u v p q).mono s⟩))
    · exact .inr (.inr (.inr ⟨a, b, xs, ys, e1, e2, s _ _ h1, s _ _ h2, h3, h4, fun i u v p q => (h5 i u v p q).mono s⟩))
theorem kitTL {K : PySem.W.Frag} {T : String} {r1 r2 r : Bool} (h1 : kitB T "tuple" = some r1) (h2 : kitB T "list" = some r2) (e : r = (r1 || r2)) : PySem.W.kitAny K (.type T) [.type "tuple", .type "list"] = some r := by
  subst e
  refine kitAny_cons (kit_ty h1) (fun q => ?_) (fun q => by rw [q] <;> rfl)
  subst q
  exact kitAny_cons (kit_ty h2) (fun q => by rw [q]; exact kitAny_nil) (fun q => by rw [q] <;> rfl)
def spSame (n : Nat) : Sp := fun vs H Q _ => ∃ x y, vs = [x, y] ∧ EqN n H x y ∧ ∀ H', Same H H' → Q (.bl true) H'
section
variable {P : Program} {w : World} {K : PySem.W.Frag} {mg : Str → Option Value} {base : Heap}
theorem ok_same0 (D : DefAt K mg "_law_same" sD__law_same) : Cal P w K mg base 1 "_law_same" (spSame 0) [] := by
  refine cal_of D sc__law_same (fun _ _ _ _ _ _ us hl => match us, hl with | [_, _], _ => rfl) (fun vs H Q E h => ?_) (fun cdv A outer s H vs Q E hr h => ?_)
  · obtain ⟨x, y, rfl, _⟩ := h
    rfl
  · obtain ⟨x, y, rfl, h, _⟩ := h
    exact h.elim
theorem ok_sameS {n : Nat} (D : DefAt K mg "_law_same" sD__law_same) (T : Txt w K mg) (c__law_same : Cal P w K mg base (n + 1) "_law_same" (spSame n) []) : Cal P w K mg base (n + 2) "_law_same" (spSame (n + 1)) [] := by
  refine cal_of D sc__law_same (fun _ _ _ _ _ _ us hl => match us, hl with | [_, _], _ => rfl) (fun vs H Q E h => ?_) (fun cdv A outer s H vs Q E hr h => ?_)
  · obtain ⟨x, y, rfl, _⟩ := h
    rfl
  · obtain ⟨x, y, rfl, he, k⟩ := h
    refine ⟨_, (pss_cons (ps_if (pt_val (pe_callB call_isiT (by rfl) T.free_isinstance (by decide +kernel) (pa_cons (pv 1) (pa_cons (pe_tup (pa_cons (pe_bltn (by rfl) T.free_tuple (by decide +kernel) (v := .ty "tuple") rfl) (pa_cons (pe_bltn (by rfl) T.free_list (by decide +kernel) (v := .ty "list") rfl) pa_nil))) pa_nil))))
   (pss_cons (ps_if (PW.pt (pw_or (pt_not (pt_val (pe_callB call_isiT (by rfl) T.free_isinstance (by decide +kernel) (pa_cons (pv 0) (pa_cons (pe_tup (pa_cons (pe_bltn (by rfl) T.free_tuple (by decide +kernel) (v := .ty "tuple") rfl) (pa_cons (pe_bltn (by rfl) T.free_list (by decide +kernel) (v := .ty "list") rfl) pa_nil))) pa_nil))))) (pw_or1 (pt_cmpR op_ne (pe_callB call_isi (by rfl) T.free_isinstance (by decide +kernel) (pa_cons (pv 0) (pa_cons (pe_bltn (by rfl) T.free_list (by decide +kernel) (v := .ty "list") rfl) pa_nil))) (pe_callB call_isi (by rfl) T.free_isinstance (by decide +kernel) (pa_cons (pv 1) (pa_cons (pe_bltn (by rfl) T.free_list (by decide +kernel) (v := .ty "list") rfl) pa_nil))) (nomark _)))))
   (pss_one (ps_ret pe_bl))
   pss_nil)
  (pss_cons (ps_if (pt_cmpR op_ne (pe_callB call_len_seq (by rfl) T.free_len (by decide +kernel) (pa_cons (pv 0) pa_nil)) (pe_callB call_len_seq (by rfl) T.free_len (by decide +kernel) (pa_cons (pv 1) pa_nil)) (nomark _))
   (pss_one (ps_ret pe_bl))
   pss_nil)
  (pss_one (ps_ret (pe_cmpR (op_eqD hr.units) (pe_lc (own := [("_law_k", 3)]) (g := gName 3) (by rfl) sc__law_same.nd (pi_range1 (by rfl) T.free_range (pa_cons (pe_callB call_len_seq (by rfl) T.free_len (by decide +kernel) (pa_cons (pv 1) pa_nil)) pa_nil)) (blkOk_by (own := [("_law_k", 3)]) (N := N__law_same) (sc := defScope sD__law_same) (by decide +kernel)) (fun _ _ _ _ _ => (pg_name (i := 3) sc__law_same.nd rfl (Or.inl rfl))) (fun _ _ _ _ _ => (pts_one (pt_not (pt_val (pe_c c__law_same hr (Nat.le_refl _) (by rfl) (pa_cons (pe_ix (r := rIx K) ix_seq (pv 0) (pv 3) (fun _ _ => rfl)) (pa_cons (pe_ix (r := rIx K) ix_seq (pv 1) (pv 3) (fun _ _ => rfl)) pa_nil))))))) (fun _ _ _ _ _ => (pv 3))) (pe_lst pa_nil) (nomark _))))))
   pss_nil)
  (pss_cons (ps_set (i := 2) sc__law_same.nd rfl (Or.inl rfl) (pe_and (pe_cmpR op_eq (pe_callB call_isi (by rfl) T.free_isinstance (by decide +kernel) (pa_cons (pv 0) (pa_cons (pe_bltn (by rfl) T.free_bool (by decide +kernel) (v := .ty "bool") rfl) pa_nil))) (pe_callB call_isi (by rfl) T.free_isinstance (by decide +kernel) (pa_cons (pv 1) (pa_cons (pe_bltn (by rfl) T.free_bool (by decide +kernel) (v := .ty "bool") rfl) pa_nil))) (nomark _)) (pe_one (pe_cmpR op_eq (pe_callB call_isi (by rfl) T.free_isinstance (by decide +kernel) (pa_cons (pv 0) (pa_cons (pe_bltn (by rfl) T.free_int (by decide +kernel) (v := .ty "int") rfl) pa_nil))) (pe_callB call_isi (by rfl) T.free_isinstance (by decide +kernel) (pa_cons (pv 1) (pa_cons (pe_bltn (by rfl) T.free_int (by decide +kernel) (v := .ty "int") rfl) pa_nil))) (nomark _)))))
  (pss_one (ps_ret (pe_and (pv 2) (pe_one (pe_cmpR op_eq (pv 0) (pv 1) (nomark _)))))))), ?_⟩
    rcases he with ⟨i, rfl, rfl⟩ | ⟨z, rfl, rfl⟩ | ⟨a, b, xs, ys, rfl, rfl, ha, hb, hlen, hle, hall⟩ | ⟨a, b, xs, ys, rfl, rfl, ha, hb, hlen, hle, hall⟩
    · -- int
      refine ⟨_, rfl, (by show 2 ≤ sizeLine; decide), fun tp htp => ⟨_, tp, _, _, _, false, rfl, upd_same, .cons (.ty _) (.cons (.ty _) .nil), .base (.int _), kitTL (r1 := false) (r2 := false) (by decide +kernel) (by decide +kernel) rfl, false, rfl, ?_⟩⟩
      refine iteF ?_
      refine ⟨_, rfl, _, _, _, _, _, rfl, .ty _, .base (.int _), kit_ty (r := false) (by decide +kernel), _, rfl, _, _, _, _, _, rfl, .ty _, .base (.int _), kit_ty (r := false) (by decide +kernel), rfl, true, rfl, iteT ?_⟩
      refine ⟨_, rfl, _, _, _, _, _, rfl, .ty _, .base (.int _), kit_ty (r := true) (by decide +kernel), _, rfl, _, _, _, _, _, rfl, .ty _, .base (.int _), kit_ty (r := true) (by decide +kernel), rfl, ?_⟩
      refine ⟨_, rfl, true, rfl, iteT ⟨_, rfl, _, rfl, rfl, ?_⟩⟩
      rw [decide_eq_true rfl]
      exact k _ (Same.new htp)
    · -- str
      refine ⟨_, rfl, (by show 2 ≤ sizeLine; decide), fun tp htp => ⟨_, tp, _, _, _, false, rfl, upd_same, .cons (.ty _) (.cons (.ty _) .nil), .base (.str _), kitTL (r1 := false) (r2 := false) (by decide +kernel) (by decide +kernel) rfl, false, rfl, ?_⟩⟩
      refine iteF ?_
      refine ⟨_, rfl, _, _, _, _, _, rfl, .ty _, .base (.str _), kit_ty (r := false) (by decide +kernel), _, rfl, _, _, _, _, _, rfl, .ty _, .base (.str _), kit_ty (r := false) (by decide +kernel), rfl, true, rfl, iteT ?_⟩
      refine ⟨_, rfl, _, _, _, _, _, rfl, .ty _, .base (.str _), kit_ty (r := false) (by decide +kernel), _, rfl, _, _, _, _, _, rfl, .ty _, .base (.str _), kit_ty (r := false) (by decide +kernel), rfl, ?_⟩
      refine ⟨_, rfl, true, rfl, iteT ⟨_, rfl, _, rfl, rfl, ?_⟩⟩
      rw [decide_eq_true rfl]
      exact k _ (Same.new htp)
    · -- list
      refine ⟨_, rfl, (by show 2 ≤ sizeLine; decide), fun tp htp => ⟨_, tp, _, _, _, true, rfl, upd_same, .cons (.ty _) (.cons (.ty _) .nil), .base (.lst (Same.new htp _ _ hb)), kitTL (r1 := false) (r2 := true) (by decide +kernel) (by decide +kernel) rfl, true, rfl, ?_⟩⟩
      refine iteT ?_
      have s1 : Same H (upd H tp (.tup [V.ty "tuple", V.ty "list"])) := Same.new htp
      generalize upd H tp (.tup [V.ty "tuple", V.ty "list"]) = H1 at s1 ⊢
      have ha1 := s1 _ _ ha
      have hb1 := s1 _ _ hb
      refine ⟨_, rfl, (by show 2 ≤ sizeLine; decide), fun tq htq => ⟨_, tq, _, _, _, true, rfl, upd_same, .cons (.ty _) (.cons (.ty _) .nil), .base (.lst (Same.new htq _ _ ha1)), kitTL (r1 := false) (r2 := true) (by decide +kernel) (by decide +kernel) rfl, true, rfl, ?_⟩⟩
      have s2 : Same H (upd H1 tq (.tup [V.ty "tuple", V.ty "list"])) := s1.add htq
      generalize upd H1 tq (.tup [V.ty "tuple", V.ty "list"]) = H2 at s2 ⊢
      have ha2 := s2 _ _ ha
      have hb2 := s2 _ _ hb
      refine iteF ?_
      refine ⟨_, rfl, _, _, _, _, _, rfl, .ty _, .base (.lst ha2), kit_ty (r := true) (by decide +kernel), _, rfl, _, _, _, _, _, rfl, .ty _, .base (.lst hb2), kit_ty (r := true) (by decide +kernel), rfl, _, rfl, ?_⟩
      refine iteF ?_
      refine ⟨_, rfl, a, _, rfl, .inl (SqL.of ha2), _, rfl, b, _, rfl, .inl (SqL.of hb2), rfl, _, rfl, ?_⟩
      rw [hlen, decide_eq_true rfl]
      refine iteF ?_
      refine ⟨_, rfl, b, _, rfl, .inl (SqL.of hb2), _, rfl, by omega, by omega, fun Dl hD => ?_⟩
      refine lc_range (n := ys.length) (fun i H' => Same H2 H' ∧ H' Dl = some (.lst [])) ⟨Same.new hD, upd_same⟩ ?_ ?_
      · rintro i H3 hi ⟨s3, hDl⟩
        obtain ⟨v, hv⟩ : ∃ v, ys[i]? = some v := ⟨_, List.getElem?_eq_getElem hi⟩
        obtain ⟨u, hu⟩ : ∃ u, xs[i]? = some u := ⟨_, List.getElem?_eq_getElem (by omega)⟩
        have e0 : (0 : Int) + ((i : Nat) : Int) = ((i : Nat) : Int) := by omega
        refine ⟨rfl, ?_⟩
        refine ⟨_, rfl, _, rfl, .inl ⟨a, _, _, _, rfl, rfl, SqL.of (s3 _ _ ha2), (by rw [e0]; exact atI_nat hu), ?_⟩⟩
        refine ⟨_, rfl, _, rfl, .inl ⟨b, _, _, _, rfl, rfl, SqL.of (s3 _ _ hb2), (by rw [e0]; exact atI_nat hv), ?_⟩⟩
        refine ⟨u, v, rfl, (hall i u v hu hv).mono (s2.trans s3), fun H4 s4 => ⟨true, rfl, ?_⟩⟩
        exact iteF ⟨s3.trans s4, s4 _ _ hDl⟩
      · rintro H3 ⟨s3, hDl⟩
        refine ⟨Nat.zero_le _, fun z hz => ?_⟩
        exact ⟨.list [], .list [], .lst (SqL.of (Same.new hz _ _ hDl)) .nil, .lst (SqL.of upd_same) .nil, rfl, rfl, k _ ((s2.trans s3).add hz)⟩
    · -- tuple
      refine ⟨_, rfl, (by show 2 ≤ sizeLine; decide), fun tp htp => ⟨_, tp, _, _, _, true, rfl, upd_same, .cons (.ty _) (.cons (.ty _) .nil), .base (.tup (Same.new htp _ _ hb)), kitTL (r1 := true) (r2 := false) (by decide +kernel) (by decide +kernel) rfl, true, rfl, ?_⟩⟩
      refine iteT ?_
      have s1 : Same H (upd H tp (.tup [V.ty "tuple", V.ty "list"])) := Same.new htp
      generalize upd H tp (.tup [V.ty "tuple", V.ty "list"]) = H1 at s1 ⊢
      have ha1 := s1 _ _ ha
      have hb1 := s1 _ _ hb
      refine ⟨_, rfl, (by show 2 ≤ sizeLine; decide), fun tq htq => ⟨_, tq, _, _, _, true, rfl, upd_same, .cons (.ty _) (.cons (.ty _) .nil), .base (.tup (Same.new htq _ _ ha1)), kitTL (r1 := true) (r2 := false) (by decide +kernel) (by decide +kernel) rfl, true, rfl, ?_⟩⟩
      have s2 : Same H (upd H1 tq (.tup [V.ty "tuple", V.ty "list"])) := s1.add htq
      generalize upd H1 tq (.tup [V.ty "tuple", V.ty "list"]) = H2 at s2 ⊢
      have ha2 := s2 _ _ ha
      have hb2 := s2 _ _ hb
      refine iteF ?_
      refine ⟨_, rfl, _, _, _, _, _, rfl, .ty _, .base (.tup ha2), kit_ty (r := false) (by decide +kernel), _, rfl, _, _, _, _, _, rfl, .ty _, .base (.tup hb2), kit_ty (r := false) (by decide +kernel), rfl, _, rfl, ?_⟩
      refine iteF ?_
      refine ⟨_, rfl, a, _, rfl, .inr (SqT.of ha2), _, rfl, b, _, rfl, .inr (SqT.of hb2), rfl, _, rfl, ?_⟩
      rw [hlen, decide_eq_true rfl]
      refine iteF ?_
      refine ⟨_, rfl, b, _, rfl, .inr (SqT.of hb2), _, rfl, by omega, by omega, fun Dl hD => ?_⟩
      refine lc_range (n := ys.length) (fun i H' => Same H2 H' ∧ H' Dl = some (.lst [])) ⟨Same.new hD, upd_same⟩ ?_ ?_
      · rintro i H3 hi ⟨s3, hDl⟩
        obtain ⟨v, hv⟩ : ∃ v, ys[i]? = some v := ⟨_, List.getElem?_eq_getElem hi⟩
        obtain ⟨u, hu⟩ : ∃ u, xs[i]? = some u := ⟨_, List.getElem?_eq_getElem (by omega)⟩
        have e0 : (0 : Int) + ((i : Nat) : Int) = ((i : Nat) : Int) := by omega
        refine ⟨rfl, ?_⟩
        refine ⟨_, rfl, _, rfl, .inr (.inl ⟨a, _, _, _, rfl, rfl, SqT.of (s3 _ _ ha2), (by rw [e0]; exact atI_nat hu), ?_⟩)⟩
        refine ⟨_, rfl, _, rfl, .inr (.inl ⟨b, _, _, _, rfl, rfl, SqT.of (s3 _ _ hb2), (by rw [e0]; exact atI_nat hv), ?_⟩)⟩
        refine ⟨u, v, rfl, (hall i u v hu hv).mono (s2.trans s3), fun H4 s4 => ⟨true, rfl, ?_⟩⟩
        exact iteF ⟨s3.trans s4, s4 _ _ hDl⟩
      · rintro H3 ⟨s3, hDl⟩
        refine ⟨Nat.zero_le _, fun z hz => ?_⟩
        exact ⟨.list [], .list [], .lst (SqL.of (Same.new hz _ _ hDl)) .nil, .lst (SqL.of upd_same) .nil, rfl, rfl, k _ ((s2.trans s3).add hz)⟩
end
end Rs
namespace Rs
open PySem PySem.Spec PyProof.Rows L2 C8
theorem eqn_lists {H : Hp} {a b : Addr} {ts us : List Addr} {n : Nat} (ha : H a = some (.lst (ts.map V.ref))) (hb : H b = some (.lst (us.map V.ref))) (hl : ts.length = us.length) (hn : ts.length ≤ 2000) (h : ∀ (i : Nat) (t u : Addr), ts[i]? = some t → us[i]? = some u → EqN n H (.ref t) (.ref u)) : EqN (n + 1) H (.ref a) (.ref b) := by
  refine .inr (.inr (.inl ⟨a, b, _, _, rfl, rfl, ha, hb, by rw [List.length_map, List.length_map]; exact hl, by rw [List.length_map]; exact hn, fun i x y h1 h2 => ?_⟩))
  rw [List.getElem?_map] at h1 h2
  cases e1 : ts[i]? with
  | none =>
    rw [e1] at h1
    cases h1
  | some t =>
    cases e2 : us[i]? with
    | none =>
      rw [e2] at h2
      cases h2
    | some u =>
      rw [e1] at h1
      rw [e2] at h2
      cases h1
      cases h2
      exact h i t u e1 e2
theorem eqn_pairs {H : Hp} {a b : Addr} {ts us : List Addr} {L : List (Int × Kd)} (ha : H a = some (.lst (ts.map V.ref))) (hb : H b = some (.lst (us.map V.ref))) (h1 : PairsAt H ts L) (h2 : PairsAt H us L) (hn : L.length ≤ 2000) : EqN 3 H (.ref a) (.ref b) := by
  refine eqn_lists ha hb (h1.1.trans h2.1.symm) (by rw [h1.1]; exact hn) fun i t u k1 k2 => ?_
  have hi : i < L.length := by
    rw [← h1.1]
    exact (List.getElem?_eq_some_iff.mp k1).1
  have e1 := h1.2 i t L[i] k1 (List.getElem?_eq_getElem hi)
  have e2 := h2.2 i u L[i] k2 (List.getElem?_eq_getElem hi)
  refine .inr (.inr (.inr ⟨t, u, _, _, rfl, rfl, e1, e2, rfl, by show 2 ≤ 2000; decide, fun j x y j1 j2 => ?_⟩))
  match j, j1, j2 with
  | 0, j1, j2 =>
    cases j1
    cases j2
    exact .inl ⟨_, rfl, rfl⟩
  | 1, j1, j2 =>
    cases j1
    cases j2
    exact .inr (.inl ⟨_, rfl, rfl⟩)
  | j + 2, j1, _ => cases j1
theorem eqn_aparts {H : Hp} {a b : Addr} {ts us : List Addr} {L : List Pt} (ha : H a = some (.lst (ts.map V.ref))) (hb : H b = some (.lst (us.map V.ref))) (h1 : Rg.PrsAt H ts L) (h2 : Rg.PrsAt H us L) (hn : L.length ≤ 2000) : EqN 3 H (.ref a) (.ref b) := by
  refine eqn_lists ha hb (h1.1.trans h2.1.symm) (by rw [h1.1]; exact hn) fun i t u k1 k2 => ?_
  have hi : i < L.length := by
    rw [← h1.1]
    exact (List.getElem?_eq_some_iff.mp k1).1
  have e1 := h1.2 i t L[i] k1 (List.getElem?_eq_getElem hi)
  have e2 := h2.2 i u L[i] k2 (List.getElem?_eq_getElem hi)
  refine .inr (.inr (.inr ⟨t, u, _, _, rfl, rfl, e1, e2, rfl, by show 2 ≤ 2000; decide, fun j x y j1 j2 => ?_⟩))
  match j, j1, j2 with
  | 0, j1, j2 =>
    cases j1
    cases j2
    exact .inl ⟨_, rfl, rfl⟩
  | 1, j1, j2 =>
    cases j1
    cases j2
    exact .inl ⟨_, rfl, rfl⟩
  | j + 2, j1, _ => cases j1
theorem rk4_row {H : Hp} {kvs : List (L2.Key × V)} {rows : List (Int × Row)} {p : Int} {r : Row} (h : RK4 H kvs rows) (nd : (rows.map (·.1)).Nodup) (m : (p, r) ∈ rows) : ∃ t, valV kvs (Sum.inl p) = some (.ref t) ∧ Row4 H t r := by
  obtain ⟨i, hi, e⟩ := List.mem_iff_getElem.mp m
  have hk : i < kvs.length := by
    rw [h.1]
    exact hi
  obtain ⟨t, e1, e2⟩ := h.2 i kvs[i] rows[i] (List.getElem?_eq_getElem hk) (List.getElem?_eq_getElem hi)
  rw [e] at e1 e2
  exact ⟨t, rk4_at h nd (by rw [List.getElem?_eq_getElem hk, e1]), e2⟩
theorem two_at {x y : V} {i : Nat} {u : V} (h : ([x, y] : List V)[i]? = some u) : (i = 0 ∧ u = x) ∨ (i = 1 ∧ u = y) := by
  match i, h with
  | 0, h =>
    cases h
    exact .inl ⟨rfl, rfl⟩
  | 1, h =>
    cases h
    exact .inr ⟨rfl, rfl⟩
  | i + 2, h => cases h
def dLL (a b : List Int) : PyData := .list [.list (dI a), .list (dI b)]
theorem shaped_LL (a b : List Int) : SeqAt.shaped (dLL a b) = true := by
  have h1 : PyData.canLay0 (dLL a b) = true := by
    show (PyData.canLayAll0 (dI a) && (PyData.canLayAll0 (dI b) && true)) = true
    rw [lay_ints a, lay_ints b]
    rfl
  have h2 : PyData.depth (dLL a b) ≤ 64 := by
    show max (PyData.depthAll (dI a) + 1) (max (PyData.depthAll (dI b) + 1) 0) + 1 ≤ 64
    rw [depth_ints, depth_ints]
    decide
  unfold SeqAt.shaped
  rw [h1, decide_eq_true h2]
  rfl
theorem eqv_LL (a b : List Int) : PyData.eqv (dLL a b) (dLL a b) = true := by
  have := PySem.W.Datum.eqv ([a, b] : List (List Int)) [a, b]
  rw [decide_eq_true rfl] at this
  exact this
theorem come_none : comeL [] [0] = [] := by
  cases e : comeL [] [0] with
  | nil => rfl
  | cons x l =>
    have := come_len [] [0]
    rw [e] at this
    cases this
theorem apart_none : apartL [144] [5] = [] := by
  unfold apartL
  have : (trace [144] [5]).apart = [] := by decide +kernel
  rw [this]
  exact List.mergeSort_nil
section
variable {P : Program} {w : World} {K : PySem.W.Frag} {mg : Str → Option Value} {base : Heap}
def spLawT (Tb : Addr) (K : PySem.W.Frag) : Sp := fun vs H Q _ => ∃ (a : Addr) (ns : List Int), vs = [.ref a] ∧ SqL K H a (ns.map V.int) ∧ H Tb = some (Rg.TabO Tb) ∧ ∀ H', H' Tb = some (Rg.TabO Tb) → Q (.bl true) H'
theorem ok_law12 {fd : FuncData} {kc : Nat} {Tb : Addr} (hkc : kc ≤ 7) (F : FnP K "law" "law" sD_law (He.ga K "law") fd) (T : Txt w K mg) (c__law_start : Cal P w K mg base 1 "_law_start" (spStart K) [])
    (c__law_any_words : Cal P w K mg base 2 "_law_any_words" (spAny K) []) (c__law_begins : Cal P w K mg base 2 "_law_begins" (spBegins K) []) (c__law_trace : Cal P w K mg base 3 "_law_trace" spTrace []) (c__law_same : Cal P w K mg base 5 "_law_same" (spSame 4) [])
    (c_come_to : Cal P w K mg base kc "come_to" (spCome Tb) []) (c_middles : Cal P w K mg base kc "middles" (spMid Tb) []) : FnOk P w K mg base L2.CX0 8 (He.ga K "law") fd ["_law_script"] (spLawT Tb K) := by
  refine fnok_of F sc_law (fun vs H Q E h => ?_) (fun cdv A outer s H vs Q E hr h => ?_)
  · obtain ⟨a, ns, rfl, _⟩ := h
    rfl
  · obtain ⟨a, ns, rfl, hS, hT, k⟩ := h
    refine ⟨_, (pss_cons (ps_set (i := 1) sc_law.nd rfl (Or.inl rfl) (pe_c c__law_start hr (by decide) (by rfl) (pa_cons (pv 0) pa_nil)))
  (pss_cons (ps_for PassesOwn.never rfl (pi_range1 (by rfl) T.free_range (pa_cons pe_int pa_nil)) (pg_name (i := 2) sc_law.nd rfl (Or.inl rfl))
   (pss_cons (ps_set (i := 3) sc_law.nd rfl (Or.inl rfl) (pe_c c__law_any_words hr (by decide) (by rfl) (pa_cons (pv 1) pa_nil)))
  (pss_cons (ps_set (i := 4) sc_law.nd rfl (Or.inl rfl) (pe_c c__law_begins hr (by decide) (by rfl) (pa_cons (pv 1) (pa_cons (pv 3) pa_nil))))
  (pss_cons (ps_asg (pe_c c__law_trace hr (by decide) (by rfl) (pa_cons (pv 3) (pa_cons (pv 4) pa_nil))) (pg_tup rfl (pgs_cons (pg_name (i := 5) sc_law.nd rfl (Or.inr rfl)) (pgs_cons (pg_name (i := 6) sc_law.nd rfl (Or.inl rfl)) pgs_nil))))
  (pss_cons (ps_set (i := 7) sc_law.nd rfl (Or.inl rfl) (pe_lst (pa_cons (pe_lc (own := [("_law_place", 11)]) (g := gName 11) (by rfl) sc_law.nd (pi_list (pe_callB (Rg.cr_sortedD rfl) (by rfl) T.free_sorted (by decide +kernel) (pa_cons (pv 5) pa_nil))) (blkOk_by (own := [("_law_place", 11)]) (N := N_law) (sc := defScope sD_law) (by decide +kernel)) (fun _ _ _ _ _ => (pg_name (i := 11) sc_law.nd rfl (Or.inl rfl))) (fun _ _ _ _ _ => pts_nil) (fun _ _ _ _ _ => (pe_tup (pa_cons (pv 11) (pa_cons (pe_ix (r := rIxT K) ix_tup (pe_dget (hu_of hr) (pv 5) (pv 11) (fun _ _ => rfl)) pe_int (fun _ _ => rfl)) pa_nil))))) (pa_cons (pv 6) pa_nil))))
  (pss_cons (ps_set (i := 8) sc_law.nd rfl (Or.inl rfl) (pe_lst (pa_cons (pe_callTy call_list_of (by rfl) T.free_list (by decide +kernel) (pa_cons (pv 3) pa_nil)) (pa_cons (pe_callTy call_list_of (by rfl) T.free_list (by decide +kernel) (pa_cons (pv 4) pa_nil)) pa_nil))))
  (pss_one (ps_for PassesOwn.never rfl (pi_range1 (by rfl) T.free_range (pa_cons pe_int pa_nil)) (pg_name (i := 9) sc_law.nd rfl (Or.inl rfl))
   (pss_cons (ps_set (i := 10) sc_law.nd rfl (Or.inl rfl) (pe_lst (pa_cons (pe_c c_come_to hr hkc (by rfl) (pa_cons (pe_ix ix_list (pv 8) pe_int (fun _ _ => rfl)) (pa_cons (pe_ix ix_list (pv 8) pe_int (fun _ _ => rfl)) pa_nil))) (pa_cons (pe_c c_middles hr hkc (by rfl) (pa_cons (pe_ix ix_list (pv 8) pe_int (fun _ _ => rfl)) (pa_cons (pe_ix ix_list (pv 8) pe_int (fun _ _ => rfl)) pa_nil))) pa_nil))))
  (pss_cons (ps_if (PW.pt (pw_or (pt_not (pt_val (pe_c c__law_same hr (by decide) (by rfl) (pa_cons (pv 10) (pa_cons (pv 7) pa_nil))))) (pw_or1 (pt_cmpR (op_neD hr.units) (pv 8) (pe_lst (pa_cons (pv 3) (pa_cons (pv 4) pa_nil))) (nomark _)))))
   (pss_one (ps_ret pe_bl))
   pss_nil)
  (pss_cons (ps_expr (pe_bm PySem.F.plainAttrs_list PySem.F.slot_list_append PySem.F.type_list_append mt_append (pe_ix ix_list (pv 10) pe_int (fun _ _ => rfl)) (pa_cons pe_int pa_nil)))
  (pss_one (ps_expr (pe_bm PySem.F.plainAttrs_list PySem.F.slot_list_append PySem.F.type_list_append mt_append (pe_ix ix_list (pv 10) pe_int (fun _ _ => rfl)) (pa_cons pe_int pa_nil)))))))))))))))
  (pss_one (ps_ret (pe_and (pe_cmpR (op_eqD hr.units) (pe_c c_come_to hr hkc (by rfl) (pa_cons (pe_lst pa_nil) (pa_cons (pe_lst (pa_cons pe_int pa_nil)) pa_nil))) (pe_lst pa_nil) (nomark _)) (pe_one (pe_cmpR (op_eqD hr.units) (pe_c c_middles hr hkc (by rfl) (pa_cons (pe_lst (pa_cons pe_int pa_nil)) (pa_cons (pe_lst (pa_cons pe_int pa_nil)) pa_nil))) (pe_lst pa_nil) (nomark _)))))))), ?_⟩
    refine ⟨_, rfl, a, ns, rfl, hS, fun st mix hst => ?_⟩
    have hSc : Scr K (upd H st (.lst (stt a 0 mix 0))) st a ns := Scr.of hS hst _
    have t0 : St3 (upd H st (.lst (stt a 0 mix 0))) st a := ⟨0, mix, 0, upd_same, by decide⟩
    have nT : Tb ≠ st := ne_of_none hT hst
    have hT0 : upd H st (.lst (stt a 0 mix 0)) Tb = some (Rg.TabO Tb) := (upd_ne nT).trans hT
    generalize upd H st (.lst (stt a 0 mix 0)) = H0 at hSc t0 hT0 ⊢
    refine ⟨4, rfl, by decide, by decide, for_range (n := 4) (fun i σ H' => ∃ x2 x3 x4 x5 x6 x7 x8 x9 x10 x11 : Option V, σ = [some (.ref a), some (.ref st), x2, x3, x4, x5, x6, x7, x8, x9, x10, x11] ∧ Pr st H0 H' ∧ St3 H' st a) ⟨_, _, _, _, _, _, _, _, _, _, rfl, Pr.refl _ _, t0⟩ ?_ ?_⟩
    · rintro i σ G0 hi ⟨x2, x3, x4, x5, x6, x7, x8, x9, x10, x11, rfl, p0, u0⟩
      refine ⟨_, rfl, st, a, ns, rfl, u0, hSc.pr p0, fun G1 pw ws p1 u1 zw hw hl hb => ?_⟩
      have nw : pw ≠ st := (u0.ne zw).symm
      have q1 := p0.trans p1
      refine ⟨_, rfl, _, rfl, st, a, pw, ns, ws, rfl, u1, hSc.pr q1, nw, hw, hl, fun G2 pb bs p2 u2 zb hbs b1 b16 bv => ?_⟩
      have nb : pb ≠ st := (u1.ne zb).symm
      have q2 := q1.trans p2
      have hw2 := p2 _ _ hw nw
      have hT2 : G2 Tb = some (Rg.TabO Tb) := q2 _ _ hT0 nT
      refine ⟨_, rfl, _, rfl, pw, pb, ws, bs, rfl, hw2, hbs, hl, hb, b16, fun G3 tt dr pa kr ts s3 htt hdr hrk hpa hpr ztt zdr zpa => ?_⟩
      refine ⟨tt, _, rfl, SqT.of htt, rfl, _, _, rfl, _, _, rfl, rfl, ?_⟩
      -- what is due
      refine ⟨_, rfl, dr, kr, (trace ws bs).rows.map (·.1), rfl, .inl hdr, rk4_keys hrk, fun ys p hy1 hy2 hp => ?_⟩
      have ey := come_keys hy1 hy2
      subst ey
      have s4 := Same.new (o := .lst (il ((comeL ws bs).map (·.1)))) hp
      have hpl : upd G3 p (.lst (il ((comeL ws bs).map (·.1)))) p = some (.lst (il ((comeL ws bs).map (·.1)))) := upd_same
      have s34 := s3.trans s4
      have hdr4 := s4 _ _ hdr
      have hrk4 := hrk.mono s4
      generalize upd G3 p (.lst (il ((comeL ws bs).map (·.1)))) = G4 at s4 hpl s34 hdr4 hrk4 ⊢
      refine ⟨p, rfl, ⟨_, SqL.of hpl⟩, fun Dl hD => ?_⟩
      refine lc_list (K := K) (a := p) (xs := il ((comeL ws bs).map (·.1))) (fun i H' => ∃ us : List Addr, H' Dl = some (.lst (us.map V.ref)) ∧ PairsAt H' us ((comeL ws bs).take i) ∧ Same G4 H') ⟨[], upd_same, ⟨rfl, fun i t e h1 => by cases h1⟩, Same.new hD⟩ (fun i H' _ ⟨us, _, _, z⟩ => SqL.of (z _ _ hpl)) ?_ ?_
      · rintro i v H' hv ⟨us, h1, h2, h3⟩
        obtain ⟨hi, rfl⟩ := ints_get hv
        rw [List.length_map] at hi
        have e0 : ((comeL ws bs).map (·.1)).getD i 0 = ((comeL ws bs)[i]).1 := by
          rw [List.getD_eq_getElem?_getD, List.getElem?_map, List.getElem?_eq_getElem hi]
          rfl
        rw [e0]
        obtain ⟨er, m1, m2⟩ := List.mem_map.mp (List.mem_mergeSort.mp (List.getElem_mem hi : (comeL ws bs)[i] ∈ comeL ws bs))
        obtain ⟨t, g1, b', n', g2, _⟩ := rk4_row (p := er.1) (r := er.2) hrk4 (trace_nd ws bs) m1
        have ep : ((comeL ws bs)[i]).1 = er.1 := by rw [← m2]
        have ek : ((comeL ws bs)[i]).2 = er.2.k := by rw [← m2]
        refine ⟨rfl, yesT ?_⟩
        refine iteT ⟨_, rfl, _, rfl, _, rfl, dr, .ref t, rfl, ?_, t, _, _, _, rfl, rfl, SqT.of (h3 _ _ g2), atI_nat (j := 0) rfl, (by show 2 ≤ sizeLine; decide), fun t' ht => ⟨_, Same.new ht _ _ h1, ?_, us ++ [t'], ?_, ?_, ?_⟩⟩
        · rw [ep, ← g1]
          exact DGet.k (k := Sum.inl er.1) (h3 _ _ hdr4)
        · rw [List.length_map, h2.1, List.length_take]
          have := come_len ws bs
          exact Nat.lt_of_le_of_lt (Nat.le_trans (Nat.min_le_right _ _) (show (comeL ws bs).length ≤ 256 by omega)) (by decide)
        · rw [upd_same, List.map_append]
          rfl
        · have nlt : Dl ≠ t' := ne_of_none h1 ht
          have e1 : (comeL ws bs).take (i + 1) = (comeL ws bs).take i ++ [(comeL ws bs)[i]] := by
            rw [List.take_add_one, List.getElem?_eq_getElem hi]
            rfl
          rw [e1]
          refine pairs_snoc (pairs_mono h2 fun q xs e => ?_) ?_
          · rw [upd_ne (ne_of (Same.new ht _ _ e) (Same.new (o := .tup [V.int ((comeL ws bs)[i]).1, V.str er.2.k.str]) ht _ _ h1) (fun z => by cases z))]
            exact Same.new ht _ _ e
          · rw [upd_ne nlt.symm, upd_same, ek]
        · intro q o e
          rw [upd_ne (ne_of_none e hD)]
          exact Same.new ht _ _ (h3 _ _ e)
      rintro G5 ⟨us, hDl, hpu, s5⟩
      rw [List.length_map, List.length_map, List.take_length] at hpu
      refine ⟨_, rfl, (by show 2 ≤ sizeLine; decide), fun ld hld => ?_⟩
      have s6 := s5.add (o := .lst [.ref Dl, .ref pa]) hld
      have hld6 : upd G5 ld (.lst [.ref Dl, .ref pa]) ld = some (.lst [.ref Dl, .ref pa]) := upd_same
      have sd6 := Same.new (o := .lst [.ref Dl, .ref pa]) hld
      have hDl6 := sd6 _ _ hDl
      have hpu6 : PairsAt (upd G5 ld (.lst [.ref Dl, .ref pa])) us (comeL ws bs) := pairs_mono hpu fun q xs e => sd6 _ _ e
      have s36 := s34.trans s6
      have s46 := s4.trans s6
      generalize upd G5 ld (.lst [.ref Dl, .ref pa]) = G6 at s6 hld6 hDl6 hpu6 s36 s46 ⊢
      have hpa6 := s46 _ _ hpa
      have hpr6 : Rg.PrsAt G6 ts (apartL ws bs) := PrsAt_mono hpr fun q xs e => s46 _ _ e
      have hw6 := s36 _ _ hw2
      have hb6 := s36 _ _ hbs
      have hT6 := s36 _ _ hT2
      clear s4 s34 s5 s6 sd6 s46 hdr4 hrk4 hpl hpu hDl hpa hpr hdr hrk htt
      refine ⟨_, rfl, pw, _, rfl, .inl (SqL.of hw6), fun l1 hl1 => ?_⟩
      have s7 := Same.new (o := .lst (il ws)) hl1
      have e17 : upd G6 l1 (.lst (il ws)) l1 = some (.lst (il ws)) := upd_same
      generalize upd G6 l1 (.lst (il ws)) = G7 at s7 e17 ⊢
      refine ⟨_, rfl, pb, _, rfl, .inl (SqL.of (s7 _ _ hb6)), fun l2 hl2 => ?_⟩
      have s8 := Same.new (o := .lst (il bs)) hl2
      have e28 : upd G7 l2 (.lst (il bs)) l2 = some (.lst (il bs)) := upd_same
      have e18 := s8 _ _ e17
      generalize upd G7 l2 (.lst (il bs)) = G8 at s8 e28 e18 ⊢
      refine ⟨(by show 2 ≤ sizeLine; decide), fun lh hlh => ?_⟩
      have s9 := Same.new (o := .lst [V.ref l1, V.ref l2]) hlh
      have eh9 : upd G8 lh (.lst [V.ref l1, V.ref l2]) lh = some (.lst [V.ref l1, V.ref l2]) := upd_same
      have e29 := s9 _ _ e28
      have e19 := s9 _ _ e18
      have s69 := (s7.trans s8).trans s9
      generalize upd G8 lh (.lst [V.ref l1, V.ref l2]) = G9 at s9 eh9 e29 e19 s69 ⊢
      have hw9 := s69 _ _ hw6
      have hb9 := s69 _ _ hb6
      have hT9 := s69 _ _ hT6
      have hld9 := s69 _ _ hld6
      have hDl9 := s69 _ _ hDl6
      have hpa9 := s69 _ _ hpa6
      have hpu9 : PairsAt G9 us (comeL ws bs) := pairs_mono hpu6 fun q xs e => s69 _ _ e
      have hpr9 : Rg.PrsAt G9 ts (apartL ws bs) := PrsAt_mono hpr6 fun q xs e => s69 _ _ e
      have s29 := s36.trans s69
      clear s7 s8 s9 e17 e28 e18 s69 s36 hw6 hb6 hT6 hld6 hDl6 hpa6 hpu6 hpr6
      refine ⟨2, rfl, by decide, by decide, for_range (n := 2) (fun j σ H' => ∃ x9 x10 : Option V, σ = [some (.ref a), some (.ref st), some (.int (0 + (i : Int))), some (.ref pw), some (.ref pb), some (.ref dr), some (.ref pa), some (.ref ld), some (.ref lh), x9, x10, x11] ∧ Same G9 H') ⟨_, _, rfl, Same.refl _⟩ ?_ ?_⟩
      · rintro j σ J0 hj ⟨x9, x10, rfl, sJ⟩
        refine ⟨_, rfl, lh, _, _, _, rfl, rfl, SqL.of (sJ _ _ eh9), atI_nat (j := 0) rfl, _, rfl, lh, _, _, _, rfl, rfl, SqL.of (sJ _ _ eh9), atI_nat (j := 1) rfl, ws, bs, ⟨sJ _ _ hT9, l1, l2, rfl, sJ _ _ e19, sJ _ _ e29, hl, hb, b16, bv⟩, fun J1 p1 ts1 k1 z1 h1 hp1 => ?_⟩
        have sJ1 := sJ.trans k1
        refine ⟨_, rfl, lh, _, _, _, rfl, rfl, SqL.of (sJ1 _ _ eh9), atI_nat (j := 0) rfl, _, rfl, lh, _, _, _, rfl, rfl, SqL.of (sJ1 _ _ eh9), atI_nat (j := 1) rfl, ws, bs, ⟨sJ1 _ _ hT9, l1, l2, rfl, sJ1 _ _ e19, sJ1 _ _ e29, hl, hb, b16, bv⟩, fun J2 p2 ts2 k2 z2 h2 hp2 => ?_⟩
        refine ⟨(by show 2 ≤ sizeLine; decide), fun lf hlf => ?_⟩
        have k3 := Same.new (o := .lst [V.ref p1, V.ref p2]) hlf
        have f3 : upd J2 lf (.lst [V.ref p1, V.ref p2]) lf = some (.lst [V.ref p1, V.ref p2]) := upd_same
        have g13 := k3 _ _ (k2 _ _ h1)
        have g23 := k3 _ _ h2
        have hp13 : PairsAt (upd J2 lf (.lst [V.ref p1, V.ref p2])) ts1 (comeL ws bs) := pairs_mono hp1 fun q xs e => k3 _ _ (k2 _ _ e)
        have hp23 : Rg.PrsAt (upd J2 lf (.lst [V.ref p1, V.ref p2])) ts2 (apartL ws bs) := PrsAt_mono hp2 fun q xs e => k3 _ _ e
        have sJ3 := (sJ1.trans k2).trans k3
        have n12 : p1 ≠ p2 := (ne_of_none h1 z2)
        have n1f : p1 ≠ lf := ne_of_none (k2 _ _ h1) hlf
        have n2f : p2 ≠ lf := ne_of_none h2 hlf
        have zp1 : G9 p1 = none := sJ.free z1
        have zp2 : G9 p2 = none := sJ1.free z2
        have zlf : G9 lf = none := (sJ1.trans k2).free hlf
        generalize upd J2 lf (.lst [V.ref p1, V.ref p2]) = J3 at f3 g13 g23 hp13 hp23 sJ3 ⊢
        have heq : EqN 4 J3 (.ref lf) (.ref ld) := by
          refine .inr (.inr (.inl ⟨lf, ld, _, _, rfl, rfl, f3, sJ3 _ _ hld9, rfl, by show 2 ≤ 2000; decide, fun i u v h5 h6 => ?_⟩))
          rcases two_at h5 with ⟨e0, rfl⟩ | ⟨e0, rfl⟩
          · subst e0
            cases h6
            exact eqn_pairs g13 (sJ3 _ _ hDl9) hp13 (pairs_mono hpu9 fun q xs e => sJ3 _ _ e) (by have := come_len ws bs; omega)
          · subst e0
            cases h6
            exact eqn_aparts g23 (sJ3 _ _ hpa9) hp23 (PrsAt_mono hpr9 fun q xs e => sJ3 _ _ e) (by have := apart_len ws bs; omega)
        refine ⟨_, rfl, _, rfl, _, _, rfl, heq, fun J4 s4 => ⟨_, rfl, ?_⟩⟩
        have sJ4 := sJ3.trans s4
        refine iteF ?_
        refine ⟨_, rfl, _, rfl, _, rfl, (by show 2 ≤ sizeLine; decide), fun lz hlz => ?_⟩
        have s5 := Same.new (o := .lst [V.ref pw, V.ref pb]) hlz
        have sJ5 := sJ4.trans s5
        have z5 : upd J4 lz (.lst [V.ref pw, V.ref pb]) lz = some (.lst [V.ref pw, V.ref pb]) := upd_same
        have f5 := s5 _ _ (s4 _ _ f3)
        have g15 := s5 _ _ (s4 _ _ g13)
        have g25 := s5 _ _ (s4 _ _ g23)
        generalize upd J4 lz (.lst [V.ref pw, V.ref pb]) = J5 at s5 sJ5 z5 f5 g15 g25 ⊢
        refine ⟨dLL ws bs, dLL ws bs, .lst (SqL.of (sJ5 _ _ eh9)) (.cons (.lst (SqL.of (sJ5 _ _ e19)) (dp_all _)) (.cons (.lst (SqL.of (sJ5 _ _ e29)) (dp_all _)) .nil)), .lst (SqL.of z5) (.cons (.lst (SqL.of (sJ5 _ _ hw9)) (dp_all _)) (.cons (.lst (SqL.of (sJ5 _ _ hb9)) (dp_all _)) .nil)), shaped_LL _ _, shaped_LL _ _, _, rfl, ?_⟩
        rw [eqv_LL]
        refine iteF ?_
        -- lists told are changed
        refine ⟨_, rfl, lf, _, _, _, rfl, rfl, SqL.of f5, atI_nat (j := 0) rfl, .inl ⟨rfl, _, SqL.of g15⟩, p1, _, _, rfl, rfl, g15, ?_, ?_⟩
        · rw [List.length_map, hp13.1]
          have := come_len ws bs
          exact Nat.lt_of_le_of_lt (show (comeL ws bs).length ≤ 256 by omega) (by decide)
        refine ⟨_, rfl, lf, _, _, _, rfl, rfl, SqL.of ((upd_ne n1f.symm).trans f5), atI_nat (j := 1) rfl, .inl ⟨rfl, _, SqL.of ((upd_ne n12.symm).trans g25)⟩, p2, _, _, rfl, rfl, (upd_ne n12.symm).trans g25, ?_, _, _, rfl, ?_⟩
        · rw [List.length_map, hp23.1]
          have := apart_len ws bs
          exact Nat.lt_of_le_of_lt (show (apartL ws bs).length ≤ 528 by omega) (by decide)
        · intro q u e
          rw [upd_ne (ne_of_none e zp2), upd_ne (ne_of_none e zp1)]
          exact sJ5 _ _ e
      · rintro σ J ⟨x9, x10, rfl, sJ⟩
        exact ⟨_, _, _, _, _, _, _, _, _, _, rfl, q2.trans (Same.pr (s29.trans sJ) st), u2.same (s29.trans sJ)⟩
    · rintro σ G ⟨x2, x3, x4, x5, x6, x7, x8, x9, x10, x11, rfl, p0, u0⟩
      have hTG : G Tb = some (Rg.TabO Tb) := p0 _ _ hT0 nT
      clear p0 u0
      refine ⟨Nat.zero_le _, fun c1 hc1 => ?_⟩
      have s1 := Same.new (o := .lst []) hc1
      have e1 : upd G c1 (.lst []) c1 = some (.lst (il [])) := upd_same
      generalize upd G c1 (.lst []) = G1 at s1 e1 ⊢
      refine ⟨(by show 1 ≤ sizeLine; decide), fun c2 hc2 => ?_⟩
      have s2 := s1.add (o := .lst [V.int 0]) hc2
      have e12 := Same.new (o := .lst [V.int 0]) hc2 _ _ e1
      have e22 : upd G1 c2 (.lst [V.int 0]) c2 = some (.lst (il [0])) := upd_same
      generalize upd G1 c2 (.lst [V.int 0]) = G2 at s2 e12 e22 ⊢
      refine ⟨[], [0], ⟨s2 _ _ hTG, c1, c2, rfl, e12, e22, by decide, (fun x hx => by cases hx), by decide, by decide⟩, fun G3 p ts s3 z3 h3 hp3 => ?_⟩
      rw [come_none] at hp3
      have ets : ts = [] := List.eq_nil_of_length_eq_zero hp3.1
      subst ets
      refine ⟨Nat.zero_le _, fun z hz => ⟨.list [], .list [], .lst (SqL.of (Same.new hz _ _ h3)) .nil, .lst (SqL.of upd_same) .nil, rfl, rfl, ?_⟩⟩
      have s4 := (s2.trans s3).add (o := .lst []) hz
      generalize upd G3 z (.lst []) = G4 at s4 ⊢
      refine ⟨true, rfl, iteT ?_⟩
      refine ⟨(by show 1 ≤ sizeLine; decide), fun c3 hc3 => ?_⟩
      have s5 := s4.add (o := .lst [V.int 144]) hc3
      have e5 : upd G4 c3 (.lst [V.int 144]) c3 = some (.lst (il [144])) := upd_same
      generalize upd G4 c3 (.lst [V.int 144]) = G5 at s5 e5 ⊢
      refine ⟨(by show 1 ≤ sizeLine; decide), fun c4 hc4 => ?_⟩
      have s6 := s5.add (o := .lst [V.int 5]) hc4
      have e56 := Same.new (o := .lst [V.int 5]) hc4 _ _ e5
      have e6 : upd G5 c4 (.lst [V.int 5]) c4 = some (.lst (il [5])) := upd_same
      generalize upd G5 c4 (.lst [V.int 5]) = G6 at s6 e56 e6 ⊢
      refine ⟨[144], [5], ⟨s6 _ _ hTG, c3, c4, rfl, e56, e6, by decide, (fun x hx => by rw [List.mem_singleton.mp hx]; exact ⟨by decide, by decide⟩), by decide, by decide⟩, fun G7 p' ts' s7 z7 h7 hp7 => ?_⟩
      rw [apart_none] at hp7
      have ets' : ts' = [] := List.eq_nil_of_length_eq_zero hp7.1
      subst ets'
      refine ⟨Nat.zero_le _, fun z' hz' => ⟨.list [], .list [], .lst (SqL.of (Same.new hz' _ _ h7)) .nil, .lst (SqL.of upd_same) .nil, rfl, rfl, ?_⟩⟩
      exact k _ (((s6.trans s7).add hz') _ _ hTG)
end
end Rs
namespace Rs
open PySem PySem.Spec PyProof.Rows L2 C8
def dD (x : Str) (st : Stmt) : He.DefD := ⟨(x, none), x, x, defArgs st, defBody st, defScope st, [], []⟩
def dWalk : He.DefD := ⟨("Walk", some "__init__"), "__init__", "Walk.__init__", defArgs sD_Walkinit, defBody sD_Walkinit, defScope sD_Walkinit, [], []⟩
def fn0 : List He.DefD := [dD "row_size" sD_row_size, dD "signed" sD_signed, dD "op_of" sD_op_of, dD "boxes_of" sD_boxes_of, dD "row_at" sD_row_at, dD "goal_of" sD_goal_of, dD "leads_of" sD_leads_of, dD "come" sD_come, dD "walked" sD_walked, dD "is_whole" sD_is_whole, dD "check_words" sD_check_words, dD "check_begins" sD_check_begins, dD "checked_walk" sD_checked_walk, dD "come_to" sD_come_to, dD "middles" sD_middles, dD "_law_start" sD__law_start, dD "_law_drawn" sD__law_drawn, dD "_law_same" sD__law_same, dD "_law_all_codes" sD__law_all_codes, dD "_law_read" sD__law_read, dD "_law_any_words" sD__law_any_words, dD "_law_trace" sD__law_trace, dD "_law_begins" sD__law_begins, dD "law" sD_law, dWalk]
def fn : List He.DefD := fn0
def fa0 : List He.Fa := [.glo "row_size", .glo "signed", .glo "op_of", .glo "boxes_of", .glo "row_at", .glo "goal_of", .glo "leads_of", .glo "come", .glo "walked", .glo "is_whole", .glo "check_words", .glo "check_begins", .glo "checked_walk", .glo "come_to", .glo "middles", .glo "_law_start", .glo "_law_drawn", .glo "_law_same", .glo "_law_all_codes", .glo "_law_read", .glo "_law_any_words", .glo "_law_trace", .glo "_law_begins", .glo "law", .glo "OPS", .glo "SPANS", .glo "GOING", .glo "NOT_BEHIND", .glo "Walk", .free "any"]
def fa1 : List He.Fa := [.free "bool", .free "dict", .free "enumerate", .free "int", .free "isinstance", .free "len", .free "list", .free "min", .free "range", .free "sorted", .free "tuple", .int "TAKE_FIRST" 144, .int "TAKE_SPAN" 32, .int "TAKE_NUMBERS" 8, .int "BEGIN" (-1), .int "WORDS_MOST" 256, .int "WORD_MOST" 255, .int "BEGINS_MOST" 16, .cls "Walk", .noat "Walk" "rows", .noat "Walk" "homes", .noat "Walk" "apart", .mkr "Walk"]
def fa : List He.Fa := fa0 ++ fa1
def loose0 : List PySem.Str := ["OPS", "SPANS", "TAKE_FIRST", "TAKE_SPAN", "TAKE_NUMBERS", "row_size", "signed", "op_of", "boxes_of", "row_at", "BEGIN", "GOING", "NOT_BEHIND", "Walk", "goal_of", "leads_of", "come", "walked", "ScribeError", "BadWords", "BadBegins", "WORDS_MOST", "WORD_MOST", "BEGINS_MOST", "is_whole", "check_words", "check_begins", "checked_walk", "come_to", "middles"]
def loose1 : List PySem.Str := ["_law_start", "_law_drawn", "_law_same", "_law_all_codes", "_law_forms", "_law_read", "_law_any_words", "_law_trace", "_law_begins"]
def loose : List PySem.Str := loose0 ++ loose1
def kinds : List Kd := [.stop, .back, .say, .take, .takeL, .move, .add, .less, .load, .store, .jump, .call, .skip, .zero, .same, .copy]
def ts : List He.Tab := [(fun K => He.ga K "OPS", codes.map fun c => c.1.str)]
def tupA (K : PySem.W.Frag) (a : Addr) (vs : List V) : Bool := match K.lookup a with
  | some ⟨.type c, _, .seq its _, _⟩ => decide (c = "tuple") && (decide (its.size ≤ sizeLine) && He.relAll vs its.toList)
  | _ => false
def opB (K : PySem.W.Frag) (c : Code) : Bool := match PySem.W.nsIn K (He.ga K "OPS") c.1.str with
  | some (some (.ref a)) => tupA K a [.int c.2.1, .int c.2.2.1, .int c.2.2.2]
  | _ => false
def ex (K : PySem.W.Frag) : Bool := (codes.all (opB K)) && (He.tupB K "SPANS" [.int 1, .int 4, .int 16] && (He.tupB K "GOING" [.str "jump", .str "call", .str "zero", .str "same"] && (He.tupB K "NOT_BEHIND" [.str "stop", .str "back", .str "jump", .str "skip"])))
def tf : List He.Defn := [("come", none)]
abbrev R : PySem.W.OpenRow := PySem.W.OpenLaw.row PySem.Challenge.rw_rowscribe_k12_rows_come_to
def hk : PySem.W.Hook := He.hookX 5 fa fn ts tf ex
def ob (s : PySem.W.SharedT) : He.AlX := He.obsX 5 fa fn ts tf ex (HandSHeadRun.getT s)
theorem ob_eq (s : PySem.W.SharedT) : ob s = hk.obs s.abs := He.obsX_eq (HandSHeadRun.getT_eq s)
end Rs
namespace Rs
open PySem PySem.Spec PyProof.Rows L2 C8
theorem tupA_ok {K : PySem.W.Frag} {a : Addr} {vs : List V} (h : tupA K a vs = true) (H : Hp) : SqT K H a vs := by
  unfold tupA at h
  split at h
  · rename_i c od its n sl q
    obtain ⟨h1, h2⟩ := He.ba h
    obtain ⟨h3, h4⟩ := He.ba h2
    exact .inr ⟨_, its, n, q, congrArg Value.type (of_decide_eq_true h1), rfl, of_decide_eq_true h3, He.relAll_ok h4⟩
  · cases h
theorem opB_ok {K : PySem.W.Frag} {c : Code} (h : opB K c = true) : ∃ a, PySem.W.nsIn K (He.ga K "OPS") c.1.str = some (some (.ref a)) ∧ ∀ H, SqT K H a [.int c.2.1, .int c.2.2.1, .int c.2.2.2] := by
  unfold opB at h
  split at h
  · rename_i a q
    exact ⟨a, q, fun H => tupA_ok h H⟩
  · cases h
theorem tab_dic {w : World} {K : PySem.W.Frag} (c : He.SaysT fa fn ts w K) (i : Nat) {t : He.Tab} (h : ts[i]? = some t) : He.dicW K (t.1 K) = some (He.keysIn w.params t.2) := by
  have e : ts.map (fun t => He.dicW K (t.1 K)) = ts.map fun t => some (He.keysIn w.params t.2) := congrArg (fun z : He.AlT => z.2) c
  have e2 : (ts.map fun t => He.dicW K (t.1 K))[i]? = (ts.map fun t => some (He.keysIn w.params t.2))[i]? := by rw [e]
  rw [List.getElem?_map, List.getElem?_map, h] at e2
  exact Option.some.inj e2
theorem ktab_of {K : PySem.W.Frag} {w : World} {a : Addr} {ks : List Str} (h : He.dicW K a = some (He.keysIn w.params ks)) : KTab K w a ks := by
  obtain ⟨es, n, D⟩ := He.dicW_ok h
  have h2 : some (es.toList.map He.keyOf) = some (He.keysIn w.params ks) := by
    rw [← h]
    unfold He.dicW
    rw [D.at_]
    have e : (decide (("dict" : String) = "dict") && ((#[] : Array (Option Value)).isEmpty && !(a == sysModules))) = true := by rw [D.low]; decide
    show _ = (match decide (("dict" : String) = "dict") && ((#[] : Array (Option Value)).isEmpty && !(a == sysModules)) with | true => some (es.toList.map He.keyOf) | false => none)
    rw [e]
  have h3 := Option.some.inj h2
  have hl : es.toList.length = ks.length := by
    have := congrArg List.length h3
    simpa [He.keysIn] using this
  refine ⟨es, n, D.at_, D.lit, D.low, by simpa using hl, fun i k hk => ?_⟩
  have e1 : (es.toList.map He.keyOf)[i]? = (He.keysIn w.params ks)[i]? := by rw [h3]
  rw [List.getElem?_map] at e1
  unfold He.keysIn at e1
  rw [List.getElem?_map, hk] at e1
  cases q : es.toList[i]? with
  | none =>
    rw [q] at e1
    cases e1
  | some en =>
    rw [q] at e1
    have e2 : He.keyOf en = some (k, PyData.keyHash w.params k) := Option.some.inj e1
    unfold He.keyOf at e2
    split at e2
    · rename_i x t ex
      have e3 := (Prod.mk.inj (Option.some.inj e2)).1
      refine ⟨en, t, by simpa using q, ?_⟩
      rw [ex, e3]
    · cases e2
theorem kdct_of {K : PySem.W.Frag} {w : World} {a : Addr} {ks : List Str} {x : Str} {v : V} {u : Value} (T : KTab K w a ks) (h : PySem.W.nsIn K a x = some (some u)) (r : RelV v u) : KDct K w a x v := by
  obtain ⟨es, n, e1, e2, _⟩ := T.ex
  exact ⟨es, n, u, e1, e2, h, r⟩
theorem mem_kinds (k : Kd) : k ∈ kinds := by cases k <;> decide
section
variable {w : World} {K : PySem.W.Frag} {h : Heap} {mg : Str → Option Value}
theorem has_fa {f : He.Fa} (c : He.SaysT fa fn ts w K) (i : Nat) (e : fa[i]? = some f) : f.ok K = true := c.d.fact i e
theorem txt_of (X : K.In h) (G : h.Ns mainGlobals mg) (c : He.SaysT fa fn ts w K) (e : ex K = true) : Txt w K mg := by
  obtain ⟨e0, r0⟩ := He.ba e
  obtain ⟨e1, r1⟩ := He.ba r0
  obtain ⟨e2, r2⟩ := He.ba r1
  have tb : KTab K w (He.ga K "OPS") (codes.map fun c => c.1.str) := ktab_of (tab_dic c 0 rfl)
  exact {
    free_any := He.free_ok X G (has_fa c 29 rfl)
    free_bool := He.free_ok X G (has_fa c 30 rfl)
    free_dict := He.free_ok X G (has_fa c 31 rfl)
    free_enumerate := He.free_ok X G (has_fa c 32 rfl)
    free_int := He.free_ok X G (has_fa c 33 rfl)
    free_isinstance := He.free_ok X G (has_fa c 34 rfl)
    free_len := He.free_ok X G (has_fa c 35 rfl)
    free_list := He.free_ok X G (has_fa c 36 rfl)
    free_min := He.free_ok X G (has_fa c 37 rfl)
    free_range := He.free_ok X G (has_fa c 38 rfl)
    free_sorted := He.free_ok X G (has_fa c 39 rfl)
    free_tuple := He.free_ok X G (has_fa c 40 rfl)
    g_TAKE_FIRST := He.int_ok X G (has_fa c 41 rfl)
    g_TAKE_SPAN := He.int_ok X G (has_fa c 42 rfl)
    g_TAKE_NUMBERS := He.int_ok X G (has_fa c 43 rfl)
    g_BEGIN := He.int_ok X G (has_fa c 44 rfl)
    g_WORDS_MOST := He.int_ok X G (has_fa c 45 rfl)
    g_WORD_MOST := He.int_ok X G (has_fa c 46 rfl)
    g_BEGINS_MOST := He.int_ok X G (has_fa c 47 rfl)
    g_OPS := He.glo_ok X G (has_fa c 24 rfl)
    g_SPANS := He.glo_ok X G (has_fa c 25 rfl)
    g_GOING := He.glo_ok X G (has_fa c 26 rfl)
    g_NOT_BEHIND := He.glo_ok X G (has_fa c 27 rfl)
    t_SPANS := fun H => He.tupB_ok e1 H
    t_GOING := fun H => He.tupB_ok e2 H
    t_NOT_BEHIND := fun H => He.tupB_ok r2 H
    tab := tb
    ops := fun d hd => by
      obtain ⟨a, q1, q2⟩ := opB_ok (List.all_eq_true.mp e0 d hd)
      exact ⟨a, kdct_of tb q1 rfl, q2⟩
  }
theorem txtWalk_of (c : He.SaysT fa fn ts w K) : TxtW K (He.ga K "Walk") :=
  ⟨He.cls_ok (has_fa c 48 rfl), He.noat_ok (has_fa c 49 rfl), He.noat_ok (has_fa c 50 rfl), He.noat_ok (has_fa c 51 rfl)⟩
theorem def_of {x : Str} {st : Stmt} (X : K.In h) (G : h.Ns mainGlobals mg) (c : He.SaysT fa fn ts w K) (i j : Nat) (e1 : fn[i]? = some (dD x st)) (e2 : fa[j]? = some (.glo x)) : DefAt K mg x st := by
  obtain ⟨fd, F⟩ := c.d.def_ i e1
  exact ⟨⟨fd, F⟩, He.glo_ok X G (c.d.fact j e2)⟩
theorem law_ok {P : Program} {base : Heap} {fd : FuncData} (F : FnP K "law" "law" sD_law (He.ga K "law") fd) (X : K.In h) (G : h.Ns mainGlobals mg) (c : He.SaysT fa fn ts w K) (e : ex K = true) (TB : Rg.TabB base mg (He.codeOf K ("come", none)) (tabAt K "come")) : FnOk P w K mg base L2.CX0 8 (He.ga K "law") fd ["_law_script"] (spLawT (tabAt K "come") K) := by
  have T := txt_of X G c e
  have W' : TxtW K (He.ga K "Walk") := txtWalk_of c
  have D_row_size : DefAt K mg "row_size" sD_row_size := def_of X G c 0 0 rfl rfl
  have D_signed : DefAt K mg "signed" sD_signed := def_of X G c 1 1 rfl rfl
  have D_op_of : DefAt K mg "op_of" sD_op_of := def_of X G c 2 2 rfl rfl
  have D_boxes_of : DefAt K mg "boxes_of" sD_boxes_of := def_of X G c 3 3 rfl rfl
  have D_row_at : DefAt K mg "row_at" sD_row_at := def_of X G c 4 4 rfl rfl
  have D_goal_of : DefAt K mg "goal_of" sD_goal_of := def_of X G c 5 5 rfl rfl
  have D_leads_of : DefAt K mg "leads_of" sD_leads_of := def_of X G c 6 6 rfl rfl
  have D_come : DefAt K mg "come" sD_come := def_of X G c 7 7 rfl rfl
  have D_walked : DefAt K mg "walked" sD_walked := def_of X G c 8 8 rfl rfl
  have D_is_whole : DefAt K mg "is_whole" sD_is_whole := def_of X G c 9 9 rfl rfl
  have D_check_words : DefAt K mg "check_words" sD_check_words := def_of X G c 10 10 rfl rfl
  have D_check_begins : DefAt K mg "check_begins" sD_check_begins := def_of X G c 11 11 rfl rfl
  have D_checked_walk : DefAt K mg "checked_walk" sD_checked_walk := def_of X G c 12 12 rfl rfl
  have D_come_to : DefAt K mg "come_to" sD_come_to := def_of X G c 13 13 rfl rfl
  have D_middles : DefAt K mg "middles" sD_middles := def_of X G c 14 14 rfl rfl
  have D__law_start : DefAt K mg "_law_start" sD__law_start := def_of X G c 15 15 rfl rfl
  have D__law_drawn : DefAt K mg "_law_drawn" sD__law_drawn := def_of X G c 16 16 rfl rfl
  have D__law_same : DefAt K mg "_law_same" sD__law_same := def_of X G c 17 17 rfl rfl
  have D__law_all_codes : DefAt K mg "_law_all_codes" sD__law_all_codes := def_of X G c 18 18 rfl rfl
  have D__law_read : DefAt K mg "_law_read" sD__law_read := def_of X G c 19 19 rfl rfl
  have D__law_any_words : DefAt K mg "_law_any_words" sD__law_any_words := def_of X G c 20 20 rfl rfl
  have D__law_trace : DefAt K mg "_law_trace" sD__law_trace := def_of X G c 21 21 rfl rfl
  have D__law_begins : DefAt K mg "_law_begins" sD__law_begins := def_of X G c 22 22 rfl rfl
  have D_law : DefAt K mg "law" sD_law := def_of X G c 23 23 rfl rfl
  have c_is_whole : Cal P w K mg base 1 "is_whole" spWhole [] := ok_is_whole D_is_whole T
  have c_signed : Cal P w K mg base 1 "signed" spSigned [] := ok_signed D_signed
  have c_row_size : Cal P w K mg base 1 "row_size" spSize [] := ok_row_size D_row_size T
  have c_check_words := ok_check_words D_check_words T c_is_whole
  have c_op_of : Cal P w K mg base 1 "op_of" spOpOf [] := ok_op_of D_op_of T
  have c_boxes_of : Cal P w K mg base 1 "boxes_of" spBoxes [] := ok_boxes_of D_boxes_of T
  have c_row_at := ok_row_at D_row_at T c_op_of c_row_size c_boxes_of
  have c_goal_of := ok_goal_of D_goal_of T c_row_size c_signed
  have c_leads_of := ok_leads_of D_leads_of T c_row_size c_goal_of
  obtain ⟨fdW, FW⟩ := c.d.def_ 24 (d := dWalk) rfl
  have GW : FnOk P w K mg base L2.CX0 1 _ fdW ["self"] (spInitW (He.ga K "Walk")) := ok_Winit FW W'
  have bW : Binds K fdW ["self"] [] := FunD.bindsN FW fun _ _ _ _ _ _ us hl => match us, hl with | [_], _ => rfl
  have c_Walk : Mak P w K mg base 1 "Walk" (He.ga K "Walk") (spInitW (He.ga K "Walk")) [] := ⟨_, fdW, _, [], He.mkr_ok (has_fa c 52 rfl), GW, He.glo_ok X G (has_fa c 28 rfl), bW, .nil⟩
  have c_come := ok_come D_come T W' TB c_row_size c_row_at c_leads_of
  have c_walked := ok_walked D_walked T c_Walk c_come
  have c_check_begins := ok_check_begins D_check_begins T c_is_whole
  have c_checked_walk := ok_checked_walk D_checked_walk T c_check_words c_check_begins c_walked
  have c_come_to := ok_come_to D_come_to T W' c_checked_walk
  have c_middles := ok_middles D_middles T W' c_checked_walk
  have c_start : Cal P w K mg base 1 "_law_start" (spStart K) [] := ok_start D__law_start
  have c_drawn : Cal P w K mg base 1 "_law_drawn" (spDrawn K) [] := ok_drawn D__law_drawn T
  have c_codes : Cal P w K mg base 1 "_law_all_codes" spCodes [] := ok_all_codes D__law_all_codes
  have c_any := ok_any D__law_any_words T c_drawn c_codes
  have c_begins := ok_begins D__law_begins T c_drawn
  have c_read := ok_read D__law_read T c_codes
  have c_trace := ok_trace D__law_trace T c_read
  have c_s0 : Cal P w K mg base 1 "_law_same" (spSame 0) [] := ok_same0 D__law_same
  have c_s4 := ok_sameS D__law_same T (ok_sameS D__law_same T (ok_sameS D__law_same T (ok_sameS D__law_same T c_s0)))
  exact ok_law12 (Nat.le_refl _) F T c_start c_any c_begins c_trace c_s4 c_come_to c_middles
theorem facts {P : Program} {f : Addr} (X : K.In h) (G : h.Ns mainGlobals mg) (hfa : mg ("law" : Str) = some (.ref f)) (c : He.SaysT fa fn ts w K) (e : ex K = true) :
    ∃ fd : FuncData, (∀ (s : Shared) (v : Value), BindsTo s fd ⟨[v], []⟩ [("_law_script", v)]) ∧ ∀ base : Heap, K.In base → base.Ns mainGlobals mg → (∀ p ∈ [He.cT K ("come", none)], LamX.TabB base mg p.1 p.2) → FnOk P w K mg base L2.CX0 8 f fd ["_law_script"] (spLawT (tabAt K "come") K) := by
  obtain ⟨fd, F⟩ := c.d.def_ 23 (d := dD "law" sD_law) rfl
  have q := hfa.symm.trans (He.glo_ok X G (c.d.fact 23 (f := .glo "law") rfl))
  cases q
  have b := FunD.bindsA (ps := ["_law_script"]) F fun _ _ _ _ _ _ us hl => match us, hl with | [_], _ => rfl
  exact ⟨fd, fun s v => b s [v] rfl, fun base _ _ hT => law_ok F X G c e (Rg.tabB_of (hT (He.cT K ("come", none)) (by simp)))⟩
end
end Rs
namespace Rs
open PySem PySem.Spec PyProof.Rows L2 C8
theorem run_f (w : World) : HandSHeadRun.RunEq R (PySem.W.view R.prog [45]) hk ob 6000 loose (w.withFollow "special-get-raises" false) := by
  intro os
  kernel_rfl
end Rs
namespace Rs
open PySem PySem.Spec PyProof.Rows L2 C8
theorem run_t (w : World) : HandSHeadRun.RunEq R (PySem.W.view R.prog [45]) hk ob 6000 loose (w.withFollow "special-get-raises" true) := by
  intro os
  kernel_rfl
end Rs
namespace Rs
open PySem PySem.Spec PyProof.Rows L2 C8
theorem run_eq (w : World) : HandSHeadRun.RunEq R (PySem.W.view R.prog [45]) hk ob 6000 loose w :=
  PySem.W.byRow2 "special-get-raises" (P := fun w => HandSHeadRun.RunEq R (PySem.W.view R.prog [45]) hk ob 6000 loose w) run_f run_t w
end Rs
open PySem PySem.W PySem.Calls PyProof.Rows
theorem PySem.Challenge.cw_rowscribe_k12_rows_come_to_holds : PySem.Challenge.rw_rowscribe_k12_rows_come_to.Holds := by
  w_on; o_law
  refine HandSHeadRun.head_any (r := OpenLaw.row PySem.Challenge.rw_rowscribe_k12_rows_come_to) (q := view (OpenLaw.row PySem.Challenge.rw_rowscribe_k12_rows_come_to).prog [45]) (H := Rs.hk) (ob := Rs.ob) (M := 6000) (loose := Rs.loose) (d := HandSHeadRun.topDef (OpenLaw.row PySem.Challenge.rw_rowscribe_k12_rows_come_to).prog 45) (kwd := []) Rs.ob_eq
    (by kernel_rfl) (fun s => by kernel_rfl) Rs.run_eq (by kernel_rfl) (by kernel_rfl) (by kernel_rfl) (by rfl) (by first | assumption | decide +kernel) (by decide +kernel) ⟨rfl, rfl, rfl, rfl, rfl, by decide +kernel⟩ ?hw ?hc
  case hw => w_witness2
  case hc =>
    refine LamX.walk_ofTsE (l := PySem.Challenge.rw_rowscribe_k12_rows_come_to) (n := 63) (k := 8) (x := "_law_script") (CX := fun _ => L2.CX0) rfl (by decide) (by kernel_rfl) ⟨rfl, by decide, by decide⟩ ?F (fun _ _ _ _ _ z => z)
    intro w mg fa h Y G hmg0
    obtain ⟨K, KX, c⟩ := Y
    have hmg : mg ("law" : PySem.Str) = some (.ref fa) := by
      have e : (HandSHeadRun.topDef (OpenLaw.row PySem.Challenge.rw_rowscribe_k12_rows_come_to).prog 45).name = ("law" : PySem.Str) := by kernel_rfl
      rw [← e]
      exact hmg0
    obtain ⟨fd, hb, hF⟩ := Rs.facts (P := (PySem.Challenge.rw_rowscribe_k12_rows_come_to).prog) (w := w) KX G hmg c.t c.more
    refine ⟨K, KX, fd, [He.cT K ("come", none)], Rg.spTab [Rs.tabAt K "come"] (Rs.spLawT (Rs.tabAt K "come") K), ?_, ?_, ?_, hb, ?_, fun base hK hG hT => Rg.fnok_tab _ (hF base hK hG hT)⟩
    · intro p hp
      rw [List.mem_singleton.mp hp]
      exact c.empty _ List.mem_cons_self
    · intro p hp
      rw [List.mem_singleton.mp hp]
      exact c.out _ List.mem_cons_self
    · intro p hp
      rw [List.mem_singleton.mp hp]
      exact PySem.W.codeHd_of_K KX (c.hd _ List.mem_cons_self)
    · intro H a ns hl _ hT hS
      have h0 : H (Rs.tabAt K "come") = some (.tbl #[]) := hT _ List.mem_cons_self
      refine ⟨fun P hP => ?_, a, ns, rfl, ?_, Rg.tabH_in List.mem_cons_self, fun H' hH' => ⟨fun P hP => ?_, fun _ => rfl⟩⟩
      · rw [List.mem_singleton.mp hP]
        exact h0
      · rcases hS with (hS | ⟨o, hS⟩) | hS
        · exact .inl (.inl ((Rg.tabH_out (fun z => by
            rw [List.mem_singleton.mp z, h0] at hS
            cases hS)).trans hS))
        · exact .inl (.inr ⟨o, (Rg.tabH_out (fun z => by
            rw [List.mem_singleton.mp z, h0] at hS
            cases hS)).trans hS⟩)
        · exact .inr hS
      · rw [List.mem_singleton.mp hP]
        exact hH'

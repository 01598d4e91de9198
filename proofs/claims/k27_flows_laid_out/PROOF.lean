import PyProof.Rows.All
import Wide.All
import OpenK.AllK
import Wide.FinOn
import PyProof.EqAt
import PyProof.EqKinds
import PyProof.TupleCall
import KE.BitLaws
import PyProof.IsiPairs
import PyProof.IsiHeapPairs
import PyProof.IsiNone
import PyProof.ListMulRoad
import PyProof.Rows.SeqMore
import PyProof.ReprRoads
import KE.KIntText
import KE.IntTextLaws
import PyProof.Rows.Digits
import PyProof.CallStr
import PyProof.StationsW
import KE.KTryMore
import PyProof.ExcInit
import PyProof.InstStoreFacts
import PyProof.ExcBaseAll.ValueError
import PyProof.ExcBaseAll.ZeroDivisionError
import PyProof.ExcBaseAll.IndexError
import PyProof.ExcBaseAll.LookupError
import PyProof.ExcAttrAll.ValueError
import PyProof.ExcAttrAll.ZeroDivisionError
import PyProof.ExcAttrAll.IndexError
import PyProof.ExcAttrAll.LookupError
import KE.KIsAll
import PyProof.NsDelKeeps
import PyProof.RulesAs
import PyProof.TupleIter
import PyProof.WalksMore
import OpenK.KOwn
import PyProof.Rows.StrOr
import PyProof.StrCalls
import PyProof.ListStr
import PyProof.Rows.SetFrom
import PyProof.FactsAll.set
import PyProof.Rows.SortShellAny
import PyProof.CollectIter
import PyProof.CollectStr
import PyProof.TupleOfSeq
import PyProof.EnumMake
import KE.KItemsList
import KE.KDictList
import KE.KEqDict
import PyProof.Rows.CallKwBuiltin
import PyProof.ListRange
import PySem.Challenge.RW_chancetongue_k27_flows_laid_out
set_option Elab.async false
set_option linter.all false
set_option maxRecDepth 100000
namespace L2
open PySem PySem.Spec PyProof.Rows
/-- a key: an int or a str -/
abbrev Key := Sum Int Str
def keyIs : Key → Value → Bool
  | .inl k, v => Value.isInt k v
  | .inr x, v => Value.isStrOf x v
def keyH (w : World) : Key → Int
  | .inl k => hashInt k
  | .inr x => hashStr w x
theorem keyIs_shape : ∀ {k : Key} {v : Value}, keyIs k v = true → (∃ i t, k = Sum.inl i ∧ v = Value.int i t) ∨ (∃ x t, k = Sum.inr x ∧ v = Value.str x t)
  | .inl i, v, h => by
    obtain ⟨t, e⟩ := Value.isInt_shape (k := i) (v := v) h
    exact .inl ⟨i, t, rfl, e⟩
  | .inr x, v, h => by
    obtain ⟨t, e⟩ := Value.isStrOf_shape (x := x) (v := v) h
    exact .inr ⟨x, t, rfl, e⟩
theorem keyIs_int (i : Int) (t : Tok) : keyIs (.inl i) (.int i t) = true := by simp [keyIs, Value.isInt]
theorem keyIs_str (x : Str) (t : Tok) : keyIs (.inr x) (.str x t) = true := by simp [keyIs, Value.isStrOf]
theorem key_ll (a b : Int) : decide ((Sum.inl a : Key) = Sum.inl b) = (a == b) := by
  by_cases e : a = b
  · subst e; simp
  · have h : ¬ (Sum.inl a : Key) = Sum.inl b := fun q => e (Sum.inl.inj q)
    rw [decide_eq_false h]
    exact (beq_eq_false_iff_ne.mpr e).symm
theorem key_rr (a b : Str) : decide ((Sum.inr a : Key) = Sum.inr b) = decide (a = b) := by
  by_cases e : a = b
  · subst e; simp
  · have h : ¬ (Sum.inr a : Key) = Sum.inr b := fun q => e (Sum.inr.inj q)
    rw [decide_eq_false h, decide_eq_false e]
theorem key_lr (a : Int) (b : Str) : decide ((Sum.inl a : Key) = Sum.inr b) = false := decide_eq_false (fun q => nomatch q)
theorem key_rl (a : Str) (b : Int) : decide ((Sum.inr a : Key) = Sum.inl b) = false := decide_eq_false (fun q => nomatch q)
def mixKind (prog : Program) (w : World) : PySem.KeyKind prog w Key where
  is := keyIs
  hash := keyH w
  inj := fun v a b ha hb => by
    rcases keyIs_shape ha with ⟨i, t, rfl, rfl⟩ | ⟨x, t, rfl, rfl⟩
    · rcases keyIs_shape hb with ⟨j, u, rfl, e⟩ | ⟨y, u, rfl, e⟩
      · injection e with e1 _; rw [e1]
      · exact nomatch e
    · rcases keyIs_shape hb with ⟨j, u, rfl, e⟩ | ⟨y, u, rfl, e⟩
      · exact nomatch e
      · injection e with e1 _; rw [e1]
  byValue := fun k v h => by
    rcases keyIs_shape h with ⟨i, t, rfl, rfl⟩ | ⟨x, t, rfl, rfl⟩ <;> rfl
  pyHash := fun hv h => by
    rcases keyIs_shape hv with ⟨i, t, rfl, rfl⟩ | ⟨x, t, rfl, rfl⟩
    · exact wpAny_pyHash_int h
    · exact wpAny_pyHash_str h
  eqBool := fun hu hv h => by
    rcases keyIs_shape hu with ⟨i, t, rfl, rfl⟩ | ⟨x, t, rfl, rfl⟩
    · rcases keyIs_shape hv with ⟨j, u, rfl, rfl⟩ | ⟨y, u, rfl, rfl⟩
      · rw [key_ll] at h; exact wpAny_eqBool_int h
      · rw [key_lr] at h; exact SeqAt.EqAt.int_str i t y u _ _ _ _ h
    · rcases keyIs_shape hv with ⟨j, u, rfl, rfl⟩ | ⟨y, u, rfl, rfl⟩
      · rw [key_rl] at h; exact SeqAt.EqAt.str_int x t j u _ _ _ _ h
      · rw [key_rr] at h; exact wpAny_eqBool_str h
  «strs» := fun k x t v h => by
    rcases keyIs_shape h with ⟨i, u, rfl, e⟩ | ⟨y, u, rfl, e⟩
    · exact nomatch e
    · injection e with e1 _
      subst e1
      cases v <;> rfl
theorem mixKind_int (prog : Program) (w : World) (i : Int) (t : Tok) : (mixKind prog w).is (.inl i) (.int i t) = true := keyIs_int i t
theorem mixKind_str (prog : Program) (w : World) (x : Str) (t : Tok) : (mixKind prog w).is (.inr x) (.str x t) = true := keyIs_str x t
end L2
namespace L2
open PySem PySem.Spec PyProof.Rows
/-- a value, without the heap -/
inductive V where
  | non | bl (b : Bool) | int (i : Int) | str (x : Str) | byt (b : Array UInt8) | flt (b : UInt64) | ref (a : Addr) | ty (n : String)
  deriving DecidableEq
def RelV : V → Value → Prop
  | .non, u => u = Value.none
  | .bl b, u => u = Value.bool b
  | .int i, u => ∃ t, u = Value.int i t
  | .str x, u => ∃ t, u = Value.str x t
  | .byt b, u => ∃ t, u = Value.bytes b t
  | .flt b, u => ∃ t, u = Value.float b t
  | .ref a, u => u = Value.ref a
  | .ty n, u => u = Value.type n
abbrev Vals : List V → List Value → Prop := Paired RelV
theorem Vals.length {xs : List V} {us : List Value} (r : Vals xs us) : xs.length = us.length := Paired.length r
theorem Vals.get : ∀ {xs : List V} {us : List Value} {i : Nat} {x : V}, Vals xs us → xs[i]? = some x → ∃ u, us[i]? = some u ∧ RelV x u
  | _, _, _, _, .nil, e => by simp at e
  | _, _, 0, _, .cons r _, e => by simp at e; subst e; exact ⟨_, rfl, r⟩
  | _, _, i + 1, x, .cons _ t, e => by
    obtain ⟨u, h1, h2⟩ := Vals.get (i := i) (x := x) t (by simpa using e)
    exact ⟨u, by simpa using h1, h2⟩
theorem Vals.set {x : V} {u : Value} (r : RelV x u) : ∀ {xs : List V} {us : List Value} (i : Nat), Vals xs us → Vals (xs.set i x) (us.set i u)
  | _, _, _, .nil => .nil
  | _, _, 0, .cons _ t => .cons r t
  | _, _, i + 1, .cons q t => .cons q (Vals.set r i t)
theorem Vals.append : ∀ {xs ys : List V} {us ws : List Value}, Vals xs us → Vals ys ws → Vals (xs ++ ys) (us ++ ws)
  | _, _, _, _, .nil, s => s
  | _, _, _, _, .cons r t, s => .cons r (Vals.append t s)
theorem Vals.take : ∀ {xs : List V} {us : List Value} (n : Nat), Vals xs us → Vals (xs.take n) (us.take n)
  | _, _, 0, _ => .nil
  | _, _, _ + 1, .nil => .nil
  | _, _, n + 1, .cons r t => .cons r (Vals.take n t)
theorem Vals.drop : ∀ {xs : List V} {us : List Value} (n : Nat), Vals xs us → Vals (xs.drop n) (us.drop n)
  | _, _, 0, r => r
  | _, _, _ + 1, .nil => .nil
  | _, _, n + 1, .cons _ t => Vals.drop n t
def RelO : Option V → Option Value → Prop
  | some v, some u => RelV v u
  | none, none => True
  | _, _ => False
def KV {κ : Type} : List (κ × V) → List (κ × Value) → Prop := Paired fun (p : κ × V) (q : κ × Value) => p.1 = q.1 ∧ RelV p.2 q.2
/-- a key of a dict (00_mix): an int or a text -/
def kV : Key → V
  | .inl i => .int i
  | .inr x => .str x
/-- what stands at a tracked address -/
inductive HO where
  /-- a list -/
  | lst (xs : List V)
  /-- a tuple (never changes) -/
  | tup (xs : List V)
  /-- a dict whose keys are ints and texts; one whose keys are tuples of ints and texts (the empty one is both) -/
  | dK (kvs : List (Key × V)) | dT (kvs : List (List Key × V))
  /-- a set of ints: its members, its size -/
  | set (S : Int → Bool) (n : Nat)
  /-- an instance of the class at C, its dict at dx, its attributes -/
  | ins (C dx : Addr) (fs : List (Str × V))
  /-- the dict of the instance at x -/
  | own (x : Addr)
  /-- the dict of an exception -/
  | xd (fs : List (Str × V))
  /-- a bound method, f of x -/
  | met (f x : Addr)
  /-- a range object lo, lo + 1, .. below hi -/
  | rng (lo hi : Int)
  /-- a thing that is known to the object (the script; a dict while a loop walks it): read, never written while it is so -/
  | frz (o : Obj) (u : HO)
  /-- a code object's table -/
  | tbl (ps : Array Value)
  /-- any other thing, by what is true of its one object (a def of one's own: SetO a S n := HO.ext fun h => ..) -/
  | ext (φ : Heap → Prop)
abbrev Hp := Addr → Option HO
def upd (H : Hp) (a : Addr) (o : HO) : Hp := fun b => if b = a then some o else H b
theorem upd_same {H : Hp} {a : Addr} {o : HO} : upd H a o a = some o := by unfold upd; rw [if_pos rfl]
theorem upd_ne {H : Hp} {a b : Addr} {o : HO} (h : b ≠ a) : upd H a o b = H b := by unfold upd; rw [if_neg h]
/-- two objects of different content stand apart -/
theorem ne_of {H : Hp} {a b : Addr} {o u : HO} (h : H a = some o) (h' : H b = some u) (d : o ≠ u) : a ≠ b := by
  intro e; subst e; rw [h] at h'; exact d (Option.some.inj h')
theorem ne_of_none {H : Hp} {a b : Addr} {o : HO} (h : H a = some o) (h' : H b = none) : a ≠ b := by
  intro e; subst e; rw [h] at h'; cases h'
section
variable (P : Program) (w : World)
def ObjOk (H : Hp) (h : Heap) (a : Addr) : HO → Prop
  | .lst xs => xs.length ≤ sizeLine ∧ ∃ (its : List Value) (n : Nat), Vals xs its ∧ h.get? a = some { cls := .type "list", data := .seq its.toArray n }
  | .tup xs => xs.length ≤ sizeLine ∧ ∃ its : List Value, Vals xs its ∧ IsTup h a its.toArray
  | .dK kvs => kvs.length ≤ sizeLine ∧ (a == sysModules) = false ∧ ∃ vs, KV kvs vs ∧ h.DictOf (mixKind P w) a vs
  | .dT kvs => kvs.length ≤ sizeLine ∧ (a == sysModules) = false ∧ ∃ xs : List (List Key × Addr × Value),
      Paired (fun (p : List Key × V) (q : List Key × Addr × Value) => p.1 = q.1 ∧ H q.2.1 = some (.tup (p.1.map kV)) ∧ RelV p.2 q.2.2) kvs xs ∧
      ∃ o es ep, h.get? a = some o ∧ o.ExactDict ∧ o.data = .dict es ep ∧ es.toList = xs.map (entryOfKey (tupleKind (mixKind P w))) ∧ (xs.map (·.1)).Nodup
  | .set S n => h.SetOf (intKind P w) a S n
  | .ins C dx fs => H dx = some (.own a) ∧ fs.length ≤ 1000 ∧ dx ≠ a ∧ h.get? a = some (PySem.W.instObj C dx) ∧
      ∃ mA, h.Ns1 dx mA ∧ (∀ f, RelO (fs.lookup f) (mA f)) ∧ PySem.Within mA (fs.map (·.1))
  | .own _ => ∃ o, h.get? a = some o
  | .xd fs => ∃ mA, h.Ns1 a mA ∧ ∀ f, RelO (fs.lookup f) (mA f)
  | .rng lo hi => ∃ t u v, h.get? a = some { cls := .type "range", data := .fields #[.int lo t, .int hi u, .int 1 v] }
  | .frz o u => h.get? a = some o ∧ ObjOk H h a u
  | .tbl ps => h.get? a = some { cls := .none, data := .fields ps }
  | .met f x => h.get? a = some (PySem.W.methodObj (.ref f) (.ref x))
  | .ext φ => φ h ∧ (∃ o, h.get? a = some o) ∧ ∀ h1 h2 : Heap, φ h1 → (∀ o, h1.get? a = some o → h2.get? a = some o) → φ h2
/-- the abstract heap is held -/
def HOk (H : Hp) (h : Heap) : Prop := ∀ a o, H a = some o → ObjOk P w H h a o
end
section
variable {P : Program} {w : World} {H H' : Hp} {h h' : Heap} {a : Addr} {o : HO}
theorem ObjOk.lt (x : ObjOk P w H h a o) : a < h.objs.size := by
  cases o with
  | lst xs => obtain ⟨_, _, _, _, e⟩ := x; exact Heap.lt_size e
  | tup xs => obtain ⟨_, _, _, p⟩ := x; exact p.lt
  | dK kvs => obtain ⟨_, _, _, _, o, _, _, e, _⟩ := x; exact Heap.lt_size e
  | dT kvs => obtain ⟨_, _, _, _, o, _, _, e, _⟩ := x; exact Heap.lt_size e
  | set S n => obtain ⟨o, _, _, _, e, _⟩ := x; exact Heap.lt_size e
  | ins C dx fs => obtain ⟨_, _, _, e, _⟩ := x; exact Heap.lt_size e
  | own y => obtain ⟨_, e⟩ := x; exact Heap.lt_size e
  | xd fs => obtain ⟨_, ⟨_, _, _, e, _⟩, _⟩ := x; exact Heap.lt_size e
  | rng lo hi => obtain ⟨_, _, _, e⟩ := x; exact Heap.lt_size e
  | frz ob u => obtain ⟨e, _⟩ := x; exact Heap.lt_size e
  | tbl ps => exact Heap.lt_size (show h.get? a = some _ from x)
  | met f y => exact Heap.lt_size (show h.get? a = some _ from x)
  | ext φ => obtain ⟨_, ⟨_, e⟩, _⟩ := x; exact Heap.lt_size e
theorem Paired.mapP {α β : Type} {F G : α → β → Prop} : ∀ {l₁ : List α} {l₂ : List β}, Paired F l₁ l₂ → (∀ a b, F a b → G a b) → Paired G l₁ l₂
  | _, _, .nil, _ => .nil
  | _, _, .cons r t, f => .cons (f _ _ r) (Paired.mapP t f)
/-- what an object's description leans on: its own object, its own dict, the tuples -/
theorem ObjOk.stay (x : ObjOk P w H h a o) (k : ∀ b u, (b = a ∨ H b = some (.own a)) → h.get? b = some u → h'.get? b = some u)
    (ho : ∀ b, H b = some (.own a) → H' b = some (.own a)) (ht : ∀ b xs, H b = some (.tup xs) → H' b = some (.tup xs)) : ObjOk P w H' h' a o := by
  induction o with
  | lst xs => obtain ⟨z, its, n, r, e⟩ := x; exact ⟨z, its, n, r, k _ _ (.inl rfl) e⟩
  | tup xs => obtain ⟨z, its, r, ob, e, c⟩ := x; exact ⟨z, its, r, ob, k _ _ (.inl rfl) e, c⟩
  | dK kvs => obtain ⟨z, y, vs, r, ob, es, ep, e, c⟩ := x; exact ⟨z, y, vs, r, ob, es, ep, k _ _ (.inl rfl) e, c⟩
  | dT kvs =>
    obtain ⟨z, y, xs, r, ob, es, ep, e, c⟩ := x
    exact ⟨z, y, xs, Paired.mapP r fun p q z => ⟨z.1, ht _ _ z.2.1, z.2.2⟩, ob, es, ep, k _ _ (.inl rfl) e, c⟩
  | set S n => obtain ⟨ob, es, ep, t, e, c⟩ := x; exact ⟨ob, es, ep, t, k _ _ (.inl rfl) e, c⟩
  | ins C dx fs =>
    obtain ⟨d, z, ne, e, mA, ⟨od, es, ep, e2, c⟩, r⟩ := x
    exact ⟨ho _ d, z, ne, k _ _ (.inl rfl) e, mA, ⟨od, es, ep, k _ _ (.inr d) e2, c⟩, r⟩
  | own y => obtain ⟨ob, e⟩ := x; exact ⟨ob, k _ _ (.inl rfl) e⟩
  | xd fs => obtain ⟨mA, ⟨od, es, ep, e, c⟩, r⟩ := x; exact ⟨mA, ⟨od, es, ep, k _ _ (.inl rfl) e, c⟩, r⟩
  | rng lo hi => obtain ⟨t, u, v, e⟩ := x; exact ⟨t, u, v, k _ _ (.inl rfl) e⟩
  | frz ob u ih => obtain ⟨e, q⟩ := x; exact ⟨k _ _ (.inl rfl) e, ih q⟩
  | tbl ps =>
    have e : h.get? a = some { cls := .none, data := .fields ps } := x
    show h'.get? a = some { cls := .none, data := .fields ps }
    exact k a _ (.inl rfl) e
  | met f y =>
    have e : h.get? a = some (PySem.W.methodObj (.ref f) (.ref y)) := x
    show h'.get? a = some (PySem.W.methodObj (.ref f) (.ref y))
    exact k a _ (.inl rfl) e
  | ext φ => obtain ⟨p, ⟨o, e⟩, st⟩ := x; exact ⟨st _ _ p fun o q => k _ _ (.inl rfl) q, ⟨o, k _ _ (.inl rfl) e⟩, st⟩
theorem HOk.lt (x : HOk P w H h) (e : H a = some o) : a < h.objs.size := (x a o e).lt
theorem HOk.fresh (x : HOk P w H h) (e : h.objs.size ≤ a) : H a = none := by
  cases q : H a with
  | none => rfl
  | some u => exact absurd (Nat.lt_of_lt_of_le (x.lt q) e) (Nat.lt_irrefl _)
/-- every object of the heap is kept -/
theorem HOk.kept (x : HOk P w H h) (k : ∀ b u, h.get? b = some u → h'.get? b = some u) : HOk P w H h' := fun a o e =>
  (x a o e).stay (fun b u _ q => k b u q) (fun _ q => q) fun _ _ q => q
/-- a new object is laid and tracked -/
theorem HOk.laid (x : HOk P w H h) (k : ∀ b u, h.get? b = some u → h'.get? b = some u) (hp : h.objs.size ≤ a) (new : ObjOk P w (upd H a o) h' a o) : HOk P w (upd H a o) h' := fun b u e => by
  have hn := x.fresh hp
  by_cases hb : b = a
  · subst hb; rw [upd_same] at e; cases e; exact new
  · rw [upd_ne hb] at e
    exact (x b u e).stay (fun c v _ q => k c v q) (fun c q => by rw [upd_ne (ne_of_none q hn)]; exact q) fun c xs q => by rw [upd_ne (ne_of_none q hn)]; exact q
end
/-- what may be read as u: it is u, or a known u -/
def Rd (H : Hp) (a : Addr) (u : HO) : Prop := H a = some u ∨ ∃ o, H a = some (.frz o u)
theorem Rd.of {H : Hp} {a : Addr} {u : HO} (h : H a = some u) : Rd H a u := .inl h
theorem Rd.ok {P : Program} {w : World} {H : Hp} {h : Heap} {a : Addr} {u : HO} (r : Rd H a u) (x : HOk P w H h) : ObjOk P w H h a u := by
  rcases r with r | ⟨o, r⟩
  · exact x a u r
  · obtain ⟨_, q⟩ := x a _ r
    exact q
/-- what may be written -/
def Mut : Option HO → Prop
  | some (.lst _) => True
  | some (.dK _) => True
  | some (.dT _) => True
  | some (.set _ _) => True
  | some (.ins _ _ _) => True
  | some (.ext _) => True
  | _ => False
section
variable {P : Program} {w : World} {H : Hp} {h h' : Heap} {x e : Addr} {o' : HO}
/-- the object at e is changed: x itself, or the dict of the instance x -/
theorem HOk.write (ok : HOk P w H h) (mu : Mut (H x)) (he : e = x ∨ H e = some (.own x)) (k : ∀ b u, b ≠ e → h.get? b = some u → h'.get? b = some u) (heo : ∃ u, h'.get? e = some u)
    (new : ObjOk P w (upd H x o') h' x o') : HOk P w (upd H x o') h' := fun b u q => by
  have nown : ∀ c y, H c = some (.own y) → c ≠ x := fun c y r z => by subst z; rw [r] at mu; exact mu
  have ntup : ∀ c xs, H c = some (.tup xs) → c ≠ x := fun c xs r z => by subst z; rw [r] at mu; exact mu
  by_cases hb : b = x
  · subst hb; rw [upd_same] at q; cases q; exact new
  · rw [upd_ne hb] at q
    by_cases hbe : b = e
    · have q' : H b = some (.own x) := by
        rcases he with z | z
        · exact absurd (hbe.trans z) hb
        · rw [hbe]; exact z
      rw [q] at q'; cases q'
      obtain ⟨v, hv⟩ := heo
      exact ⟨v, by rw [hbe]; exact hv⟩
    · refine (ok b u q).stay (fun c v hc r => k c v ?_ r) (fun c r => by rw [upd_ne (nown c b r)]; exact r) fun c xs r => by rw [upd_ne (ntup c xs r)]; exact r
      rcases hc with rfl | hc
      · exact hbe
      · rintro rfl
        rcases he with z | z
        · exact nown c b hc z
        · rw [hc] at z; cases z; exact hb rfl
end
structure Un (fs ex : List Addr) (H H' : Hp) (h h' : Heap) : Prop where
  keep : ∀ b o, h.get? b = some o → H b = none → b ∉ fs → b ∉ ex → h'.get? b = some o
  slot : ∀ b o, h.get? b = some o → H b = none → b ∈ fs → b ∉ ex → ∃ sl, h'.get? b = some { o with slots := sl }
  free : ∀ b o, h.get? b = some o → H b = none → b ∉ ex → H' b = none
  there : ∀ b o, h.get? b = some o → b ∉ ex → ∃ o', h'.get? b = some o'
  tups : ∀ b xs, H b = some (.tup xs) → H' b = some (.tup xs)
  frzs : ∀ b o u, H b = some (.frz o u) → H' b = some (.frz o u)
  tbls : ∀ b ps, H b = some (.tbl ps) → ∃ more, H' b = some (.tbl (ps ++ more))
section
variable {fs fs' ex ex' : List Addr} {H H1 H2 : Hp} {h h1 h2 h' : Heap} {a x e : Addr} {o : HO}
theorem Un.any (u : Un fs ex H H1 h h1) {b : Addr} {ob : Obj} (q : h.get? b = some ob) (n : H b = none) (hx : b ∉ ex) : ∃ sl, h1.get? b = some { ob with slots := sl } := by
  by_cases hb : b ∈ fs
  · exact u.slot b ob q n hb hx
  · exact ⟨ob.slots, u.keep b ob q n hb hx⟩
theorem Un.trans (a : Un fs ex H H1 h h1) (b : Un fs ex H1 H2 h1 h2) : Un fs ex H H2 h h2 where
  keep := fun c ob q n hc hx => b.keep c ob (a.keep c ob q n hc hx) (a.free c ob q n hx) hc hx
  slot := fun c ob q n hc hx => by
    obtain ⟨sl, e1⟩ := a.slot c ob q n hc hx
    obtain ⟨sl', e2⟩ := b.slot c _ e1 (a.free c ob q n hx) hc hx
    exact ⟨sl', e2⟩
  free := fun c ob q n hx => by
    obtain ⟨o', e1⟩ := a.there c ob q hx
    exact b.free c o' e1 (a.free c ob q n hx) hx
  there := fun c ob q hx => by
    obtain ⟨o', e1⟩ := a.there c ob q hx
    exact b.there c o' e1 hx
  tups := fun c xs q => b.tups c xs (a.tups c xs q)
  frzs := fun c ob xs q => b.frzs c ob xs (a.frzs c ob xs q)
  tbls := fun c ps q => by
    obtain ⟨m1, e1⟩ := a.tbls c ps q
    obtain ⟨m2, e2⟩ := b.tbls c _ e1
    exact ⟨m1 ++ m2, by rw [e2, Array.append_assoc]⟩
theorem Un.kept (k : ∀ b u, h.get? b = some u → h'.get? b = some u) : Un fs ex H H h h' :=
  ⟨fun b ob q _ _ _ => k b ob q, fun b ob q _ _ _ => ⟨ob.slots, k b ob q⟩, fun _ _ _ n _ => n, fun b ob q _ => ⟨ob, k b ob q⟩, fun _ _ q => q, fun _ _ _ q => q, fun _ ps q => ⟨#[], by rw [q]; simp⟩⟩
theorem Un.refl : Un fs ex H H h h := Un.kept fun _ _ q => q
theorem Un.laid (k : ∀ b u, h.get? b = some u → h'.get? b = some u) (hp : h.objs.size ≤ a) (hn : H a = none) : Un fs ex H (upd H a o) h h' where
  keep := fun b u q _ _ _ => k b u q
  slot := fun b u q _ _ _ => ⟨u.slots, k b u q⟩
  free := fun b u q n _ => by rw [upd_ne (Nat.ne_of_lt (Nat.lt_of_lt_of_le (Heap.lt_size q) hp))]; exact n
  there := fun b u q _ => ⟨u, k b u q⟩
  tups := fun b xs q => by rw [upd_ne (ne_of_none q hn)]; exact q
  frzs := fun b u xs q => by rw [upd_ne (ne_of_none q hn)]; exact q
  tbls := fun b ps q => ⟨#[], by rw [upd_ne (ne_of_none q hn), q]; simp⟩
theorem Un.write (mu : Mut (H x)) (he : e = x ∨ H e = some (.own x)) (k : ∀ b u, b ≠ e → h.get? b = some u → h'.get? b = some u) (heo : ∃ u, h'.get? e = some u) : Un fs ex H (upd H x o) h h' := by
  have hx : ∀ b, H b = none → b ≠ x := fun b n z => by subst z; rw [n] at mu; exact mu
  have hb : ∀ b, H b = none → b ≠ e := fun b n z => by
    subst z
    rcases he with r | r
    · exact hx b n r
    · rw [n] at r; cases r
  have hm : ∀ b u, H b = some u → ¬ Mut (some u) → b ≠ x := fun b u q nm z => by subst z; rw [q] at mu; exact nm mu
  refine ⟨fun b u q n _ _ => k b u (hb b n) q, fun b u q n _ _ => ⟨u.slots, k b u (hb b n) q⟩, fun b u q n _ => by rw [upd_ne (hx b n)]; exact n, fun b u q _ => ?_,
    fun b xs q => by rw [upd_ne (hm b _ q fun z => z)]; exact q, fun b u xs q => by rw [upd_ne (hm b _ q fun z => z)]; exact q, fun b ps q => ⟨#[], by rw [upd_ne (hm b _ q fun z => z), q]; simp⟩⟩
  by_cases hbe : b = e
  · subst hbe; exact heo
  · exact ⟨u, k b u hbe q⟩
theorem Un.mono (u : Un fs ex H H1 h h1) (hs : ∀ b ∈ fs, b ∈ fs') (hx : ∀ b ∈ ex, b ∈ ex') : Un fs' ex' H H1 h h1 :=
  ⟨fun b ob q n hb he => u.keep b ob q n (fun z => hb (hs b z)) fun z => he (hx b z), fun _ _ q n _ he => u.any q n fun z => he (hx _ z), fun b ob q n he => u.free b ob q n fun z => he (hx b z), fun b ob q he => u.there b ob q fun z => he (hx b z), u.tups, u.frzs, u.tbls⟩
end
def trk (h : Heap) (H : Hp) : List Addr := (List.range h.objs.size).filter fun a => (H a).isSome
def hidT (h : Heap) (H : Hp) : Heap := PySem.W.hideAll h (trk h H)
theorem hidT_size (h : Heap) (H : Hp) : (hidT h H).objs.size = h.objs.size := PySem.W.hideAll_size _ _
theorem hidT_get {h : Heap} {H : Hp} {b : Addr} {o : Obj} (e : h.get? b = some o) (n : H b = none) : (hidT h H).get? b = some o :=
  PySem.W.hideAll_get _ e fun hm => by
    have q : (H b).isSome = true := (List.mem_filter.mp hm).2
    rw [n] at q; simp at q
theorem of_hidT {h : Heap} {H : Hp} {b : Addr} {o : Obj} (e : (hidT h H).get? b = some o) : h.get? b = some o ∧ H b = none := by
  have e' : h.get? b = some o := PySem.W.of_hideAll (trk h H) e
  refine ⟨e', ?_⟩
  cases q : H b with
  | none => rfl
  | some x =>
    have hm : b ∈ trk h H := List.mem_filter.mpr ⟨List.mem_range.mpr (Heap.lt_size e'), by simp [q]⟩
    have z : (hidT h H).get? b = none := PySem.W.hideAll_none (trk h H) hm
    rw [z] at e; cases e
def allNews (g h : Heap) (L : Addr) : List (Addr × Obj) := (List.range h.objs.size).filterMap fun a => if a = L ∨ (g.get? a).isSome = true then none else (h.get? a).map fun o => (a, o)
def rest (g h : Heap) (L d : Addr) : List (Addr × Obj) := (allNews g h L).filter fun p => decide (p.1 ≠ d)
end L2
namespace L2
open PySem PySem.Spec PyProof.Rows
/-- the module's facts, over the base: the heap at the law's entry without what is tracked there -/
structure Mod (K : PySem.W.Frag) (mg : Str → Option Value) (base : Heap) : Prop where
  kin : K.In base
  glob : base.Ns mainGlobals mg
  blt : ∃ mb, base.Ns builtinsNs mb ∧ ∀ x : Str, x ≠ "__name__" → mb x = bootBuiltins x
  nolimit : base.NoLimit
  nodigits : base.NoDigits
  seer : base.NoSeer
/-- the context: a def's body (or a comprehension's block) running. base: fixed through the whole law; s₀, H₀: the entry; outer: the frames whose slots others may change (a def's callers); stack: all frames that run;
   ex: iterators that were made ahead of the entry and are walked here (a comprehension's); fn: the names whose cells were made at the entry (a def: all; a comprehension's block: its own); calm: not within an except suite; pn: pins that every state bears; xe: what is wanted of an exception that leaves the code -/
structure Cx where
  prog : Program
  w : World
  K : PySem.W.Frag
  mg : Str → Option Value
  base : Heap
  A : Around
  N : List Str
  s_0 : Shared
  H_0 : Hp
  env : Env
  outer : List Env
  stack : List Env
  ex : List Addr
  fn : Str → Bool
  calm : Bool
  pn : List (Addr × Obj)
  xe : Value → Shared → Prop
/-- the callers' frames -/
def frs (l : List Env) : List Addr := l.filterMap (·.frame)
abbrev Cx.fs (X : Cx) : List Addr := frs X.outer
def Vis (sc : Scope) (x : Str) : Prop := sc.names.lookup x = some .local ∨ sc.names.lookup x = some .cell ∨ sc.names.lookup x = some .free
def Loc (sc : Scope) (x : Str) : Prop := sc.names.lookup x = some .local ∨ sc.names.lookup x = some .cell
def Look (env : Env) (h : Heap) (m : Str → Option Value) (x : Str) (u : Value) : Prop :=
  (env.kindOf x = some .local ∧ m x = some u) ∨ ((env.kindOf x = some .cell ∨ env.kindOf x = some .free) ∧ ∃ c, env.cells.lookup x = some c ∧ h.IsCell c (some u))
structure Cx.Ok (X : Cx) : Prop where
  mod : Mod X.K X.mg X.base
  kind : X.env.scope.kind = .function
  glob : X.env.globals = mainGlobals
  blt : X.env.builtins = builtinsNs
  above : X.s_0.heap.objs.size ≤ X.env.locals
  inj : ∀ x y c, X.env.cells.lookup x = some c → X.env.cells.lookup y = some c → x = y
  has : ∀ x, (X.env.kindOf x = some .cell ∨ X.env.kindOf x = some .free) → ∃ c, X.env.cells.lookup x = some c
  cab : ∀ x c, X.fn x = true → X.env.cells.lookup x = some c → X.s_0.heap.objs.size ≤ c
  hd : X.calm = true → X.A.handled = none
  frames : X.A.frames = some X.stack
  stk : X.stack = X.outer ∨ (X.stack = X.env :: X.outer ∧ X.env.frame = some X.env.locals)
  exf : ∀ b ∈ X.ex, b ≠ X.env.locals ∧ ∀ x c, X.env.cells.lookup x = some c → c ≠ b
  bs : ∀ b o, X.base.get? b = some o → X.s_0.heap.get? b = some o ∧ X.H_0 b = none
  bsz : X.base.objs.size ≤ X.s_0.heap.objs.size
  noex : ∀ b o, X.base.get? b = some o → b ∉ X.ex
  exfs : ∀ b ∈ X.ex, b ∉ X.fs
  funs : X.s_0.heap.FunFrames X.base X.outer
  frf : ∀ b ∈ X.fs, X.H_0 b = none
structure Inv (X : Cx) (pins : List (Addr × Obj)) (σ : List (Option V)) (H : Hp) (s : Shared) : Prop where
  ok : X.Ok
  os : s.os = X.s_0.os
  bare : AllBare s.gens
  base : Un X.fs X.ex X.H_0 H X.s_0.heap s.heap
  loc : ∃ m, s.heap.Ns X.env.locals m ∧ ∀ (i : Nat) (x : Str) (v : V), X.N[i]? = some x → σ[i]? = some (some v) → Vis X.env.scope x → ∃ u, RelV v u ∧ Look X.env s.heap m x u
  cell : ∀ x c, X.env.cells.lookup x = some c → ∃ v, s.heap.IsCell c v
  free : H X.env.locals = none
  freeC : ∀ x c, X.env.cells.lookup x = some c → H c = none
  pin : ∀ p ∈ X.pn ++ pins, s.heap.get? p.1 = some p.2 ∧ H p.1 = none ∧ p.1 ≠ X.env.locals ∧ p.1 ∉ X.fs ∧ ∀ v, p.2.data ≠ .cell v
  hok : HOk X.prog X.w H s.heap
  len : σ.length = X.N.length
section
variable {X : Cx} {pins : List (Addr × Obj)} {σ : List (Option V)} {H H' : Hp} {s : Shared} {h' : Heap}
theorem Cx.Ok.nofr (ok : X.Ok) {b : Addr} {o : Obj} (e : X.base.get? b = some o) : b ∉ X.fs := fun hb => by
  have := (ok.funs.mem hb).1
  rw [e] at this; cases this
theorem Inv.bs (I : Inv X pins σ H s) : ∀ b o, X.base.get? b = some o → s.heap.get? b = some o ∧ H b = none := fun b o e =>
  ⟨I.base.keep b o (I.ok.bs b o e).1 (I.ok.bs b o e).2 (I.ok.nofr e) (I.ok.noex b o e), I.base.free b o (I.ok.bs b o e).1 (I.ok.bs b o e).2 (I.ok.noex b o e)⟩
theorem Inv.bk (I : Inv X pins σ H s) : ∀ b o, X.base.get? b = some o → s.heap.get? b = some o := fun b o e => (I.bs b o e).1
theorem Inv.mod (I : Inv X pins σ H s) : Mod X.K X.mg X.base := I.ok.mod
theorem Inv.kIn (I : Inv X pins σ H s) : X.K.In s.heap := I.ok.mod.kin.keeps I.bk
theorem Inv.nolimit (I : Inv X pins σ H s) : s.heap.NoLimit := I.ok.mod.nolimit.keeps I.bk
theorem Inv.nodigits (I : Inv X pins σ H s) : s.heap.NoDigits := I.ok.mod.nodigits.keeps I.bk
theorem Inv.seer (I : Inv X pins σ H s) : s.heap.NoSeer := I.ok.mod.seer.keeps I.bk
theorem Inv.lt (I : Inv X pins σ H s) : X.env.locals < s.heap.objs.size := let ⟨_, hn, _⟩ := I.loc; hn.lt
theorem Inv.sz (I : Inv X pins σ H s) : X.s_0.heap.objs.size ≤ s.heap.objs.size := Nat.le_trans I.ok.above (Nat.le_of_lt I.lt)
theorem Inv.nofs (I : Inv X pins σ H s) {a : Addr} (h : s.heap.objs.size ≤ a) : a ∉ X.fs := fun hb => by
  obtain ⟨_, o, ho, _⟩ := I.ok.funs.mem hb
  exact absurd (Nat.lt_of_lt_of_le (Heap.lt_size ho) (Nat.le_trans I.sz h)) (Nat.lt_irrefl _)
theorem Inv.cne (I : Inv X pins σ H s) : ∀ x c, X.env.cells.lookup x = some c → c ≠ X.env.locals := fun x c e z => by
  obtain ⟨v, o, ho, hd⟩ := I.cell x c e
  obtain ⟨m, ⟨o', es, ep, ho', hd', _⟩, _⟩ := I.loc
  rw [z, ho'] at ho; cases ho; rw [hd'] at hd; cases hd
theorem Inv.funs (I : Inv X pins σ H s) : s.heap.FunFrames X.base X.outer := by
  have all : ∀ (l : List Env), (∀ b ∈ frs l, b ∈ X.fs) → X.s_0.heap.FunFrames X.base l → s.heap.FunFrames X.base l := by
    intro l
    induction l with
    | nil => intro _ _; trivial
    | cons env r ih =>
      intro hs hl
      obtain ⟨hk, ⟨L, o, hf, hn, ho, hd⟩, hr⟩ := hl
      have hL : L ∈ X.fs := hs L (by unfold frs; rw [List.filterMap_cons, hf]; exact List.mem_cons_self)
      obtain ⟨sl, e⟩ := I.base.slot L o ho (I.ok.frf L hL) hL fun z => I.ok.exfs L z hL
      exact ⟨hk, ⟨L, _, hf, hn, e, hd⟩, ih (fun b hb => hs b (by unfold frs; rw [List.filterMap_cons, hf]; exact List.mem_cons_of_mem _ hb)) hr⟩
  exact all X.outer (fun _ hb => hb) I.ok.funs
/-- the frames that run, for a call -/
theorem Inv.stack (I : Inv X pins σ H s) : s.heap.FunFrames X.base X.stack := by
  rcases I.ok.stk with e | ⟨e, hf⟩
  · rw [e]; exact I.funs
  · rw [e]
    obtain ⟨m, hn, _⟩ := I.loc
    refine .cons (by rw [I.ok.kind]; decide) hf hn ?_ I.funs
    exact Heap.get?_none_of_le (Nat.le_trans I.ok.bsz I.ok.above)
theorem Inv.stkSub (I : Inv X pins σ H s) : ∀ b ∈ frs X.stack, b ∈ X.env.locals :: X.fs := fun b hb => by
  rcases I.ok.stk with e | ⟨e, hf⟩
  · rw [e] at hb; exact List.mem_cons_of_mem _ hb
  · rw [e] at hb
    unfold frs at hb
    rw [List.filterMap_cons, hf] at hb
    exact hb
theorem Inv.stkFree (I : Inv X pins σ H s) : ∀ b ∈ frs X.stack, H b = none := fun b hb => by
  rcases List.mem_cons.mp (I.stkSub b hb) with e | hb
  · rw [e]; exact I.free
  · obtain ⟨_, o, ho, _⟩ := I.ok.funs.mem hb
    exact I.base.free b o ho (I.ok.frf b hb) fun z => I.ok.exfs b z hb
/-- THE STEP: the untracked objects but the frame and the records at ch are kept (the callers' frames up to slots), the frame's map is kept, the new abstract heap is held -/
theorem Inv.step {g' : Array GenState} {t' : Nat} {d' : Drawn} {ch : List Addr} (I : Inv X pins σ H s)
    (hch : ∀ b ∈ ch, (b ∈ X.ex ∨ X.s_0.heap.objs.size ≤ b) ∧ b ≠ X.env.locals ∧ (∀ x c, X.env.cells.lookup x = some c → c ≠ b) ∧ ∀ p ∈ X.pn ++ pins, p.1 ≠ b)
    (keep : ∀ b o, b ≠ X.env.locals → b ∉ X.fs → b ∉ ch → s.heap.get? b = some o → H b = none → h'.get? b = some o)
    (slot : ∀ b o, b ≠ X.env.locals → b ∈ X.fs → b ∉ ch → s.heap.get? b = some o → H b = none → ∃ sl, h'.get? b = some { o with slots := sl }) (free : ∀ b o, b ∉ ch → s.heap.get? b = some o → H b = none → H' b = none)
    (there : ∀ b o, b ∉ ch → s.heap.get? b = some o → ∃ o', h'.get? b = some o')
    (tups : ∀ b xs, H b = some (.tup xs) → H' b = some (.tup xs)) (frzs : ∀ b o u, H b = some (.frz o u) → H' b = some (.frz o u)) (tbls : ∀ b ps, H b = some (.tbl ps) → ∃ more, H' b = some (.tbl (ps ++ more)))
    (ns : ∀ m, s.heap.Ns X.env.locals m → h'.Ns X.env.locals m) (hok : HOk X.prog X.w H' h') (hg : AllBare g') :
    Inv X pins σ H' { s with heap := h', gens := g', drawn := d', toks := t' } := by
  have neL : ∀ b o, X.s_0.heap.get? b = some o → b ≠ X.env.locals := fun b o e => Nat.ne_of_lt (Nat.lt_of_lt_of_le (Heap.lt_size e) I.ok.above)
  have neC : ∀ b o, X.s_0.heap.get? b = some o → b ∉ X.ex → b ∉ ch := fun b o e hx hb => by
    rcases (hch b hb).1 with z | z
    · exact hx z
    · exact absurd (Nat.lt_of_lt_of_le (Heap.lt_size e) z) (Nat.lt_irrefl _)
  have cellK : ∀ x c, X.env.cells.lookup x = some c → ∀ v, s.heap.IsCell c v → h'.IsCell c v := fun x c e v ⟨o, ho, hd⟩ => by
    have nch : c ∉ ch := fun z => (hch c z).2.2.1 x c e rfl
    by_cases hc : c ∈ X.fs
    · obtain ⟨sl, q⟩ := slot c o (I.cne x c e) hc nch ho (I.freeC x c e)
      exact ⟨_, q, hd⟩
    · exact ⟨o, keep c o (I.cne x c e) hc nch ho (I.freeC x c e), hd⟩
  refine ⟨I.ok, I.os, hg, ⟨fun b o e n hb hx => ?_, fun b o e n hb hx => ?_, fun b o e n hx => ?_, fun b o e hx => ?_, fun b xs e => tups b xs (I.base.tups b xs e), fun b o xs e => frzs b o xs (I.base.frzs b o xs e), fun b ps e => ?_⟩, ?_, fun x c e => ?_, ?_, fun x c e => ?_, fun p hp => ?_, hok, I.len⟩
  · exact keep b o (neL b o e) hb (neC b o e hx) (I.base.keep b o e n hb hx) (I.base.free b o e n hx)
  · obtain ⟨sl, e1⟩ := I.base.slot b o e n hb hx
    obtain ⟨sl', e2⟩ := slot b _ (neL b o e) hb (neC b o e hx) e1 (I.base.free b o e n hx)
    exact ⟨sl', e2⟩
  · obtain ⟨o', e1⟩ := I.base.there b o e hx
    exact free b o' (neC b o e hx) e1 (I.base.free b o e n hx)
  · obtain ⟨o', e1⟩ := I.base.there b o e hx
    exact there b o' (neC b o e hx) e1
  · obtain ⟨m1, e1⟩ := I.base.tbls b ps e
    obtain ⟨m2, e2⟩ := tbls b _ e1
    exact ⟨m1 ++ m2, by rw [e2, Array.append_assoc]⟩
  · obtain ⟨m, hn, hl⟩ := I.loc
    refine ⟨m, ns m hn, fun i x v e1 e2 e3 => ?_⟩
    obtain ⟨u, r, l⟩ := hl i x v e1 e2 e3
    refine ⟨u, r, ?_⟩
    rcases l with l | ⟨k, c, e, z⟩
    · exact .inl l
    · exact .inr ⟨k, c, e, cellK x c e _ z⟩
  · obtain ⟨v, z⟩ := I.cell x c e
    exact ⟨v, cellK x c e v z⟩
  · obtain ⟨m, ⟨o, _, _, ho, _⟩, _⟩ := I.loc
    exact free _ o (fun z => (hch _ z).2.1 rfl) ho I.free
  · obtain ⟨v, o, ho, hd⟩ := I.cell x c e
    exact free c o (fun z => (hch c z).2.2.1 x c e rfl) ho (I.freeC x c e)
  · obtain ⟨e, n, ne, nf, d⟩ := I.pin p hp
    have nch : p.1 ∉ ch := fun z => (hch p.1 z).2.2.2 p hp rfl
    exact ⟨keep p.1 p.2 ne nf nch e n, free p.1 p.2 nch e n, ne, nf, d⟩
/-- .. where the frame's own object is kept too -/
theorem Inv.un {t' : Nat} (I : Inv X pins σ H s) (u : Un X.fs [] H H' s.heap h') (hok : HOk X.prog X.w H' h') : Inv X pins σ H' { s with heap := h', toks := t' } := by
  obtain ⟨m, ⟨o, es, ep, ho, r⟩, _⟩ := id I.loc
  obtain ⟨sl, hL⟩ := u.any ho I.free (by simp)
  exact I.step (g' := s.gens) (d' := s.drawn) (ch := []) (fun _ z => nomatch z) (fun b o _ hb _ e n => u.keep b o e n hb (by simp)) (fun b o _ hb _ e n => u.slot b o e n hb (by simp)) (fun b o _ e n => u.free b o e n (by simp)) (fun b o _ e => u.there b o e (by simp)) u.tups u.frzs u.tbls (fun m' hm => by
    obtain ⟨o', es', ep', ho', r'⟩ := hm
    rw [ho] at ho'; cases ho'
    exact ⟨_, es', ep', hL, r'⟩) hok I.bare
/-- behind a call (or a comprehension's block): the slots of this frame may have changed too, the records at ch may have turned -/
theorem Inv.call {g' : Array GenState} {t' : Nat} {d' : Drawn} {ch : List Addr} (I : Inv X pins σ H s) (u : Un (frs X.stack) ch H H' s.heap h') (hok : HOk X.prog X.w H' h') (hg : AllBare g')
    (hch : ∀ b ∈ ch, (b ∈ X.ex ∨ X.s_0.heap.objs.size ≤ b) ∧ b ≠ X.env.locals ∧ (∀ x c, X.env.cells.lookup x = some c → c ≠ b) ∧ ∀ p ∈ X.pn ++ pins, p.1 ≠ b) :
    Inv X pins σ H' { s with heap := h', gens := g', drawn := d', toks := t' } := by
  obtain ⟨m, ⟨o, es, ep, ho, r⟩, _⟩ := id I.loc
  obtain ⟨sl, hL⟩ := u.any ho I.free fun z => (hch _ z).2.1 rfl
  exact I.step (ch := ch) hch (fun b o hL hb hc e n => u.keep b o e n (fun z => (List.mem_cons.mp (I.stkSub b z)).elim hL hb) hc) (fun b o _ _ hc e n => u.any e n hc) (fun b o hc e n => u.free b o e n hc) (fun b o hc e => u.there b o e hc) u.tups u.frzs u.tbls (fun m' hm => by
    obtain ⟨o', es', ep', ho', r'⟩ := hm
    rw [ho] at ho'; cases ho'
    exact ⟨_, es', ep', hL, r'⟩) hok hg
/-- an untracked record of ours (an iterator) has turned -/
theorem Inv.turned {t' : Nat} {it : Addr} (I : Inv X pins σ H s) (k : ∀ b o, b ≠ it → s.heap.get? b = some o → h'.get? b = some o) (hn : H it = none) (hL : it ≠ X.env.locals)
    (h1 : it ∈ X.ex ∨ X.s_0.heap.objs.size ≤ it) (h2 : ∀ x c, X.env.cells.lookup x = some c → c ≠ it) (h3 : ∀ p ∈ X.pn ++ pins, p.1 ≠ it) : Inv X pins σ H { s with heap := h', toks := t' } := by
  have nit : ∀ b u, H b = some u → b ≠ it := fun b u e z => by rw [z, hn] at e; cases e
  refine I.step (g' := s.gens) (d' := s.drawn) (ch := [it]) (fun b hb => ?_) (fun b o _ _ hc e _ => k b o (fun z => hc (by simp [z])) e) (fun b o _ _ hc e _ => ⟨o.slots, k b o (fun z => hc (by simp [z])) e⟩) (fun _ _ _ _ n => n)
    (fun b o hc e => ⟨o, k b o (fun z => hc (by simp [z])) e⟩) (fun _ _ e => e) (fun _ _ _ e => e) (fun b ps e => ⟨#[], by rw [e]; simp⟩) (fun m hm => ?_) (fun b u e => ?_) I.bare
  · have e : b = it := by simpa using hb
    subst e
    exact ⟨h1, hL, h2, h3⟩
  · obtain ⟨o, es, ep, ho, r⟩ := hm
    exact ⟨o, es, ep, k _ o (Ne.symm hL) ho, r⟩
  · refine (I.hok b u e).stay (fun c v hc q => k c v ?_ q) (fun _ q => q) fun _ _ q => q
    rcases hc with z | z
    · rw [z]; exact nit b u e
    · exact nit c _ z
theorem Inv.tok (I : Inv X pins σ H s) (t : Nat) : Inv X pins σ H { s with toks := t } := I.un (h' := s.heap) (t' := t) Un.refl I.hok
/-- all objects kept -/
theorem Inv.kept {t' : Nat} (I : Inv X pins σ H s) (k : ∀ b u, s.heap.get? b = some u → h'.get? b = some u) : Inv X pins σ H { s with heap := h', toks := t' } := I.un (Un.kept k) (I.hok.kept k)
/-- a new object laid and tracked -/
theorem Inv.laid {a : Addr} {o : HO} {t' : Nat} (I : Inv X pins σ H s) (k : ∀ b u, s.heap.get? b = some u → h'.get? b = some u) (hp : s.heap.objs.size ≤ a) (new : ObjOk X.prog X.w (upd H a o) h' a o) :
    Inv X pins σ (upd H a o) { s with heap := h', toks := t' } := I.un (Un.laid k hp (I.hok.fresh hp)) (I.hok.laid k hp new)
/-- an object written -/
theorem Inv.write {x e : Addr} {o : HO} {t' : Nat} (I : Inv X pins σ H s) (mu : Mut (H x)) (he : e = x ∨ H e = some (.own x)) (k : ∀ b u, b ≠ e → s.heap.get? b = some u → h'.get? b = some u) (heo : ∃ u, h'.get? e = some u)
    (new : ObjOk X.prog X.w (upd H x o) h' x o) : Inv X pins σ (upd H x o) { s with heap := h', toks := t' } := I.un (Un.write mu he k heo) (I.hok.write mu he k heo new)
/-- forgetting slots, pins -/
theorem Inv.weak {σ' : List (Option V)} (I : Inv X pins σ H s) (hl : σ'.length = σ.length) (w : ∀ (i : Nat) v, σ'[i]? = some (some v) → σ[i]? = some (some v)) : Inv X pins σ' H s :=
  ⟨I.ok, I.os, I.bare, I.base, let ⟨m, hn, hl'⟩ := I.loc; ⟨m, hn, fun i x v e1 e2 e3 => hl' i x v e1 (w i v e2) e3⟩, I.cell, I.free, I.freeC, I.pin, I.hok, hl.trans I.len⟩
theorem Inv.pins_of {pins' : List (Addr × Obj)} (I : Inv X pins σ H s) (h : ∀ p ∈ pins', s.heap.get? p.1 = some p.2 ∧ H p.1 = none ∧ p.1 ≠ X.env.locals ∧ p.1 ∉ X.fs ∧ ∀ v, p.2.data ≠ .cell v) : Inv X pins' σ H s :=
  ⟨I.ok, I.os, I.bare, I.base, I.loc, I.cell, I.free, I.freeC, fun p hp => (List.mem_append.mp hp).elim (fun z => I.pin p (List.mem_append_left _ z)) (h p), I.hok, I.len⟩
theorem nodup_ix {N : List Str} (hN : N.Nodup) {i j : Nat} {x : Str} (a : N[i]? = some x) (b : N[j]? = some x) : i = j := by
  obtain ⟨h1, e1⟩ := List.getElem?_eq_some_iff.mp a
  obtain ⟨h2, e2⟩ := List.getElem?_eq_some_iff.mp b
  exact (List.getElem_inj hN).mp (e1.trans e2.symm)
/-- a name is stored; what changed -/
theorem store_ok2 {M : Model} {A : Around} {E : Value → Shared → Prop} {i : Nat} {x : Str} {v : V} {u : Value} {Q : Unit → Shared → Prop} (I : Inv X pins σ H s) (hN : X.N.Nodup) (hi : X.N[i]? = some x) (hx : Loc X.env.scope x) (r : RelV v u)
    (h : ∀ s', Inv X pins (σ.set i (some v)) H s' → (∃ a, Heap.SameBut a s.heap s'.heap ∧ (a = X.env.locals ∨ X.env.cells.lookup x = some a)) → Q () s') (hf : X.fn x = true ∨ X.env.scope.names.lookup x = some .local := by first | exact .inl rfl | exact .inr rfl | assumption) : wpAny M A (storeName X.env x u) Q E s := by
  obtain ⟨m, hn, hl⟩ := id I.loc
  have hcls : (X.env.scope.kind == .class || (X.env.scope.kind == .module && X.env.locals != X.env.globals)) = false := by rw [I.ok.kind]; rfl
  have hiσ : i < σ.length := by rw [I.len]; exact (List.getElem?_eq_some_iff.mp hi).1
  have cne := I.cne
  have tracked : ∀ {a : Addr} {h' : Heap}, (∃ o, s.heap.get? a = some o ∧ H a = none) → Heap.SameBut a s.heap h' → HOk X.prog X.w H h' := fun {a h'} ha hs b ob e => by
    obtain ⟨_, _, hfree⟩ := ha
    refine (I.hok b ob e).stay (fun c w' hc q => (hs.2 c ?_).trans q) (fun _ q => q) fun _ _ q => q
    rintro rfl
    rcases hc with rfl | hc
    · rw [hfree] at e; cases e
    · rw [hfree] at hc; cases hc
  rcases hx with hk | hk
  · refine wpAny_storeName_local hk hn (fun h' hn' hs => ?_) hcls
    obtain ⟨oL, _, _, hoL, _⟩ := id hn
    refine h _ ⟨I.ok, I.os, I.bare, ⟨fun b o e n hb hx => ?_, fun b o e n hb hx => ?_, I.base.free, fun b o e hx => ?_, I.base.tups, I.base.frzs, I.base.tbls⟩, ⟨_, hn', fun j y v' e1 e2 e3 => ?_⟩, fun y c e => ?_, I.free, I.freeC, fun p hp => ?_, tracked ⟨oL, hoL, I.free⟩ hs, by simpa using I.len⟩ ⟨_, hs, .inl rfl⟩
    · exact (hs.2 b (Nat.ne_of_lt (Nat.lt_of_lt_of_le (Heap.lt_size e) I.ok.above))).trans (I.base.keep b o e n hb hx)
    · obtain ⟨sl, e1⟩ := I.base.slot b o e n hb hx
      exact ⟨sl, (hs.2 b (Nat.ne_of_lt (Nat.lt_of_lt_of_le (Heap.lt_size e) I.ok.above))).trans e1⟩
    · obtain ⟨o', e1⟩ := I.base.there b o e hx
      exact ⟨o', (hs.2 b (Nat.ne_of_lt (Nat.lt_of_lt_of_le (Heap.lt_size e) I.ok.above))).trans e1⟩
    · by_cases hj : j = i
      · subst hj
        rw [hi] at e1; cases e1
        rw [List.getElem?_set_self hiσ] at e2
        cases e2
        exact ⟨u, r, .inl ⟨hk, by simp⟩⟩
      · rw [List.getElem?_set_ne (Ne.symm hj)] at e2
        obtain ⟨u', r', q⟩ := hl j y v' e1 e2 e3
        refine ⟨u', r', ?_⟩
        rcases q with ⟨k, e⟩ | ⟨k, c, e, z⟩
        · refine .inl ⟨k, ?_⟩
          have : y ≠ x := fun e => hj (nodup_ix hN e1 (e ▸ hi))
          simp [this, e]
        · exact .inr ⟨k, c, e, z.sameBut hs (cne y c e)⟩
    · obtain ⟨w', z⟩ := I.cell y c e
      exact ⟨w', z.sameBut hs (cne y c e)⟩
    · obtain ⟨e, n, ne, nf, d⟩ := I.pin p hp
      exact ⟨(hs.2 p.1 ne).trans e, n, ne, nf, d⟩
  · have hfn : X.fn x = true := by
      rcases hf with z | z
      · exact z
      · rw [z] at hk; cases hk
    obtain ⟨c, hc⟩ := I.ok.has x (.inl hk)
    obtain ⟨w', z⟩ := I.cell x c hc
    refine wpAny_storeName_cell I.ok.kind hk hc z (fun h' hc' hs => ?_)
    obtain ⟨oc, hoc, hocd⟩ := id z
    refine h { s with heap := h' } ⟨I.ok, I.os, I.bare, ⟨fun b o e n hb hx => ?_, fun b o e n hb hx => ?_, I.base.free, fun b o e hx => ?_, I.base.tups, I.base.frzs, I.base.tbls⟩, ⟨m, hn.sameBut hs (Ne.symm (cne x c hc)), fun j y v' e1 e2 e3 => ?_⟩, fun y c' e => ?_, I.free, I.freeC, fun p hp => ?_, tracked ⟨oc, hoc, I.freeC x c hc⟩ hs, by simpa using I.len⟩ ⟨c, hs, .inr hc⟩
    · exact (hs.2 b (Nat.ne_of_lt (Nat.lt_of_lt_of_le (Heap.lt_size e) (I.ok.cab x c hfn hc)))).trans (I.base.keep b o e n hb hx)
    · obtain ⟨sl, e1⟩ := I.base.slot b o e n hb hx
      exact ⟨sl, (hs.2 b (Nat.ne_of_lt (Nat.lt_of_lt_of_le (Heap.lt_size e) (I.ok.cab x c hfn hc)))).trans e1⟩
    · obtain ⟨o', e1⟩ := I.base.there b o e hx
      exact ⟨o', (hs.2 b (Nat.ne_of_lt (Nat.lt_of_lt_of_le (Heap.lt_size e) (I.ok.cab x c hfn hc)))).trans e1⟩
    · by_cases hj : j = i
      · subst hj
        rw [hi] at e1; cases e1
        rw [List.getElem?_set_self hiσ] at e2
        cases e2
        exact ⟨u, r, .inr ⟨.inl hk, c, hc, hc'⟩⟩
      · rw [List.getElem?_set_ne (Ne.symm hj)] at e2
        obtain ⟨u', r', q⟩ := hl j y v' e1 e2 e3
        refine ⟨u', r', ?_⟩
        rcases q with q | ⟨k, c', e, z'⟩
        · exact .inl q
        · refine .inr ⟨k, c', e, z'.sameBut hs ?_⟩
          rintro rfl
          exact hj (nodup_ix hN e1 (I.ok.inj _ _ _ e hc ▸ hi))
    · by_cases hcc : c' = c
      · subst hcc; exact ⟨_, hc'⟩
      · obtain ⟨w2, z2⟩ := I.cell y c' e
        exact ⟨w2, z2.sameBut hs hcc⟩
    · obtain ⟨e, n, ne, nf, d⟩ := I.pin p hp
      refine ⟨(hs.2 p.1 ?_).trans e, n, ne, nf, d⟩
      intro q
      rw [q, hoc] at e
      have q' : oc = p.2 := Option.some.inj e
      exact d w' (by rw [← q']; exact hocd)
theorem store_ok {M : Model} {A : Around} {E : Value → Shared → Prop} {i : Nat} {x : Str} {v : V} {u : Value} {Q : Unit → Shared → Prop} (I : Inv X pins σ H s) (hN : X.N.Nodup) (hi : X.N[i]? = some x) (hx : Loc X.env.scope x) (r : RelV v u)
    (h : ∀ s', Inv X pins (σ.set i (some v)) H s' → Q () s') (hf : X.fn x = true ∨ X.env.scope.names.lookup x = some .local := by first | exact .inl rfl | exact .inr rfl | assumption) : wpAny M A (storeName X.env x u) Q E s :=
  store_ok2 I hN hi hx r (fun s' I' _ => h s' I') hf
/-- behind a call or a block, the state as it is -/
theorem Inv.call' {s' : Shared} {ch : List Addr} (I : Inv X pins σ H s) (ho : s'.os = s.os) (u : Un (frs X.stack) ch H H' s.heap s'.heap) (hok : HOk X.prog X.w H' s'.heap) (hg : AllBare s'.gens)
    (hch : ∀ b ∈ ch, (b ∈ X.ex ∨ X.s_0.heap.objs.size ≤ b) ∧ b ≠ X.env.locals ∧ (∀ x c, X.env.cells.lookup x = some c → c ≠ b) ∧ ∀ p ∈ X.pn ++ pins, p.1 ≠ b) : Inv X pins σ H' s' := by
  obtain ⟨h', g', d', t', o'⟩ := s'
  have e : o' = s.os := ho
  subst e
  exact I.call (g' := g') (t' := t') (d' := d') u hok hg hch
end
/-- an exception: its class, its own dict's address (where it has one), the abstract heap behind it -/
abbrev XK := Value → Option Addr → Hp → Prop
abbrev St := List (Option V)
abbrev VK := V → Hp → Prop
/-- an expression's reading; a test's; an argument list's -/
abbrev TE := St → Hp → VK → Prop
abbrev TT := St → Hp → (Bool → Hp → Prop) → Prop
abbrev TA := St → Hp → (List V → Hp → Prop) → Prop
/-- what is wanted behind a statement -/
structure Ends where
  nx : St → Hp → Prop
  rt : VK
  bk : St → Hp → Prop := fun _ _ => False
  ct : St → Hp → Prop := fun _ _ => False
abbrev TS := Ends → St → Hp → Prop
def EP (X : Cx) (pins : List (Addr × Obj)) (σ : St) (Q : VK) (u : Value) (s' : Shared) : Prop := ∃ v H', Inv X pins σ H' s' ∧ RelV v u ∧ Q v H'
def TP (X : Cx) (pins : List (Addr × Obj)) (σ : St) (Q : Bool → Hp → Prop) (b : Bool) (s' : Shared) : Prop := ∃ H', Inv X pins σ H' s' ∧ Q b H'
def AP (X : Cx) (pins : List (Addr × Obj)) (σ : St) (Q : List V → Hp → Prop) (us : List Value) (s' : Shared) : Prop := ∃ vs H', Inv X pins σ H' s' ∧ Vals vs us ∧ Q vs H'
def SP (X : Cx) (pins : List (Addr × Obj)) (D : Ends) (f : Flow) (s' : Shared) : Prop :=
  match f with
  | .next => ∃ σ' H', Inv X pins σ' H' s' ∧ D.nx σ' H'
  | .brk => ∃ σ' H', Inv X pins σ' H' s' ∧ D.bk σ' H'
  | .cont => ∃ σ' H', Inv X pins σ' H' s' ∧ D.ct σ' H'
  | .ret u => ∃ v σ' H', Inv X pins σ' H' s' ∧ RelV v u ∧ D.rt v H'
def PE (X : Cx) (e : Expr) (t : TE) : Prop :=
  ∀ (pins : List (Addr × Obj)) (s : Shared) (σ : St) (H : Hp) (Q : VK), Inv X pins σ H s → t σ H Q → wpAny (model X.prog X.w) X.A (eval e X.env) (EP X pins σ Q) X.xe s
def PT (X : Cx) (e : Expr) (t : TT) : Prop :=
  ∀ (pins : List (Addr × Obj)) (s : Shared) (σ : St) (H : Hp) (Q : Bool → Hp → Prop), Inv X pins σ H s → t σ H Q → wpAny (model X.prog X.w) X.A (isTrue e X.env (eval e X.env)) (TP X pins σ Q) X.xe s
/-- a test whatever its 'whole' is (and, or) -/
def PW (X : Cx) (e : Expr) (t : TT) : Prop :=
  ∀ (whole : Sem Value) (pins : List (Addr × Obj)) (s : Shared) (σ : St) (H : Hp) (Q : Bool → Hp → Prop), Inv X pins σ H s → t σ H Q → wpAny (model X.prog X.w) X.A (isTrue e X.env whole) (TP X pins σ Q) X.xe s
theorem PW.pt {X : Cx} {e : Expr} {t : TT} (h : PW X e t) : PT X e t := h _
/-- an argument list (no star), from the left -/
def PA (X : Cx) (es : List Expr) (t : TA) : Prop :=
  ∀ (pos : Pos) (pins : List (Addr × Obj)) (s : Shared) (σ : St) (H : Hp) (Q : List V → Hp → Prop), Inv X pins σ H s → t σ H Q → wpAny (model X.prog X.w) X.A (spliced (backTo pos (starEach es X.env))) (AP X pins σ Q) X.xe s
def PS (X : Cx) (st : Stmt) (t : TS) : Prop :=
  ∀ (pins : List (Addr × Obj)) (s : Shared) (σ : St) (H : Hp) (D : Ends), Inv X pins σ H s → t D σ H → wpAny (model X.prog X.w) X.A (exec st X.env) (SP X pins D) X.xe s
def PSs (X : Cx) (st : List Stmt) (t : TS) : Prop :=
  ∀ (pins : List (Addr × Obj)) (s : Shared) (σ : St) (H : Hp) (D : Ends), Inv X pins σ H s → t D σ H → wpAny (model X.prog X.w) X.A (execs st X.env) (SP X pins D) X.xe s
/-- weaken the end -/
theorem thn {α : Type} {t : Sem α} {Q Q' : α → Shared → Prop} {M : Model} {A : Around} {E : Value → Shared → Prop} {s : Shared} (h : wpAny M A t Q E s) (hQ : ∀ a s, Q a s → Q' a s) : wpAny M A t Q' E s := wpAny_mono h hQ fun _ _ x => x
end L2
namespace L2
open PySem PySem.Spec PyProof.Rows
section
variable {X : Cx}
def tVar (i : Nat) : TE := fun σ H Q => ∃ v, σ[i]? = some (some v) ∧ Q v H
def tC (v : V) : TE := fun _ H Q => Q v H
theorem pe_var {i : Nat} {x : Str} {pos : Pos} (hN : X.N[i]? = some x) (hv : Vis X.env.scope x) (hd : (x == ("__debug__" : Str)) = false := by decide) (hcd : (x == ("__classdict__" : Str)) = false := by decide) : PE X (.Name x pos) (tVar i) := by
  intro pins s σ H Q I h
  obtain ⟨v, e, h⟩ := h
  obtain ⟨m, hn, hl⟩ := I.loc
  obtain ⟨u, r, l⟩ := hl i x v hN e hv
  have fin : EP X pins σ Q u s := ⟨v, H, I, r, h⟩
  rcases l with ⟨hk, hm⟩ | ⟨hk, c, hc, hcell⟩
  · exact wpAny_Name (wpAny_loadName_local I.ok.kind hk hn hm fin) hd
  · rcases hk with hk | hk
    · exact wpAny_Name (wpAny_loadName_cell I.ok.kind hk hc hcell fin) hd
    · exact wpAny_Name (wpAny_loadName_free I.ok.kind hk hc hcell fin hcd) hd
theorem pe_int {i j pos} : PE X (.Constant (.int i) j pos) (tC (.int i)) := fun _ _ _ H _ I h => wpAny_Constant_int ⟨.int i, H, I.tok _, ⟨_, rfl⟩, h⟩
theorem pe_bl {b j pos} : PE X (.Constant (.bool b) j pos) (tC (.bl b)) := fun _ _ _ H _ I h => Constant_bool ⟨.bl b, H, I, rfl, h⟩
theorem pe_non {j pos} : PE X (.Constant .none j pos) (tC .non) := fun _ _ _ H _ I h => Constant_none ⟨.non, H, I, rfl, h⟩
theorem pe_str {x j pos} : PE X (.Constant (.str x) j pos) (tC (.str x)) := fun _ _ _ H _ I h => Calls.Constant_str ⟨.str x, H, I.tok _, ⟨_, rfl⟩, h⟩
/-- a global name of the def -/
def Gl (X : Cx) (x : Str) : Prop := X.env.kindOf x = some .globalImplicit
theorem ld_glob {E : Value → Shared → Prop} {pins : List (Addr × Obj)} {s : Shared} {σ : St} {H : Hp} {x : Str} {u : Value} {pos : Pos} {Q : Value → Shared → Prop} (I : Inv X pins σ H s) (hg : Gl X x) (hm : X.mg x = some u) (h : Q u s)
    (hd : (x == ("__debug__" : Str)) = false := by decide) : wpAny (model X.prog X.w) X.A (eval (.Name x pos) X.env) Q E s :=
  Calls.Name_function_global I.ok.kind hg (Calls.loadGlobal_global (by rw [I.ok.glob]; exact I.mod.glob.keeps I.bk) hm h) hd
theorem ld_blt {E : Value → Shared → Prop} {pins : List (Addr × Obj)} {s : Shared} {σ : St} {H : Hp} {x : Str} {u : Value} {pos : Pos} {Q : Value → Shared → Prop} (I : Inv X pins σ H s) (hg : Gl X x) (hm : X.mg x = none) (hv : bootBuiltins x = some u) (h : Q u s)
    (hn : x ≠ "__name__" := by decide) (hd : (x == ("__debug__" : Str)) = false := by decide) : wpAny (model X.prog X.w) X.A (eval (.Name x pos) X.env) Q E s := by
  obtain ⟨mb, h1, h2⟩ := I.mod.blt
  exact Calls.Name_function_global I.ok.kind hg (Calls.loadGlobal_builtin (by rw [I.ok.glob]; exact I.mod.glob.keeps I.bk) hm (by rw [I.ok.blt]; exact h1.keeps I.bk) ((h2 x hn).trans hv) h) hd
/-- a module's constant, a class, a function, as a value -/
theorem pe_glob {x : Str} {v : V} {u : Value} {pos : Pos} (hg : Gl X x) (hm : X.mg x = some u) (r : RelV v u) (hd : (x == ("__debug__" : Str)) = false := by decide) : PE X (.Name x pos) (tC v) :=
  fun _ _ _ H _ I h => ld_glob I hg hm ⟨v, H, I, r, h⟩ hd
variable {a b : Expr} {ta tb : TE} {pos : Pos}
/-- a comparison as a value, as a test -/
def tB (t : TE) : TT := fun σ H Q => t σ H fun x H1 => ∃ c, x = .bl c ∧ Q c H1
/-- an expression whose value is a bool, as a test -/
theorem pt_val {e : Expr} {t : TE} (h : PE X e t) (he : ∀ whole, isTrue e X.env whole = (do let v ← whole; standAt e.pos; holding [v] (truthy v)) := by intro _; rfl) : PT X e (tB t) := by
  intro pins s σ H Q I hw
  refine isTrue_plain (thn (h pins s σ H _ I hw) fun v s1 ⟨x, H1, I1, r1, q1⟩ => ?_) (he _)
  obtain ⟨d, rfl, q⟩ := q1
  cases r1
  exact wpAny_truthy_bool ⟨H1, I1, q⟩
variable {tA tB' : TT} {rest : List Expr}
def tAnd (t u : TT) : TT := fun σ H Q => t σ H fun c H1 => if c = true then u σ H1 Q else Q false H1
def tOr (t u : TT) : TT := fun σ H Q => t σ H fun c H1 => if c = true then Q true H1 else u σ H1 Q
theorem pw_and1 (ha : PT X a tA) : PW X (.BoolOp .And [a] pos) tA := by
  intro wh pins s σ H Q I h
  refine isTrue_and (thn (ha pins s σ H Q I h) fun c s1 e => ?_)
  cases c with
  | true => exact isTrue_and_nil e
  | false => exact e
theorem pw_or1 (ha : PT X a tA) : PW X (.BoolOp .Or [a] pos) tA := by
  intro wh pins s σ H Q I h
  refine isTrue_or (thn (ha pins s σ H Q I h) fun c s1 e => ?_)
  cases c with
  | false => exact isTrue_or_nil e
  | true => exact e
theorem pw_and (ha : PT X a tA) (hb : PW X (.BoolOp .And (b :: rest) pos) tB') : PW X (.BoolOp .And (a :: b :: rest) pos) (tAnd tA tB') := by
  intro wh pins s σ H Q I h
  refine isTrue_and (thn (ha pins s σ H _ I h) fun c s1 ⟨H1, I1, q1⟩ => ?_)
  cases c with
  | true => exact hb wh pins s1 σ H1 Q I1 q1
  | false => exact ⟨H1, I1, q1⟩
theorem pw_or (ha : PT X a tA) (hb : PW X (.BoolOp .Or (b :: rest) pos) tB') : PW X (.BoolOp .Or (a :: b :: rest) pos) (tOr tA tB') := by
  intro wh pins s σ H Q I h
  refine isTrue_or (thn (ha pins s σ H _ I h) fun c s1 ⟨H1, I1, q1⟩ => ?_)
  cases c with
  | true => exact ⟨H1, I1, q1⟩
  | false => exact hb wh pins s1 σ H1 Q I1 q1
/-- .. as values (bools) -/
def tAndV (ta tb : TE) : TE := fun σ H Q => ta σ H fun x H1 => ∃ c, x = .bl c ∧ if c = true then tb σ H1 Q else Q (.bl false) H1
theorem pe_one {op} {t : TE} (h : PE X a t) : PE X (.BoolOp op [a] pos) t := fun pins s σ H Q I hw => BoolOp_one (h pins s σ H Q I hw)
theorem pe_and (ha : PE X a ta) (hb : PE X (.BoolOp .And (b :: rest) pos) tb) : PE X (.BoolOp .And (a :: b :: rest) pos) (tAndV ta tb) := by
  intro pins s σ H Q I h
  refine BoolOp_and (thn (ha pins s σ H _ I h) fun v s1 ⟨x, H1, I1, r1, q1⟩ => ?_)
  obtain ⟨c, rfl, q1⟩ := q1
  cases r1
  refine wpAny_truthy_bool ?_
  cases c with
  | true => exact hb pins s1 σ H1 Q I1 q1
  | false => exact ⟨.bl false, H1, I1, rfl, q1⟩
/-- a if t else b -/
def tIf (t : TT) (ta tb : TE) : TE := fun σ H Q => t σ H fun c H1 => if c = true then ta σ H1 Q else tb σ H1 Q
theorem pe_ifExp {c : Expr} (hc : PT X c tA) (ha : PE X a ta) (hb : PE X b tb) : PE X (.IfExp c a b pos) (tIf tA ta tb) := by
  intro pins s σ H Q I h
  refine wpAny_IfExp (thn (hc pins s σ H _ I h) fun d s1 ⟨H1, I1, q1⟩ => ?_)
  cases d with
  | true => exact ha pins s1 σ H1 Q I1 q1
  | false => exact hb pins s1 σ H1 Q I1 q1
end
end L2
namespace L2
open PySem PySem.Spec PyProof.Rows
def SqL (K : PySem.W.Frag) (H : Hp) (a : Addr) (xs : List V) : Prop :=
  Rd H a (.lst xs) ∨
    ∃ (o : Obj) (its : Array Value) (n : Nat), K.lookup a = some o ∧ o.cls = .type "list" ∧ o.dict = none ∧ o.data = .seq its n ∧ its.size ≤ sizeLine ∧ Vals xs its.toList
def SqT (K : PySem.W.Frag) (H : Hp) (a : Addr) (xs : List V) : Prop :=
  Rd H a (.tup xs) ∨
    ∃ (o : Obj) (its : Array Value) (n : Nat), K.lookup a = some o ∧ o.cls = .type "tuple" ∧ o.data = .seq its n ∧ its.size ≤ sizeLine ∧ Vals xs its.toList
def absV : Value → Option V
  | .none => some .non
  | .bool b => some (.bl b)
  | .int i _ => some (.int i)
  | .str x _ => some (.str x)
  | .bytes b _ => some (.byt b)
  | .float b _ => some (.flt b)
  | .ref a => some (.ref a)
  | .type n => some (.ty n)
  | _ => none
theorem RelV.abs {x : V} {u : Value} (r : RelV x u) : absV u = some x := by
  cases x with
  | non => cases r; rfl
  | bl _ => cases r; rfl
  | int _ => obtain ⟨t, rfl⟩ := r; rfl
  | str _ => obtain ⟨t, rfl⟩ := r; rfl
  | byt _ => obtain ⟨t, rfl⟩ := r; rfl
  | flt _ => obtain ⟨t, rfl⟩ := r; rfl
  | ref _ => cases r; rfl
  | ty _ => cases r; rfl
theorem RelV.inj {x y : V} {u : Value} (r : RelV x u) (q : RelV y u) : x = y := Option.some.inj (r.abs.symm.trans q.abs)
theorem Vals.inj : ∀ {xs ys : List V} {us : List Value}, Vals xs us → Vals ys us → xs = ys
  | _, _, _, .nil, .nil => rfl
  | _, _, _, .cons r t, .cons r' t' => by rw [r.inj r', Vals.inj t t']
section
variable {X : Cx} {pins : List (Addr × Obj)} {σ : St} {H : Hp} {s : Shared} {a : Addr} {xs ys : List V}
theorem SqL.of {K : PySem.W.Frag} (h : H a = some (.lst xs)) : SqL K H a xs := .inl (.inl h)
theorem SqT.of {K : PySem.W.Frag} (h : H a = some (.tup xs)) : SqT K H a xs := .inl (.inl h)
theorem Inv.list (I : Inv X pins σ H s) (h : SqL X.K H a xs) : ∃ its : List Value, Vals xs its ∧ PlainL s.heap a its.toArray ∧ xs.length ≤ sizeLine := by
  rcases h with h | ⟨o, its, n, hk, hc, hd, hs, hz, r⟩
  · obtain ⟨z, its, n, r, e⟩ := h.ok I.hok
    exact ⟨its, r, ⟨_, n, e, rfl, rfl, rfl⟩, z⟩
  · refine ⟨its.toList, r, ⟨o, n, I.kIn a o hk, hc, hd, by simpa using hs⟩, ?_⟩
    have e := r.length
    simp only [Array.length_toList] at e
    omega
theorem Inv.tuple (I : Inv X pins σ H s) (h : SqT X.K H a xs) : ∃ its : List Value, Vals xs its ∧ IsTup s.heap a its.toArray ∧ xs.length ≤ sizeLine := by
  rcases h with h | ⟨o, its, n, hk, hc, hs, hz, r⟩
  · obtain ⟨z, its, r, p⟩ := h.ok I.hok
    exact ⟨its, r, p, z⟩
  · refine ⟨its.toList, r, ⟨o, I.kIn a o hk, hc, n, by simpa using hs⟩, ?_⟩
    have e := r.length
    simp only [Array.length_toList] at e
    omega
theorem Inv.list_inj (I : Inv X pins σ H s) (h : SqL X.K H a xs) (h' : SqL X.K H a ys) : xs = ys := by
  obtain ⟨its, r, ⟨o, n, e, _, _, d⟩, _⟩ := I.list h
  obtain ⟨its', r', ⟨o', n', e', _, _, d'⟩, _⟩ := I.list h'
  rw [e] at e'; cases e'
  rw [d] at d'
  injection d' with d1 _
  have : its = its' := by simpa using congrArg Array.toList d1
  subst this
  exact r.inj r'
theorem Inv.tuple_inj (I : Inv X pins σ H s) (h : SqT X.K H a xs) (h' : SqT X.K H a ys) : xs = ys := by
  obtain ⟨its, r, ⟨o, e, _, n, d⟩, _⟩ := I.tuple h
  obtain ⟨its', r', ⟨o', e', _, n', d'⟩, _⟩ := I.tuple h'
  rw [e] at e'; cases e'
  rw [d] at d'
  injection d' with d1 _
  have : its = its' := by simpa using congrArg Array.toList d1
  subst this
  exact r.inj r'
end
abbrev Cx.wish (X : Cx) (E : Value → Shared → Prop) : Cx := { X with xe := E }
/-- no exception leaves -/
abbrev Cx.nox (X : Cx) : Cx := X.wish fun _ _ => False
theorem Cx.Ok.wish {X : Cx} (ok : X.Ok) (E : Value → Shared → Prop) : (X.wish E).Ok :=
  ⟨ok.mod, ok.kind, ok.glob, ok.blt, ok.above, ok.inj, ok.has, ok.cab, ok.hd, ok.frames, ok.stk, ok.exf, ok.bs, ok.bsz, ok.noex, ok.exfs, ok.funs, ok.frf⟩
theorem Cx.Ok.unwish {X : Cx} {E : Value → Shared → Prop} (ok : (X.wish E).Ok) : X.Ok :=
  ⟨ok.mod, ok.kind, ok.glob, ok.blt, ok.above, ok.inj, ok.has, ok.cab, ok.hd, ok.frames, ok.stk, ok.exf, ok.bs, ok.bsz, ok.noex, ok.exfs, ok.funs, ok.frf⟩
section
variable {X : Cx} {pins : List (Addr × Obj)} {σ : St} {H : Hp} {s : Shared} {E : Value → Shared → Prop}
theorem Inv.wish (I : Inv X pins σ H s) (E : Value → Shared → Prop) : Inv (X.wish E) pins σ H s := ⟨I.ok.wish E, I.os, I.bare, I.base, I.loc, I.cell, I.free, I.freeC, I.pin, I.hok, I.len⟩
theorem Inv.unwish (I : Inv (X.wish E) pins σ H s) : Inv X pins σ H s := ⟨I.ok.unwish, I.os, I.bare, I.base, I.loc, I.cell, I.free, I.freeC, I.pin, I.hok, I.len⟩
theorem SP.unwish {D : Ends} {f : Flow} {s' : Shared} (h : SP (X.wish E) pins D f s') : SP X pins D f s' := by
  cases f with
  | next => obtain ⟨σ', H', I, q⟩ := h; exact ⟨σ', H', I.unwish, q⟩
  | brk => obtain ⟨σ', H', I, q⟩ := h; exact ⟨σ', H', I.unwish, q⟩
  | cont => obtain ⟨σ', H', I, q⟩ := h; exact ⟨σ', H', I.unwish, q⟩
  | ret u => obtain ⟨v, σ', H', I, r, q⟩ := h; exact ⟨v, σ', H', I.unwish, r, q⟩
theorem PE.nox {e : Expr} {t : TE} (h : PE X.nox e t) : PE X e t := fun pins s σ H Q I hw =>
  wpAny_mono (h pins s σ H Q (I.wish _) hw) (fun _ _ ⟨v, H', I', r, q⟩ => ⟨v, H', I'.unwish, r, q⟩) fun _ _ z => False.elim z
theorem PT.nox {e : Expr} {t : TT} (h : PT X.nox e t) : PT X e t := fun pins s σ H Q I hw =>
  wpAny_mono (h pins s σ H Q (I.wish _) hw) (fun _ _ ⟨H', I', q⟩ => ⟨H', I'.unwish, q⟩) fun _ _ z => False.elim z
theorem PSs.nox {st : List Stmt} {t : TS} (h : PSs X.nox st t) : PSs X st t := fun pins s σ H D I hw =>
  wpAny_mono (h pins s σ H D (I.wish _) hw) (fun _ _ q => q.unwish) fun _ _ z => False.elim z
end
section
variable {X : Cx} {st : Stmt} {rest : List Stmt} {t u : TS} {e : Expr} {te : TE} {pos : Pos}
def tNext : TS := fun D σ H => D.nx σ H
def tSeq (t u : TS) : TS := fun D σ H => t { D with nx := u D } σ H
theorem pss_nil : PSs X [] tNext := fun _ _ σ H _ I h => wpAny_execs_nil ⟨σ, H, I, h⟩
theorem pss_cons (h1 : PS X st t) (h2 : PSs X rest u) : PSs X (st :: rest) (tSeq t u) := by
  intro pins s σ H D I h
  refine wpAny_execs_cons (thn (h1 pins s σ H { D with nx := u D } I h) fun f s1 q => ?_)
  cases f with
  | next =>
    obtain ⟨σ', H', I', q⟩ := q
    exact h2 pins s1 σ' H' D I' q
  | ret v => exact q
  | brk => exact q
  | cont => exact q
theorem pss_one (h1 : PS X st t) : PSs X [st] t := by
  intro pins s σ H D I h
  refine wpAny_execs_cons (thn (h1 pins s σ H D I h) fun f s1 q => ?_)
  cases f with
  | next => exact wpAny_execs_nil q
  | ret v => exact q
  | brk => exact q
  | cont => exact q
/-- in a def's body nothing is shown -/
theorem Inv.quiet {pins : List (Addr × Obj)} {σ : St} {H : Hp} {s : Shared} (I : Inv X pins σ H s) : interactive X.env = false := by simp [interactive, I.ok.kind]
/-- an expression whose value is dropped -/
def tDrop (te : TE) : TS := fun D σ H => te σ H fun _ H1 => D.nx σ H1
theorem ps_expr (he : PE X e te) (hs : swapsWith e none pos.line X.env = pure false := by rfl) : PS X (.Expr e pos) (tDrop te) := by
  intro pins s σ H D I h
  exact wpAny_Expr_any (thn (he pins s σ H _ I h) fun v s1 ⟨x, H1, I1, r1, q1⟩ => ⟨σ, H1, I1, q1⟩) I.quiet hs
def tRet (te : TE) : TS := fun D σ H => te σ H D.rt
theorem ps_ret (he : PE X e te) : PS X (.Return (some e) pos) (tRet te) := by
  intro pins s σ H D I h
  exact wpAny_Return_some (thn (he pins s σ H _ I h) fun v s1 ⟨x, H1, I1, r1, q1⟩ => ⟨x, σ, H1, I1, r1, q1⟩)
def tRetN : TS := fun D _ H => D.rt .non H
theorem ps_retN : PS X (.Return none pos) tRetN := fun _ _ σ H _ I h => wpAny_Return_none ⟨.non, σ, H, I, rfl, h⟩
def tIfS (c : TT) (t u : TS) : TS := fun D σ H => c σ H fun b H1 => if b = true then t D σ H1 else u D σ H1
theorem ps_if {c : Expr} {a b : List Stmt} {tc : TT} (hc : PT X c tc) (ha : PSs X a t) (hb : PSs X b u) : PS X (.If c a b pos) (tIfS tc t u) := by
  intro pins s σ H D I h
  refine wpAny_If (thn (hc pins s σ H _ I h) fun d s1 ⟨H1, I1, q1⟩ => ?_)
  cases d with
  | true => exact ha pins s1 σ H1 D I1 q1
  | false => exact hb pins s1 σ H1 D I1 q1
end
abbrev TG := V → St → Hp → (St → Hp → Prop) → Prop
abbrev TGs := List V → St → Hp → (St → Hp → Prop) → Prop
def PG (X : Cx) (target : Expr) (t : TG) : Prop :=
  ∀ (pins : List (Addr × Obj)) (s : Shared) (σ : St) (H : Hp) (v : V) (u : Value) (Q : St → Hp → Prop), Inv X pins σ H s → RelV v u → t v σ H Q →
    wpAny (model X.prog X.w) X.A (assign target X.env u) (fun _ s' => ∃ σ' H', Inv X pins σ' H' s' ∧ Q σ' H') X.xe s
/-- several targets, one after another -/
def PGs (X : Cx) (ts : List Expr) (t : TGs) : Prop :=
  ∀ (pins : List (Addr × Obj)) (s : Shared) (σ : St) (H : Hp) (vs : List V) (us : List Value) (Q : St → Hp → Prop), Inv X pins σ H s → Vals vs us → t vs σ H Q →
    wpAny (model X.prog X.w) X.A (assignInOrder ((assignEach ts X.env).map (·.2)) us) (fun _ s' => ∃ σ' H', Inv X pins σ' H' s' ∧ Q σ' H') X.xe s
/-- o[i] = v, by values -/
abbrev TSet := V → V → V → Hp → (Hp → Prop) → Prop
def PSet (X : Cx) (t : TSet) : Prop :=
  ∀ (pins : List (Addr × Obj)) (s : Shared) (σ : St) (H : Hp) (o i v : V) (ov iv u : Value) (Q : Hp → Prop), Inv X pins σ H s → RelV o ov → RelV i iv → RelV v u → t o i v H Q →
    wpAny (model X.prog X.w) X.A (setItem ov iv u) (fun _ s' => ∃ H', Inv X pins σ H' s' ∧ Q H') X.xe s
/-- a op= b, by values -/
abbrev TIp := V → V → Hp → VK → Prop
def PIp (X : Cx) (op : Operator) (t : TIp) : Prop :=
  ∀ (pins : List (Addr × Obj)) (s : Shared) (σ : St) (H : Hp) (x y : V) (v u : Value) (Q : VK), Inv X pins σ H s → RelV x v → RelV y u → t x y H Q →
    wpAny (model X.prog X.w) X.A (inplaceOp op v u) (EP X pins σ Q) X.xe s
section
variable {X : Cx} {pos : Pos}
def gName (i : Nat) : TG := fun v σ H Q => Q (σ.set i (some v)) H
theorem pg_name {i : Nat} {x : Str} (hN : X.N.Nodup) (hi : X.N[i]? = some x) (hx : Loc X.env.scope x) (hf : X.fn x = true ∨ X.env.scope.names.lookup x = some .local := by first | exact .inl rfl | exact .inr rfl | assumption) : PG X (.Name x pos) (gName i) := by
  intro pins s σ H v u Q I r h
  exact wpAny_assign_Name (store_ok I hN hi hx r (fun s' I' => ⟨_, H, I', h⟩) hf)
def gNil : TGs := fun vs σ H Q => vs = [] ∧ Q σ H
def gCons (t : TG) (u : TGs) : TGs := fun vs σ H Q => ∃ v r, vs = v :: r ∧ t v σ H fun σ' H' => u r σ' H' Q
theorem pgs_nil : PGs X [] gNil := by
  intro pins s σ H vs us Q I r h
  obtain ⟨e, h⟩ := h
  subst e
  cases r
  exact assignInOrder_nil ⟨σ, H, I, h⟩
theorem pgs_cons {e : Expr} {es : List Expr} {t : TG} {u : TGs} (h1 : PG X e t) (h2 : PGs X es u)
    (hs : (assignEach (e :: es) X.env).map (·.2) = assign e X.env :: (assignEach es X.env).map (·.2) := by rfl) : PGs X (e :: es) (gCons t u) := by
  intro pins s σ H vs us Q I r h
  obtain ⟨v, vr, e1, h⟩ := h
  subst e1
  cases r with
  | cons r rr =>
    rw [hs]
    refine assignInOrder_cons (thn (h1 pins s σ H _ _ _ I r h) fun _ s1 ⟨σ1, H1, I1, q1⟩ => ?_)
    exact h2 pins s1 σ1 H1 _ _ Q I1 rr q1
/-- (a, b, ..) = a tuple of that length -/
def gTup (K : PySem.W.Frag) (n : Nat) (t : TGs) : TG := fun v σ H Q => ∃ a xs, v = .ref a ∧ SqT K H a xs ∧ xs.length = n ∧ t xs σ H Q
theorem pg_tup {es : List Expr} {k : Nat} {t : TGs} {n : Nat} (hc : X.calm = true) (h : PGs X es t)
    (hn : (assignEach es X.env).length = n := by rfl) (hst : (assignEach es X.env).findIdx? (·.1) = none := by rfl) : PG X (.Tuple es k pos) (gTup X.K n t) := by
  intro pins s σ H v u Q I r hw
  obtain ⟨a, xs, e1, hq, hl, hw⟩ := hw
  subst e1
  cases r
  obtain ⟨its, rv, ht, hz⟩ := I.tuple hq
  refine assign_Tuple_tuple (I.ok.hd hc) ht (by simp [hn, ← hl, rv.length]) hst fun h' hx => ?_
  have I1 : Inv X pins σ H { s with heap := h' } := I.kept (t' := s.toks) fun b o e => hx b o (Nat.ne_of_lt (Heap.lt_size e)) e
  exact h pins _ σ H xs _ Q I1 (by simpa using rv) hw
/-- o[i] = .. -/
def gSub (to ti : TE) (t : TSet) : TG := fun v σ H Q => to σ H fun o H1 => ti σ H1 fun i H2 => t o i v H2 fun H3 => Q σ H3
theorem pg_sub {o i : Expr} {to ti : TE} {t : TSet} (ho : PE X o to) (hi : PE X i ti) (hs : PSet X t)
    (ha : ∀ v, assign (.Subscript o i pos) X.env v = (do
      let ov ← holding [v] (eval o X.env)
      let iv ← holding [v, ov] (eval i X.env)
      standAt pos
      holding [v, ov, iv] (setItem ov iv v)
      release [v, ov, iv] []) := by intro _; rfl) : PG X (.Subscript o i pos) (gSub to ti t) := by
  intro pins s σ H v u Q I r h
  rw [ha]
  refine wpAny_bind (wpAny_holding (thn (ho pins s σ H _ I h) fun ov s1 ⟨x, H1, I1, r1, q1⟩ => ?_))
  refine wpAny_bind (wpAny_holding (thn (hi pins s1 σ H1 _ I1 q1) fun iv s2 ⟨y, H2, I2, r2, q2⟩ => ?_))
  refine wpAny_bind (wpAny_standAt (wpAny_bind (wpAny_holding (thn (hs pins s2 σ H2 x y v ov iv u _ I2 r1 r2 r q2) fun _ s3 ⟨H3, I3, q3⟩ => ?_))))
  exact wpAny_release ⟨σ, H3, I3, q3⟩
/-- target = value -/
def tAsg (te : TE) (g : TG) : TS := fun D σ H => te σ H fun x H1 => g x σ H1 D.nx
theorem ps_asg {tg e : Expr} {te : TE} {g : TG} (he : PE X e te) (hg : PG X tg g) (hs : swapsWithSole [tg] e pos.line X.env = pure false := by rfl) (hw : swappedStores [tg] e X.env = pure none := by rfl)
    (h1 : (assignEach [tg] X.env).map (·.2) = [assign tg X.env] := by rfl) : PS X (.Assign [tg] e pos) (tAsg te g) := by
  intro pins s σ H D I h
  refine wpAny_Assign_stores (thn (he pins s σ H _ I h) fun v s1 ⟨x, H1, I1, r1, q1⟩ => ?_) hs hw
  rw [h1]
  exact thn (hg pins s1 σ H1 x v _ I1 r1 q1) fun _ s2 q => q
/-- name = value -/
theorem ps_set {i : Nat} {x : Str} {e : Expr} {te : TE} {pos' : Pos} (hN : X.N.Nodup) (hi : X.N[i]? = some x) (hx : Loc X.env.scope x) (he : PE X e te) (hs : swapsWith e (some (.Name x pos')) pos.line X.env = pure false := by rfl) (hf : X.fn x = true ∨ X.env.scope.names.lookup x = some .local := by first | exact .inl rfl | exact .inr rfl | assumption) :
    PS X (.Assign [.Name x pos'] e pos) (tAsg te (gName i)) := by
  intro pins s σ H D I h
  refine wpAny_Assign_Name (thn (he pins s σ H _ I h) fun v s1 ⟨y, H1, I1, r1, q1⟩ => ?_) hs
  exact store_ok I1 hN hi hx r1 (fun s2 I2 => ⟨_, H1, I2, q1⟩) hf
/-- a, b = x, y with plain local names: stored from the right; the pair itself is not tracked (the opening rows as in PyProof/Rows/TupAssign.lean:23) -/
def tPar (i j : Nat) (ta : TA) : TS := fun D σ H => ta σ H fun vs H1 => ∃ v w, vs = [v, w] ∧ D.nx ((σ.set i (some v)).set j (some w)) H1
theorem ps_par {i j : Nat} {x y : Str} {a b : Expr} {ta : TA} {px py pt : Pos} {kt k2 pt2} (hc : X.calm = true) (hN : X.N.Nodup) (hi : X.N[i]? = some x) (hj : X.N[j]? = some y) (hij : i ≠ j)
    (hx : X.env.scope.names.lookup x = some .local) (hy : X.env.scope.names.lookup y = some .local) (ha : PA X [a, b] ta)
    (hw : swappedStores [.Tuple [.Name x px, .Name y py] kt pt] (.Tuple [a, b] k2 pt2) X.env = pure (some [x, y]))
    (hs : swapsWithSole [.Tuple [.Name x px, .Name y py] kt pt] (.Tuple [a, b] k2 pt2) pos.line X.env = pure false := by rfl) :
    PS X (.Assign [.Tuple [.Name x px, .Name y py] kt pt] (.Tuple [a, b] k2 pt2) pos) (tPar i j ta) := by
  intro pins s σ H D I h
  rw [exec_Assign_arm]
  refine wpAny_bind (wpAny_standAt ?_)
  rw [hs]
  refine wpAny_bind (wpAny_pure ?_)
  rw [if_neg (by decide)]
  refine wpAny_bind (Tuple_ (thn (ha _ pins s σ H _ I h) fun us s1 ⟨vs, H1, I1, r1, q1⟩ => ?_))
  obtain ⟨v, w, e1, q1⟩ := q1
  subst e1
  obtain ⟨u1, u2, rfl, rv, rw'⟩ : ∃ u1 u2, us = [u1, u2] ∧ RelV v u1 ∧ RelV w u2 := by
    cases r1 with
    | cons p q =>
      cases q with
      | cons p' q' =>
        cases q'
        exact ⟨_, _, rfl, p, p'⟩
  refine wpAny_newObj_type ?_ (by show 2 ≤ sizeLine; decide)
  have I2 : Inv X pins σ H1 { s1 with heap := s1.heap.push { cls := .type "tuple", data := .seq [u1, u2].toArray } } := I1.kept (t' := s1.toks) fun b o e => Heap.get?_push_of_some _ e
  rw [hw]
  refine wpAny_bind (wpAny_pure ?_)
  show wpAny (model X.prog X.w) X.A (do rule "assign.swapped-stores"; let items ← unpackItems (.ref s1.heap.objs.size) 2 none; assignInOrder [fun v => bindName X.env y v, fun v => bindName X.env x v] items.reverse; pure Flow.next) _ _ _
  refine wpAny_bind (wpAny_rule (wpAny_bind (unpackItems_tuple (items := #[u1, u2]) (I.ok.hd hc) (IsTup.new s1.heap _) fun h' hx' => ?_)))
  have I3 := I2.kept (h' := h') (t' := s1.toks) fun b o e => hx' b o (Nat.ne_of_lt (Heap.lt_size e)) e
  show wpAny _ _ (assignInOrder [fun v => bindName X.env y v, fun v => bindName X.env x v] [u2, u1] >>= fun _ => pure Flow.next) _ _ _
  refine wpAny_bind (assignInOrder_cons (wpAny_bindName (store_ok I3 hN hj (.inl hy) rw' (fun s2 I4 => ?_) (.inr hy))))
  refine assignInOrder_cons (wpAny_bindName (store_ok I4 hN hi (.inl hx) rv (fun s3 I5 => assignInOrder_nil (wpAny_pure ?_)) (.inr hx)))
  rw [List.set_comm _ _ (Ne.symm hij)] at I5
  exact ⟨_, H1, I5, q1⟩
/-- name op= e -/
def tAug (i : Nat) (te : TE) (ti : TIp) : TS := fun D σ H => ∃ x, σ[i]? = some (some x) ∧ te σ H fun y H1 => ti x y H1 fun z H2 => D.nx (σ.set i (some z)) H2
theorem ps_aug {i : Nat} {x : Str} {e : Expr} {te : TE} {op : Operator} {ti : TIp} {pos' : Pos} (hN : X.N.Nodup) (hi : X.N[i]? = some x) (hx : Loc X.env.scope x) (he : PE X e te) (ho : PIp X op ti) (hf : X.fn x = true ∨ X.env.scope.names.lookup x = some .local := by first | exact .inl rfl | exact .inr rfl | assumption) :
    PS X (.AugAssign (.Name x pos') op e pos) (tAug i te ti) := by
  intro pins s σ H D I h
  obtain ⟨v, e1, h⟩ := h
  obtain ⟨m, hn, hl⟩ := I.loc
  have vis : Vis X.env.scope x := by rcases hx with k | k; exact .inl k; exact .inr (.inl k)
  obtain ⟨u, r, l⟩ := hl i x v hi e1 vis
  refine wpAny_AugAssign_Name ?_
  have go : wpAny (model X.prog X.w) X.A (eval e X.env) (fun w s₂ => wpAny (model X.prog X.w) X.A (inplaceOp op u w) (fun r s₃ => wpAny (model X.prog X.w) X.A (storeName X.env x r) (fun _ => SP X pins D .next) X.xe s₃) X.xe s₂) X.xe s := by
    refine thn (he pins s σ H _ I h) fun w s1 ⟨y, H1, I1, r1, q1⟩ => ?_
    refine thn (ho pins s1 σ H1 v y u w _ I1 r r1 q1) fun z s2 ⟨zv, H2, I2, r2, q2⟩ => ?_
    exact store_ok I2 hN hi hx r2 (fun s3 I3 => ⟨_, H2, I3, q2⟩) hf
  rcases l with ⟨hk, hm⟩ | ⟨hk, c, hc, hcell⟩
  · exact wpAny_loadName_local I.ok.kind hk hn hm go
  · rcases hk with hk | hk
    · exact wpAny_loadName_cell I.ok.kind hk hc hcell go
    · rcases hx with k | k
      · have : X.env.scope.names.lookup x = some .free := hk
        rw [k] at this; cases this
      · have : X.env.scope.names.lookup x = some .free := hk
        rw [k] at this; cases this
/-- ints -/
def ipI (f : Int → Int → Int) : TIp := fun x y H Q => ∃ i j, x = .int i ∧ y = .int j ∧ Q (.int (f i j)) H
theorem ip_add : PIp X .Add (ipI fun i j => i + j) := by
  intro pins s σ H x y v u Q I r1 r2 h
  obtain ⟨i, j, e1, e2, q⟩ := h
  subst e1; subst e2
  obtain ⟨t, rfl⟩ := r1
  obtain ⟨t', rfl⟩ := r2
  exact iadd_int ⟨.int _, H, I.tok _, ⟨_, rfl⟩, q⟩
end
section
variable {X : Cx} {pos : Pos}
/-- the invariant W with its measure -/
def tWhile (c : TT) (tb : TS) : TS := fun D σ H => ∃ W : Nat → St → Hp → Prop, (∃ m, W m σ H) ∧ ∀ m σ H, W m σ H →
  c σ H fun b H1 => if b = true then ∃ N : St → Hp → Prop, (∀ σ' H', N σ' H' → ∃ m', m' < m ∧ W m' σ' H') ∧ tb { D with nx := N, ct := N, bk := D.nx } σ H1 else D.nx σ H1
theorem ps_while {c : Expr} {body : List Stmt} {tc : TT} {tb : TS} (hp : PassesOwn (model X.prog X.w) X.A X.env X.xe) (hc : PT X c tc) (hb : PSs X body tb) : PS X (.While c body [] pos) (tWhile tc tb) := by
  intro pins s σ H D I h
  obtain ⟨W, ⟨m0, w0⟩, turn⟩ := h
  refine wpAny_While (codeAny_whileLoop (fun n s' => ∃ σ' H', Inv X pins σ' H' s' ∧ W n σ' H') ?_ m0 ⟨σ, H, I, w0⟩)
  rintro n s1 ⟨σ1, H1, I1, w1⟩
  refine wpAny_passesOwn hp (thn (hc pins s1 σ1 H1 _ I1 (turn n σ1 H1 w1)) fun b s2 ⟨H2, I2, q2⟩ => ?_)
  cases b with
  | true =>
    obtain ⟨N, hN, q2⟩ := q2
    rw [if_pos rfl]
    refine wpAny_passesOwn hp (thn (hb pins s2 σ1 H2 _ I2 q2) fun f s3 q3 => ?_)
    cases f with
    | next =>
      obtain ⟨σ3, H3, I3, n3⟩ := q3
      obtain ⟨m', hm, w3⟩ := hN σ3 H3 n3
      exact ⟨m', hm, σ3, H3, I3, w3⟩
    | cont =>
      obtain ⟨σ3, H3, I3, n3⟩ := q3
      obtain ⟨m', hm, w3⟩ := hN σ3 H3 n3
      exact ⟨m', hm, σ3, H3, I3, w3⟩
    | brk => exact q3
    | ret v => exact q3
  | false =>
    rw [if_neg Bool.false_ne_true]
    exact wpAny_execs_nil ⟨σ1, H2, I2, q2⟩
end
/-- at turn i: it yields x (the heap may grow), or it stops -/
structure It where
  go : Nat → Hp → Prop
  yld : Nat → Hp → V → Hp → Prop
  stop : Nat → Hp → Prop
/-- the iterator's own objects may turn: they are not the frame's, not pinned, younger than the entry (or a comprehension's own) -/
def FpOk (X : Cx) (pins : List (Addr × Obj)) (H : Hp) (b : Addr) : Prop :=
  H b = none ∧ b ≠ X.env.locals ∧ b ∉ X.fs ∧ (b ∈ X.ex ∨ X.s_0.heap.objs.size ≤ b) ∧ (∀ x c, X.env.cells.lookup x = some c → c ≠ b) ∧ ∀ p ∈ X.pn ++ pins, p.1 ≠ b
theorem Inv.fpOk {X : Cx} {pins : List (Addr × Obj)} {σ : St} {H H' : Hp} {s : Shared} {b : Addr} (I : Inv X pins σ H s) (hb : s.heap.objs.size ≤ b) (hn : H' b = none) : FpOk X pins H' b := by
  refine ⟨hn, Nat.ne_of_gt (Nat.lt_of_lt_of_le I.lt hb), I.nofs hb, .inr (Nat.le_trans I.sz hb), fun x c e z => ?_, fun p hp z => ?_⟩
  · obtain ⟨v, q⟩ := I.cell x c e
    exact absurd (Nat.lt_of_lt_of_le q.lt (by rw [z]; exact hb)) (Nat.lt_irrefl _)
  · exact absurd (Nat.lt_of_lt_of_le (Heap.lt_size (I.pin p hp).1) (by rw [z]; exact hb)) (Nat.lt_irrefl _)
structure Turn (P : Program) (w : World) (K : PySem.W.Frag) (tg : Expr) (J : It) (fp : List Addr) (it : Addr) (tn : Nat → Heap → Prop) : Prop where
  mem : it ∈ fp
  obj : ∀ i h, tn i h → ∀ b ∈ fp, ∃ o, h.get? b = some o ∧ ∀ v, o.data ≠ .cell v
  keep : ∀ i h h', tn i h → (∀ b ∈ fp, ∀ o, h.get? b = some o → h'.get? b = some o) → tn i h'
  item : ∀ (X : Cx), X.prog = P → X.w = w → X.K = K → X.calm = true → ∀ (i : Nat) (pins : List (Addr × Obj)) (s : Shared) (σ : St) (H : Hp) (E : Value → Shared → Prop), Inv X pins σ H s → (∀ b ∈ fp, FpOk X pins H b) → tn i s.heap → J.go i H →
    wpAny (model P w) X.A (pyNext (.ref it)) (fun r s1 => ∃ u, r = some u ∧
      wpAny (model P w) X.A (letOwnedTupleGo tg (.ref it) u) (fun _ s2 => ∃ x H', Inv X pins σ H' s2 ∧ RelV x u ∧ J.yld i H x H' ∧ tn (i + 1) s2.heap ∧ ∀ b ∈ fp, H' b = none) E s1) E s
  done : ∀ (X : Cx), X.prog = P → X.w = w → X.K = K → X.calm = true → ∀ (i : Nat) (pins : List (Addr × Obj)) (s : Shared) (σ : St) (H : Hp) (E : Value → Shared → Prop), Inv X pins σ H s → (∀ b ∈ fp, FpOk X pins H b) → tn i s.heap → J.stop i H →
    wpAny (model P w) X.A (pyNext (.ref it)) (fun r s1 => r = none ∧ Inv X pins σ H s1) E s
  self : ∀ (A : Around) (i : Nat) (s : Shared) (Q : Value → Shared → Prop) (E : Value → Shared → Prop), tn i s.heap → Q (.ref it) s → wpAny (model P w) A (pyIter (.ref it)) Q E s
abbrev TI := St → Hp → (It → Hp → Prop) → Prop
/-- an iterator has come -/
def PIE (X : Cx) (pins : List (Addr × Obj)) (σ : St) (tg : Expr) (R : It → Hp → Prop) (itv : Value) (s2 : Shared) : Prop :=
  ∃ (it : Addr) (fp : List Addr) (tn : Nat → Heap → Prop) (J : It) (H' : Hp), itv = .ref it ∧ Inv X pins σ H' s2 ∧ Turn X.prog X.w X.K tg J fp it tn ∧ tn 0 s2.heap ∧ (∀ b ∈ fp, FpOk X pins H' b) ∧ R J H'
def PI (X : Cx) (tg iter : Expr) (wi : TI) : Prop :=
  ∀ (pins : List (Addr × Obj)) (s : Shared) (σ : St) (H : Hp) (R : It → Hp → Prop), Inv X pins σ H s → wi σ H R →
    wpAny (model X.prog X.w) X.A (eval iter X.env) (fun v s1 => wpAny (model X.prog X.w) X.A (pyIter v) (PIE X pins σ tg R) X.xe s1) X.xe s
/-- the step ahead of the store is nothing for an iterator that keeps no tuple -/
theorem go_of {M : Model} {A : Around} {E : Value → Shared → Prop} {s : Shared} {tg : Expr} {it : Addr} {u : Value} {o : Obj} {n : String} {vs : Array Value} {Q : Unit → Shared → Prop} (ho : s.heap.get? it = some o) (hc : o.cls = .type n) (hd : o.data = .fields vs)
    (hn : ["enumerate", "zip", "dict_itemiterator", "dict_reverseitemiterator", "odict_iterator", "itertools.zip_longest", "itertools.pairwise"].contains n = false) (hQ : Q () s) : wpAny M A (letOwnedTupleGo tg (.ref it) u) Q E s := by
  unfold letOwnedTupleGo
  cases tg <;> first
    | exact wpAny_pure hQ
    | (cases u <;> first
        | exact wpAny_pure hQ
        | (refine wpAny_bind (wpAny_load ho ?_)
           rw [hc, hd]
           show wpAny M A (if (["enumerate", "zip", "dict_itemiterator", "dict_reverseitemiterator", "odict_iterator", "itertools.zip_longest", "itertools.pairwise"].contains n && vs[0]? == some (rawInt _)) = true then _ else _) Q E s
           rw [if_neg (by intro h; rw [hn, Bool.false_and] at h; cases h)]
           exact wpAny_pure hQ))
/-- the list at a, as it stands at each turn (a loop may append to it) -/
def Itl (K : PySem.W.Frag) (a : Addr) : It :=
  ⟨fun i H => ∃ xs x, SqL K H a xs ∧ xs[i]? = some x, fun i H x H' => H' = H ∧ ∀ xs, SqL K H a xs → xs[i]? = some x, fun i H => ∃ xs, SqL K H a xs ∧ xs.length ≤ i⟩
def Itt (K : PySem.W.Frag) (a : Addr) : It :=
  ⟨fun i H => ∃ xs x, SqT K H a xs ∧ xs[i]? = some x, fun i H x H' => H' = H ∧ ∀ xs, SqT K H a xs → xs[i]? = some x, fun i H => ∃ xs, SqT K H a xs ∧ xs.length ≤ i⟩
/-- lo, lo + 1, .. (n of them) -/
def Itr (lo : Int) (n : Nat) : It := ⟨fun i _ => i < n, fun i H x H' => H' = H ∧ x = .int (lo + i), fun i _ => n ≤ i⟩
theorem turn_list {P : Program} {w : World} {K : PySem.W.Frag} {tg : Expr} (a it : Addr) : Turn P w K tg (Itl K a) [it] it (fun i h => h.IsListIter it a i) where
  mem := by simp
  obj := fun i h st b hb => by
    have e : b = it := by simpa using hb
    subst e
    obtain ⟨o, e, c, d⟩ := st
    exact ⟨o, e, fun v z => by rw [d] at z; cases z⟩
  keep := fun i h h' st k => st.at fun o e => k it (by simp) o e
  item := by
    intro X hP hw hK hc i pins s σ H E I hf st hg
    subst hP hw hK
    obtain ⟨xs, x, hq, hx⟩ := hg
    obtain ⟨its, rv, p, hz⟩ := I.list hq
    obtain ⟨u, hu, ru⟩ := rv.get hx
    obtain ⟨f0, f1, f2, f3, f4, f5⟩ := hf it (by simp)
    refine wpAny_pyNext_list_item st p.isList (x := u) (by simpa using hu) fun h' st' sb => ?_
    have I1 : Inv X pins σ H { s with heap := h' } := I.turned (t' := s.toks) (fun b o hb e => (sb.2 b hb).trans e) f0 f1 f3 f4 f5
    obtain ⟨o, e, c, d⟩ := id st'
    exact ⟨u, rfl, go_of (s := { s with heap := h' }) e c d (by decide) ⟨x, H, I1, ru, ⟨rfl, fun ys hy => by rw [I.list_inj hy hq]; exact hx⟩, st', fun b hb => (hf b hb).1⟩⟩
  done := by
    intro X hP hw hK hc i pins s σ H E I hf st hg
    subst hP hw hK
    obtain ⟨xs, hq, hx⟩ := hg
    obtain ⟨its, rv, p, hz⟩ := I.list hq
    obtain ⟨f0, f1, f2, f3, f4, f5⟩ := hf it (by simp)
    have hl := rv.length
    exact wpAny_pyNext_list_end (I.ok.hd hc) st p.isList (by simp; omega) fun h' eb => ⟨rfl, I.turned (t' := s.toks) (fun b o hb e => eb b o hb e) f0 f1 f3 f4 f5⟩
  self := fun _ _ _ _ _ st h => wpAny_pyIter_listiter st h
theorem turn_tuple {P : Program} {w : World} {K : PySem.W.Frag} {tg : Expr} (a it : Addr) : Turn P w K tg (Itt K a) [it] it (fun i h => h.IsTupleIter it a i) where
  mem := by simp
  obj := fun i h st b hb => by
    have e : b = it := by simpa using hb
    subst e
    obtain ⟨o, e, c, d⟩ := st
    exact ⟨o, e, fun v z => by rw [d] at z; cases z⟩
  keep := fun i h h' st k => st.at fun o e => k it (by simp) o e
  item := by
    intro X hP hw hK hc i pins s σ H E I hf st hg
    subst hP hw hK
    obtain ⟨xs, x, hq, hx⟩ := hg
    obtain ⟨its, rv, p, hz⟩ := I.tuple hq
    obtain ⟨u, hu, ru⟩ := rv.get hx
    obtain ⟨f0, f1, f2, f3, f4, f5⟩ := hf it (by simp)
    refine wpAny_pyNext_tuple_item st (show s.heap.IsTuple a its.toArray from p) (x := u) (by simpa using hu) fun h' st' sb => ?_
    have I1 : Inv X pins σ H { s with heap := h' } := I.turned (t' := s.toks) (fun b o hb e => (sb.2 b hb).trans e) f0 f1 f3 f4 f5
    obtain ⟨o, e, c, d⟩ := id st'
    exact ⟨u, rfl, go_of (s := { s with heap := h' }) e c d (by decide) ⟨x, H, I1, ru, ⟨rfl, fun ys hy => by rw [I.tuple_inj hy hq]; exact hx⟩, st', fun b hb => (hf b hb).1⟩⟩
  done := by
    intro X hP hw hK hc i pins s σ H E I hf st hg
    subst hP hw hK
    obtain ⟨xs, hq, hx⟩ := hg
    obtain ⟨its, rv, p, hz⟩ := I.tuple hq
    obtain ⟨f0, f1, f2, f3, f4, f5⟩ := hf it (by simp)
    have hl := rv.length
    exact wpAny_pyNext_tuple_end (I.ok.hd hc) st (show s.heap.IsTuple a its.toArray from p) (by simp; omega) fun h' eb => ⟨rfl, I.turned (t' := s.toks) (fun b o hb e => eb b o hb e) f0 f1 f3 f4 f5⟩
  self := fun _ _ _ _ _ st h => wpAny_pyIter_tupleiter st h
theorem turn_range {P : Program} {w : World} {K : PySem.W.Frag} {tg : Expr} (it : Addr) (lo : Int) (n : Nat) : Turn P w K tg (Itr lo n) [it] it (fun i h => IsRangeIter h it (lo + (i : Nat) * 1) ((n : Int) - (i : Nat)) 1) where
  mem := by simp
  obj := fun i h st b hb => by
    have e : b = it := by simpa using hb
    subst e
    exact ⟨_, st, fun v z => by
      have z' : Data.fields _ = Data.cell v := z
      cases z'⟩
  keep := fun i h h' st k => k it (by simp) _ st
  item := by
    intro X hP hw hK hc i pins s σ H E I hf st hg
    subst hP hw hK
    obtain ⟨f0, f1, f2, f3, f4, f5⟩ := hf it (by simp)
    have W := Walks.range (prog := X.prog) (w := X.w) (I.ok.hd hc) it lo 1 n
    refine W.item i s _ _ hg st fun v h' tk hv st' kk => ?_
    obtain ⟨t, rfl⟩ := hv
    have I1 : Inv X pins σ H { s with heap := h', toks := tk } := I.turned (fun b o hb e => kk b o (by simpa using hb) e) f0 f1 f3 f4 f5
    refine ⟨_, rfl, go_of (s := { s with heap := h', toks := tk }) (n := "range_iterator") st' rfl rfl (by decide) ⟨.int (lo + i), H, I1, ⟨t, ?_⟩, ⟨rfl, rfl⟩, st', fun b hb => (hf b hb).1⟩⟩
    rw [Int.mul_one]
  done := by
    intro X hP hw hK hc i pins s σ H E I hf st hg
    subst hP hw hK
    obtain ⟨f0, f1, f2, f3, f4, f5⟩ := hf it (by simp)
    exact wpAny_pyNext_range_end (I.ok.hd hc) st (by have : n ≤ i := hg; omega) fun h' eb => ⟨rfl, I.turned (t' := s.toks) (fun b o hb e => eb b o hb e) f0 f1 f3 f4 f5⟩
  self := fun _ _ _ _ _ st h => wpAny_pyIter_rangeiter st h
end L2
namespace L2
open PySem PySem.Spec PyProof.Rows
section
variable {X : Cx} {tg : Expr}
def iList (K : PySem.W.Frag) (tl : TE) : TI := fun σ H R => tl σ H fun x H1 => ∃ a, x = .ref a ∧ (∃ xs, SqL K H1 a xs) ∧ R (Itl K a) H1
def iTup (K : PySem.W.Frag) (tl : TE) : TI := fun σ H R => tl σ H fun x H1 => ∃ a, x = .ref a ∧ (∃ xs, SqT K H1 a xs) ∧ R (Itt K a) H1
theorem pi_list {l : Expr} {tl : TE} (hl : PE X l tl) : PI X tg l (iList X.K tl) := by
  intro pins s σ H R I h
  refine thn (hl pins s σ H _ I h) fun v s1 ⟨x, H1, I1, r1, q1⟩ => ?_
  obtain ⟨a, e, ⟨xs, hq⟩, q⟩ := q1
  subst e
  cases r1
  obtain ⟨its, rv, p, hz⟩ := I1.list hq
  refine wpAny_pyIter_list p.isList ?_
  refine ⟨s1.heap.objs.size, [s1.heap.objs.size], _, _, H1, rfl, I1.kept (t' := s1.toks) fun b o e => Heap.get?_push_of_some _ e, turn_list a _, ⟨_, Heap.get?_push_size _ rfl, rfl, rfl⟩, fun b hb => ?_, q⟩
  have e : b = s1.heap.objs.size := by simpa using hb
  subst e
  exact I1.fpOk (Nat.le_refl _) (I1.hok.fresh (Nat.le_refl _))
theorem pi_tup {l : Expr} {tl : TE} (hl : PE X l tl) : PI X tg l (iTup X.K tl) := by
  intro pins s σ H R I h
  refine thn (hl pins s σ H _ I h) fun v s1 ⟨x, H1, I1, r1, q1⟩ => ?_
  obtain ⟨a, e, ⟨xs, hq⟩, q⟩ := q1
  subst e
  cases r1
  obtain ⟨its, rv, p, hz⟩ := I1.tuple hq
  refine wpAny_pyIter_tuple (show s1.heap.IsTuple a its.toArray from p) ?_
  refine ⟨s1.heap.objs.size, [s1.heap.objs.size], _, _, H1, rfl, I1.kept (t' := s1.toks) fun b o e => Heap.get?_push_of_some _ e, turn_tuple a _, ⟨_, Heap.get?_push_size _ rfl, rfl, rfl⟩, fun b hb => ?_, q⟩
  have e : b = s1.heap.objs.size := by simpa using hb
  subst e
  exact I1.fpOk (Nat.le_refl _) (I1.hok.fresh (Nat.le_refl _))
/-- a range object just made, walked -/
theorem range_it {pins : List (Addr × Obj)} {σ : St} {H : Hp} {s : Shared} {R : It → Hp → Prop} {E : Value → Shared → Prop} {lo hi : Int} {t u v : Tok} {tk : Nat} (I : Inv X pins σ H s) (h1 : -(2 ^ 62) ≤ lo) (h2 : lo < 2 ^ 62) (h3 : -(2 ^ 62) ≤ hi) (h4 : hi < 2 ^ 62)
    (q : R (Itr lo (hi - lo).toNat) H) : wpAny (model X.prog X.w) X.A (pyIter (.ref s.heap.objs.size)) (PIE X pins σ tg R) E { s with heap := s.heap.push { cls := .type "range", data := .fields #[.int lo t, .int hi u, .int 1 v] }, toks := tk } := by
  refine wpAny_pyIter_range (IsRange.new ..) (small_one h1 h2 h3 h4) ?_
  have I1 : Inv X pins σ H { s with heap := s.heap.push { cls := .type "range", data := .fields #[.int lo t, .int hi u, .int 1 v] }, toks := tk } := I.kept fun b o e => Heap.get?_push_of_some _ e
  refine ⟨(s.heap.push { cls := .type "range", data := .fields #[.int lo t, .int hi u, .int 1 v] }).objs.size, [(s.heap.push { cls := .type "range", data := .fields #[.int lo t, .int hi u, .int 1 v] }).objs.size], _, _, H, rfl,
    I1.kept (t' := tk) fun b o e => Heap.get?_push_of_some _ e, turn_range _ lo (hi - lo).toNat, ?_, fun b hb => ?_, q⟩
  · have e1 : lo + ((0 : Nat) : Int) * 1 = lo := by simp
    have e2 : (((hi - lo).toNat : Nat) : Int) - ((0 : Nat) : Int) = Builtin.Range.rangeSize lo hi 1 := by rw [rangeSize_one]; split <;> omega
    show IsRangeIter _ _ (lo + ((0 : Nat) : Int) * 1) ((((hi - lo).toNat : Nat) : Int) - ((0 : Nat) : Int)) 1
    rw [e1, e2]
    exact Heap.get?_push_size _ rfl
  · have e : b = (s.heap.push { cls := .type "range", data := .fields #[.int lo t, .int hi u, .int 1 v] }).objs.size := by simpa using hb
    subst e
    exact I1.fpOk (Nat.le_refl _) (I1.hok.fresh (Nat.le_refl _))
def iRng1 (ta : TA) : TI := fun σ H R => ta σ H fun vs H1 => ∃ j : Int, vs = [.int j] ∧ -(2 ^ 62) ≤ j ∧ j < 2 ^ 62 ∧ R (Itr 0 j.toNat) H1
def iRng2 (ta : TA) : TI := fun σ H R => ta σ H fun vs H1 => ∃ i j : Int, vs = [.int i, .int j] ∧ (-(2 ^ 62) ≤ i ∧ i < 2 ^ 62 ∧ -(2 ^ 62) ≤ j ∧ j < 2 ^ 62) ∧ R (Itr i (j - i).toNat) H1
theorem pi_range1 {a : Expr} {ta : TA} {p pos : Pos} (hg : Gl X "range") (hm : X.mg "range" = none) (ha : PA X [a] ta) (hs : starEach [a] X.env = [(false, eval a X.env)] := by rfl) : PI X tg (.Call (.Name "range" p) [a] [] pos) (iRng1 ta) := by
  intro pins s σ H R I h
  refine Call_ (ld_blt I hg hm boot_range (PyProof.Rows.callWith_type1 (thn (ha pos pins s σ H _ I h) fun us s1 ⟨vs, H1, I1, r1, q1⟩ => ?_) hs rfl))
  obtain ⟨j, e, q1, q2, q⟩ := q1
  subst e
  cases r1 with
  | cons r rr =>
    cases rr
    obtain ⟨t, rfl⟩ := r
    exact call_range_1 (range_it I1 (by omega) (by omega) q1 q2 (by simpa using q))
theorem pi_range2 {a b : Expr} {ta : TA} {p pos : Pos} (hg : Gl X "range") (hm : X.mg "range" = none) (ha : PA X [a, b] ta) (hs : starEach [a, b] X.env = [(false, eval a X.env), (false, eval b X.env)] := by rfl) (hs2 : starEach [b] X.env = [(false, eval b X.env)] := by rfl) :
    PI X tg (.Call (.Name "range" p) [a, b] [] pos) (iRng2 ta) := by
  intro pins s σ H R I h
  refine Call_ (ld_blt I hg hm boot_range (PyProof.Rows.callWith_type1 (thn (ha pos pins s σ H _ I h) fun us s1 ⟨vs, H1, I1, r1, q1⟩ => ?_) (by rw [hs, hs2]) (by rw [hs2]; rfl)))
  obtain ⟨i, j, e, ⟨q1, q2, q3, q4⟩, q⟩ := q1
  subst e
  cases r1 with
  | cons r rr =>
    cases rr with
    | cons r' rr =>
      cases rr
      obtain ⟨t, rfl⟩ := r
      obtain ⟨t', rfl⟩ := r'
      exact call_range_2 (range_it I1 q1 q2 q3 q4 q)
/-- W: the invariant by the turn and a measure; N: what the body is to reach -/
def tFor (wi : TI) (g : TG) (tb : TS) : TS := fun D σ H => wi σ H fun J H1 => ∃ W : Nat → Nat → St → Hp → Prop, (∃ m, W 0 m σ H1) ∧ ∀ i m σ H, W i m σ H →
  (J.stop i H ∧ D.nx σ H) ∨ (J.go i H ∧ ∃ N : St → Hp → Prop, (∀ σ' H', N σ' H' → ∃ m', m' < m ∧ W (i + 1) m' σ' H') ∧ ∀ x H', J.yld i H x H' → g x σ H' fun σ2 H2 => tb { D with nx := N, ct := N, bk := D.nx } σ2 H2)
/-- the records at fp as they stand -/
def pinsAt (fp : List Addr) (h : Heap) : List (Addr × Obj) := fp.filterMap fun b => (h.get? b).map fun o => (b, o)
theorem mem_pinsAt {fp : List Addr} {h : Heap} {b : Addr} {o : Obj} (hb : b ∈ fp) (e : h.get? b = some o) : (b, o) ∈ pinsAt fp h := List.mem_filterMap.mpr ⟨b, hb, by rw [e]; rfl⟩
theorem of_pinsAt {fp : List Addr} {h : Heap} {p : Addr × Obj} (hp : p ∈ pinsAt fp h) : p.1 ∈ fp ∧ h.get? p.1 = some p.2 := by
  obtain ⟨b, hb, e⟩ := List.mem_filterMap.mp hp
  cases q : h.get? b with
  | none => rw [q] at e; cases e
  | some o =>
    rw [q] at e
    have e' : (b, o) = p := Option.some.inj e
    subst e'
    exact ⟨hb, q⟩
theorem Inv.pinned {pins : List (Addr × Obj)} {σ : St} {H : Hp} {s : Shared} {fp : List Addr} (I : Inv X pins σ H s) (hf : ∀ b ∈ fp, FpOk X pins H b) (ho : ∀ b ∈ fp, ∃ o, s.heap.get? b = some o ∧ ∀ v, o.data ≠ .cell v) : Inv X (pins ++ pinsAt fp s.heap) σ H s :=
  I.pins_of fun p hp => (List.mem_append.mp hp).elim (fun z => I.pin p (List.mem_append_right _ z)) fun z => by
    obtain ⟨hb, e⟩ := of_pinsAt z
    obtain ⟨f0, f1, f2, _⟩ := hf p.1 hb
    obtain ⟨o, e', d⟩ := ho p.1 hb
    rw [e] at e'; cases e'
    exact ⟨e, f0, f1, f2, d⟩
theorem Inv.unpinned {pins pl : List (Addr × Obj)} {σ : St} {H : Hp} {s : Shared} (I : Inv X (pins ++ pl) σ H s) : Inv X pins σ H s := I.pins_of fun p hp => I.pin p (List.mem_append_right _ (List.mem_append_left _ hp))
theorem ps_for {iter : Expr} {body : List Stmt} {wi : TI} {g : TG} {tb : TS} {pos : Pos} (hp : PassesOwn (model X.prog X.w) X.A X.env X.xe) (hc : X.calm = true) (hi : PI X tg iter wi) (hg : PG X tg g) (hb : PSs X body tb)
    (hs : ∀ x, foldedSetIterable iter X.env x = pure x := by intro _; rfl) : PS X (.For tg iter body [] pos) (tFor wi g tb) := by
  intro pins s σ H D I h
  refine wpAny_For (thn (hi pins s σ H _ I h) fun v s1 h1 => thn h1 fun itv s2 h2 => ?_) hs
  obtain ⟨it, fp, tn, J, H2, e, I2, T, st2, f2, W, ⟨m0, w0⟩, turn⟩ := h2
  subst e
  -- what stays true of the iterator's objects through the loop
  have stat : ∀ {H' : Hp}, (∀ b ∈ fp, H' b = none) → ∀ b ∈ fp, FpOk X pins H' b := fun hn b hb => ⟨hn b hb, (f2 b hb).2⟩
  refine codeAny_forLoop_any (fun n s' => ∃ i σ' H', Inv X pins σ' H' s' ∧ tn i s'.heap ∧ (∀ b ∈ fp, H' b = none) ∧ W i n σ' H') ?_ m0 ⟨0, σ, H2, I2, st2, fun b hb => (f2 b hb).1, w0⟩
  rintro n s3 ⟨i, σ3, H3, I3, st3, fr3, w3⟩
  rcases turn i n σ3 H3 w3 with ⟨stop, qn⟩ | ⟨go, N, hN, step⟩
  · refine wpAny_passesOwn hp (thn (T.done X rfl rfl rfl hc i pins s3 σ3 H3 X.xe I3 (stat fr3) st3 stop) fun r s4 ⟨hr, I4⟩ => ?_)
    subst hr
    exact wpAny_execs_nil ⟨σ3, H3, I4, qn⟩
  · refine wpAny_passesOwn hp (thn (T.item X rfl rfl rfl hc i pins s3 σ3 H3 X.xe I3 (stat fr3) st3 go) fun r s4 ⟨u, hr, h4⟩ => ?_)
    subst hr
    refine wpAny_passesOwn hp (thn h4 fun _ s5 ⟨x, H5, I5, r5, y5, st5, fr5⟩ => ?_)
    have I5' := I5.pinned (stat fr5) (T.obj _ _ st5)
    refine wpAny_passesOwn hp (thn (hg _ s5 σ3 H5 x u _ I5' r5 (step x H5 y5)) fun _ s6 ⟨σ6, H6, I6, q6⟩ => ?_)
    refine wpAny_passesOwn hp (thn (hb _ s6 σ6 H6 _ I6 q6) fun f s7 q7 => ?_)
    have again : ∀ {σ7 : St} {H7 : Hp}, Inv X (pins ++ pinsAt fp s5.heap) σ7 H7 s7 → N σ7 H7 → ∃ m, m < n ∧ ∃ i σ' H', Inv X pins σ' H' s7 ∧ tn i s7.heap ∧ (∀ b ∈ fp, H' b = none) ∧ W i m σ' H' := fun {σ7 H7} I7 n7 => by
      obtain ⟨m', hm, w7⟩ := hN σ7 H7 n7
      refine ⟨m', hm, i + 1, σ7, H7, I7.unpinned, T.keep _ _ _ st5 fun b hb o e => (I7.pin (b, o) (List.mem_append_right _ (List.mem_append_right _ (mem_pinsAt hb e)))).1, fun b hb => ?_, w7⟩
      obtain ⟨o, e, d⟩ := T.obj _ _ st5 b hb
      exact (I7.pin (b, o) (List.mem_append_right _ (List.mem_append_right _ (mem_pinsAt hb e)))).2.1
    cases f with
    | next => obtain ⟨σ7, H7, I7, n7⟩ := q7; exact again I7 n7
    | cont => obtain ⟨σ7, H7, I7, n7⟩ := q7; exact again I7 n7
    | brk => obtain ⟨σ7, H7, I7, q7⟩ := q7; exact ⟨σ7, H7, I7.unpinned, q7⟩
    | ret v => obtain ⟨x7, σ7, H7, I7, r7, q7⟩ := q7; exact ⟨x7, σ7, H7, I7.unpinned, r7, q7⟩
end
/-- over a list that the body leaves as it is -/
theorem for_list {K : PySem.W.Frag} {a : Addr} {xs : List V} {g : TG} {tb : TS} {D : Ends} {σ : St} {H : Hp} (Pv : Nat → St → Hp → Prop) (h0 : Pv 0 σ H) (hl : ∀ i σ H, i ≤ xs.length → Pv i σ H → SqL K H a xs)
    (hs : ∀ i x σ H, xs[i]? = some x → Pv i σ H → g x σ H fun σ2 H2 => tb { D with nx := Pv (i + 1), ct := Pv (i + 1), bk := D.nx } σ2 H2) (hd : ∀ σ H, Pv xs.length σ H → D.nx σ H) :
    ∃ W : Nat → Nat → St → Hp → Prop, (∃ m, W 0 m σ H) ∧ ∀ i m σ H, W i m σ H →
      ((Itl K a).stop i H ∧ D.nx σ H) ∨ ((Itl K a).go i H ∧ ∃ N : St → Hp → Prop, (∀ σ' H', N σ' H' → ∃ m', m' < m ∧ W (i + 1) m' σ' H') ∧ ∀ x H', (Itl K a).yld i H x H' → g x σ H' fun σ2 H2 => tb { D with nx := N, ct := N, bk := D.nx } σ2 H2) := by
  refine ⟨fun i m σ H => m = xs.length - i ∧ i ≤ xs.length ∧ Pv i σ H, ⟨xs.length, by simp, Nat.zero_le _, h0⟩, ?_⟩
  rintro i m σ H ⟨rfl, hi, p⟩
  have q := hl i σ H hi p
  by_cases hlt : i < xs.length
  · refine .inr ⟨⟨xs, xs[i], q, by simp [hlt]⟩, Pv (i + 1), fun σ' H' p' => ⟨xs.length - (i + 1), by omega, rfl, hlt, p'⟩, fun x H' y => ?_⟩
    obtain ⟨e, y⟩ := y
    subst e
    exact hs i x σ _ (y xs q) p
  · have e : i = xs.length := by omega
    subst e
    exact .inl ⟨⟨xs, q, Nat.le_refl _⟩, hd σ H p⟩
theorem for_tup {K : PySem.W.Frag} {a : Addr} {xs : List V} {g : TG} {tb : TS} {D : Ends} {σ : St} {H : Hp} (Pv : Nat → St → Hp → Prop) (h0 : Pv 0 σ H) (hl : ∀ i σ H, i ≤ xs.length → Pv i σ H → SqT K H a xs)
    (hs : ∀ i x σ H, xs[i]? = some x → Pv i σ H → g x σ H fun σ2 H2 => tb { D with nx := Pv (i + 1), ct := Pv (i + 1), bk := D.nx } σ2 H2) (hd : ∀ σ H, Pv xs.length σ H → D.nx σ H) :
    ∃ W : Nat → Nat → St → Hp → Prop, (∃ m, W 0 m σ H) ∧ ∀ i m σ H, W i m σ H →
      ((Itt K a).stop i H ∧ D.nx σ H) ∨ ((Itt K a).go i H ∧ ∃ N : St → Hp → Prop, (∀ σ' H', N σ' H' → ∃ m', m' < m ∧ W (i + 1) m' σ' H') ∧ ∀ x H', (Itt K a).yld i H x H' → g x σ H' fun σ2 H2 => tb { D with nx := N, ct := N, bk := D.nx } σ2 H2) := by
  refine ⟨fun i m σ H => m = xs.length - i ∧ i ≤ xs.length ∧ Pv i σ H, ⟨xs.length, by simp, Nat.zero_le _, h0⟩, ?_⟩
  rintro i m σ H ⟨rfl, hi, p⟩
  have q := hl i σ H hi p
  by_cases hlt : i < xs.length
  · refine .inr ⟨⟨xs, xs[i], q, by simp [hlt]⟩, Pv (i + 1), fun σ' H' p' => ⟨xs.length - (i + 1), by omega, rfl, hlt, p'⟩, fun x H' y => ?_⟩
    obtain ⟨e, y⟩ := y
    subst e
    exact hs i x σ _ (y xs q) p
  · have e : i = xs.length := by omega
    subst e
    exact .inl ⟨⟨xs, q, Nat.le_refl _⟩, hd σ H p⟩
theorem for_range {lo : Int} {n : Nat} {g : TG} {tb : TS} {D : Ends} {σ : St} {H : Hp} (Pv : Nat → St → Hp → Prop) (h0 : Pv 0 σ H)
    (hs : ∀ i σ H, i < n → Pv i σ H → g (.int (lo + i)) σ H fun σ2 H2 => tb { D with nx := Pv (i + 1), ct := Pv (i + 1), bk := D.nx } σ2 H2) (hd : ∀ σ H, Pv n σ H → D.nx σ H) :
    ∃ W : Nat → Nat → St → Hp → Prop, (∃ m, W 0 m σ H) ∧ ∀ i m σ H, W i m σ H →
      ((Itr lo n).stop i H ∧ D.nx σ H) ∨ ((Itr lo n).go i H ∧ ∃ N : St → Hp → Prop, (∀ σ' H', N σ' H' → ∃ m', m' < m ∧ W (i + 1) m' σ' H') ∧ ∀ x H', (Itr lo n).yld i H x H' → g x σ H' fun σ2 H2 => tb { D with nx := N, ct := N, bk := D.nx } σ2 H2) := by
  refine ⟨fun i m σ H => m = n - i ∧ i ≤ n ∧ Pv i σ H, ⟨n, by simp, Nat.zero_le _, h0⟩, ?_⟩
  rintro i m σ H ⟨rfl, hi, p⟩
  by_cases hlt : i < n
  · refine .inr ⟨hlt, Pv (i + 1), fun σ' H' p' => ⟨n - (i + 1), by omega, rfl, hlt, p'⟩, fun x H' y => ?_⟩
    obtain ⟨e, y⟩ := y
    subst e y
    exact hs i σ _ hlt p
  · have e : i = n := by omega
    subst e
    exact .inl ⟨Nat.le_refl _, hd σ H p⟩
end L2
namespace L2
open PySem PySem.Spec PyProof.Rows
abbrev R2 := V → V → Hp → VK → Prop
/-- a two-place operation on values: f is binaryOp op, inplaceOp op or compareOp op -/
def OpR (X : Cx) (f : Value → Value → Sem Value) (r : R2) : Prop :=
  ∀ (pins : List (Addr × Obj)) (s : Shared) (σ : St) (H : Hp) (x y : V) (v u : Value) (Q : VK), Inv X pins σ H s → RelV x v → RelV y u → r x y H Q →
    wpAny (model X.prog X.w) X.A (f v u) (EP X pins σ Q) X.xe s
/-- a one-place operation -/
def UnR (X : Cx) (f : Value → Sem Value) (r : V → Hp → VK → Prop) : Prop :=
  ∀ (pins : List (Addr × Obj)) (s : Shared) (σ : St) (H : Hp) (x : V) (v : Value) (Q : VK), Inv X pins σ H s → RelV x v → r x H Q →
    wpAny (model X.prog X.w) X.A (f v) (EP X pins σ Q) X.xe s
/-- a call of a value that is known (a builtin, a type) with values -/
def CallR (X : Cx) (f : Value) (r : List V → Hp → VK → Prop) : Prop :=
  ∀ (pins : List (Addr × Obj)) (s : Shared) (σ : St) (H : Hp) (xs : List V) (us : List Value) (Q : VK), Inv X pins σ H s → Vals xs us → r xs H Q →
    wpAny (model X.prog X.w) X.A (call f us) (EP X pins σ Q) X.xe s
def tOp (r : R2) (ta tb : TE) : TE := fun σ H Q => ta σ H fun x H1 => tb σ H1 fun y H2 => r x y H2 Q
def tUn (r : V → Hp → VK → Prop) (ta : TE) : TE := fun σ H Q => ta σ H fun x H1 => r x H1 Q
/-- ints in, under C, and a value out -/
def rI (C : Int → Int → Prop) (g : Int → Int → V) : R2 := fun x y H Q => ∃ i j, x = .int i ∧ y = .int j ∧ C i j ∧ Q (g i j) H
def rI0 (g : Int → Int → V) : R2 := fun x y H Q => ∃ i j, x = .int i ∧ y = .int j ∧ Q (g i j) H
def rU (g : Int → V) : V → Hp → VK → Prop := fun x H Q => ∃ i, x = .int i ∧ Q (g i) H
section
variable {X : Cx} {a b c : Expr} {ta tb tc : TE} {pos : Pos}
theorem binT (ha : PE X a ta) (hb : PE X b tb) {pins : List (Addr × Obj)} {s : Shared} {σ : St} {H : Hp} {R : V → V → Hp → Prop} (I : Inv X pins σ H s)
    (h : ta σ H fun x H1 => tb σ H1 fun y H2 => R x y H2) {Q : Value → Shared → Prop} {f : Value → Value → Sem Value}
    (hf : ∀ v u s2 x y H2, Inv X pins σ H2 s2 → RelV x v → RelV y u → R x y H2 → wpAny (model X.prog X.w) X.A (f v u) Q X.xe s2) :
    wpAny (model X.prog X.w) X.A (eval a X.env) (fun v s₁ => wpAny (model X.prog X.w) X.A (eval b X.env) (fun u s₂ => wpAny (model X.prog X.w) X.A (f v u) Q X.xe s₂) X.xe s₁) X.xe s := by
  refine thn (ha pins s σ H _ I h) fun v s1 ⟨x, H1, I1, r1, q1⟩ => ?_
  refine thn (hb pins s1 σ H1 _ I1 q1) fun u s2 ⟨y, H2, I2, r2, q2⟩ => ?_
  exact hf v u s2 x y H2 I2 r1 r2 q2
theorem pe_op {op : Operator} {r : R2} (ho : OpR X (binaryOp op) r) (ha : PE X a ta) (hb : PE X b tb) : PE X (.BinOp a op b pos) (tOp r ta tb) := by
  intro pins s σ H Q I h
  exact wpAny_BinOp (binT ha hb I h fun v u s2 x y H2 I2 rx ry q => ho pins s2 σ H2 x y v u Q I2 rx ry q)
theorem pe_un {op : UnaryOp} {r : V → Hp → VK → Prop} (ho : UnR X (unaryOp op) r) (ha : PE X a ta) : PE X (.UnaryOp op a pos) (tUn r ta) := by
  intro pins s σ H Q I h
  exact UnaryOp_ (thn (ha pins s σ H _ I h) fun v s1 ⟨x, H1, I1, r1, q1⟩ => ho pins s1 σ H1 x v Q I1 r1 q1)
theorem opI {f : Value → Value → Sem Value} {C : Int → Int → Prop} {g : Int → Int → Int}
    (rule : ∀ (i j : Int) (t u : Tok) (s : Shared) (Q : Value → Shared → Prop) (E : Value → Shared → Prop), C i j → Q (.int (g i j) s.toks) { s with toks := s.toks + 1 } → wpAny (model X.prog X.w) X.A (f (.int i t) (.int j u)) Q E s) :
    OpR X f (rI C fun i j => .int (g i j)) := by
  intro pins s σ H x y v u Q I rx ry h
  obtain ⟨i, j, rfl, rfl, hc, q⟩ := h
  obtain ⟨t, rfl⟩ := rx
  obtain ⟨t', rfl⟩ := ry
  exact rule i j t t' s _ _ hc ⟨.int (g i j), H, I.tok _, ⟨_, rfl⟩, q⟩
theorem opI0 {f : Value → Value → Sem Value} {g : Int → Int → Int}
    (rule : ∀ (i j : Int) (t u : Tok) (s : Shared) (Q : Value → Shared → Prop) (E : Value → Shared → Prop), Q (.int (g i j) s.toks) { s with toks := s.toks + 1 } → wpAny (model X.prog X.w) X.A (f (.int i t) (.int j u)) Q E s) :
    OpR X f (rI0 fun i j => .int (g i j)) := by
  intro pins s σ H x y v u Q I rx ry h
  obtain ⟨i, j, rfl, rfl, q⟩ := h
  obtain ⟨t, rfl⟩ := rx
  obtain ⟨t', rfl⟩ := ry
  exact rule i j t t' s _ _ ⟨.int (g i j), H, I.tok _, ⟨_, rfl⟩, q⟩
theorem opB0 {f : Value → Value → Sem Value} {g : Int → Int → Bool}
    (rule : ∀ (i j : Int) (t u : Tok) (s : Shared) (Q : Value → Shared → Prop) (E : Value → Shared → Prop), Q (.bool (g i j)) s → wpAny (model X.prog X.w) X.A (f (.int i t) (.int j u)) Q E s) :
    OpR X f (rI0 fun i j => .bl (g i j)) := by
  intro pins s σ H x y v u Q I rx ry h
  obtain ⟨i, j, rfl, rfl, q⟩ := h
  obtain ⟨t, rfl⟩ := rx
  obtain ⟨t', rfl⟩ := ry
  exact rule i j t t' s _ _ ⟨.bl (g i j), H, I, rfl, q⟩
def CDiv (i j : Int) : Prop := 0 < j ∧ j < 1073741824
def CPow (i j : Int) : Prop := 0 ≤ j ∧ j ≤ 1000000 ∧ i.natAbs < 2 ^ 64
def CMul (i j : Int) : Prop := (-(2 ^ 64) < i ∧ i < 2 ^ 64) ∨ (-(2 ^ 64) < j ∧ j < 2 ^ 64)
theorem CMul.ok {i j : Int} (h : CMul i j) : IntMulOk i j := by
  rcases h with ⟨h1, h2⟩ | ⟨h1, h2⟩
  · exact .of_left (intBits_le_64 h1 h2)
  · exact .of_right (intBits_le_64 h1 h2)
theorem op_add : OpR X (binaryOp .Add) (rI0 fun i j => .int (i + j)) := opI0 fun _ _ _ _ _ _ _ q => add_int q
theorem op_sub : OpR X (binaryOp .Sub) (rI0 fun i j => .int (i - j)) := opI0 fun _ _ _ _ _ _ _ q => sub_int q
theorem op_mul : OpR X (binaryOp .Mult) (rI CMul fun i j => .int (i * j)) := opI fun _ _ _ _ _ _ _ hc q => mul_int q hc.ok
/-- // by a positive divisor -/
theorem op_fdiv : OpR X (binaryOp .FloorDiv) (rI CDiv fun i j => .int (i / j)) := opI fun i j _ _ _ _ _ hc q => by
  have h1 : (0 : Int) < j := hc.1
  have h2 : j < 1073741824 := hc.2
  exact floordiv_int (by omega) (by rw [Int.fdiv_eq_ediv_of_nonneg i (by omega)]; exact q) (.inl (PyProof.noPylong_small (by omega)))
/-- % by a positive divisor of any size -/
theorem op_mod : OpR X (binaryOp .Mod) (rI (fun _ j => 0 < j) fun i j => .int (i % j)) := opI fun i j _ _ _ _ _ hc q => by
  have h1 : (0 : Int) < j := hc
  exact mod_int' (by omega) (by rw [Int.fmod_eq_emod_of_nonneg i (by omega)]; exact q)
theorem op_pow : OpR X (binaryOp .Pow) (rI CPow fun i j => .int (i ^ j.toNat)) := opI fun _ _ _ _ _ _ _ hc q => pow_int_small hc.1 hc.2.1 hc.2.2 q
theorem unI {f : Value → Sem Value} {g : Int → Int}
    (rule : ∀ (i : Int) (t : Tok) (s : Shared) (Q : Value → Shared → Prop) (E : Value → Shared → Prop), Q (.int (g i) s.toks) { s with toks := s.toks + 1 } → wpAny (model X.prog X.w) X.A (f (.int i t)) Q E s) :
    UnR X f (rU fun i => .int (g i)) := by
  intro pins s σ H x v Q I rx h
  obtain ⟨i, rfl, q⟩ := h
  obtain ⟨t, rfl⟩ := rx
  exact rule i t s _ _ ⟨.int (g i), H, I.tok _, ⟨_, rfl⟩, q⟩
theorem un_neg : UnR X (unaryOp .USub) (rU fun i => .int (-i)) := unI fun _ _ _ _ _ q => neg_int q
end
/-- the scalars that == tells apart as data does -/
def scal : V → V → Bool
  | .non, .non => true | .non, .int _ => true | .int _, .non => true | .non, .bl _ => true | .bl _, .non => true | .non, .str _ => true | .str _, .non => true
  | .int _, .int _ => true | .bl _, .bl _ => true | .str _, .str _ => true | .byt _, .byt _ => true
  | .int _, .str _ => true | .str _, .int _ => true | .bl _, .str _ => true | .str _, .bl _ => true
  | _, _ => false
def rEq : R2 := fun x y H Q => scal x y = true ∧ Q (.bl (decide (x = y))) H
def rNe : R2 := fun x y H Q => scal x y = true ∧ Q (.bl (!decide (x = y))) H
theorem dec_int {i j : Int} : decide (V.int i = V.int j) = (i == j) := by
  rw [Bool.eq_iff_iff]
  simp
theorem dec_bl {i j : Bool} : decide (V.bl i = V.bl j) = (i == j) := by
  rw [Bool.eq_iff_iff]
  simp
theorem dec_str {i j : Str} : decide (V.str i = V.str j) = (i == j) := by
  rw [Bool.eq_iff_iff]
  simp
theorem dec_byt {i j : Array UInt8} : decide (V.byt i = V.byt j) = (i.toList == j.toList) := by
  rw [Bool.eq_iff_iff]
  cases i
  cases j
  simp
section
variable {X : Cx} {a b c : Expr} {ta tb tc : TE} {pos : Pos}
theorem fin_bl {pins : List (Addr × Obj)} {σ : St} {H : Hp} {s : Shared} {Q : VK} {k k' : Bool} (I : Inv X pins σ H s) (q : Q (.bl k) H) (e : k = k') : EP X pins σ Q (.bool k') s := by
  subst e
  exact ⟨.bl k, H, I, rfl, q⟩
theorem op_eq : OpR X (compareOp .Eq) rEq := by
  intro pins s σ H x y v u Q I rx ry h
  obtain ⟨hs, q⟩ := h
  cases x with
  | non =>
    cases rx
    cases y with
    | non => cases ry; exact PySem.EqNone.eq_none_none (fin_bl I q (by simp))
    | bl j => cases ry; exact PySem.EqNone.eq_none_bool (fin_bl I q (by simp))
    | int j => obtain ⟨t', rfl⟩ := ry; exact PySem.EqNone.eq_none_int (fin_bl I q (by simp))
    | str j => obtain ⟨t', rfl⟩ := ry; exact PySem.EqNone.eq_none_str (fin_bl I q (by simp))
    | _ => exact absurd (show false = true from hs) Bool.false_ne_true
  | bl i =>
    cases rx
    cases y with
    | non => cases ry; exact PySem.EqNone.eq_bool_none (fin_bl I q (by simp))
    | bl j => cases ry; exact eq_bool (fin_bl I q dec_bl)
    | str j => obtain ⟨t', rfl⟩ := ry; exact PySem.EqMixed.eq_bool_str (fin_bl I q (by simp))
    | _ => exact absurd (show false = true from hs) Bool.false_ne_true
  | int i =>
    obtain ⟨t, rfl⟩ := rx
    cases y with
    | non => cases ry; exact PySem.EqNone.eq_int_none (fin_bl I q (by simp))
    | int j => obtain ⟨t', rfl⟩ := ry; exact eq_int (fin_bl I q dec_int)
    | str j => obtain ⟨t', rfl⟩ := ry; exact PySem.EqMixed.eq_int_str (fin_bl I q (by simp))
    | _ => exact absurd (show false = true from hs) Bool.false_ne_true
  | str i =>
    obtain ⟨t, rfl⟩ := rx
    cases y with
    | non => cases ry; exact PySem.EqNone.eq_str_none (fin_bl I q (by simp))
    | bl j => cases ry; exact PySem.EqMixed.eq_str_bool (fin_bl I q (by simp))
    | int j => obtain ⟨t', rfl⟩ := ry; exact PySem.EqMixed.eq_str_int (fin_bl I q (by simp))
    | str j => obtain ⟨t', rfl⟩ := ry; exact eq_str (fin_bl I q dec_str)
    | _ => exact absurd (show false = true from hs) Bool.false_ne_true
  | byt i =>
    obtain ⟨t, rfl⟩ := rx
    cases y with
    | byt j => obtain ⟨t', rfl⟩ := ry; exact PySem.W.eq_bytes (fin_bl I q dec_byt)
    | _ => exact absurd (show false = true from hs) Bool.false_ne_true
  | _ => cases y <;> exact absurd (show false = true from hs) Bool.false_ne_true
theorem op_ne : OpR X (compareOp .NotEq) rNe := by
  intro pins s σ H x y v u Q I rx ry h
  obtain ⟨hs, q⟩ := h
  cases x with
  | non =>
    cases rx
    cases y with
    | non => cases ry; exact PySem.EqNone.ne_none_none (fin_bl I q (by simp))
    | bl j => cases ry; exact PySem.EqNone.ne_none_bool (fin_bl I q (by simp))
    | int j => obtain ⟨t', rfl⟩ := ry; exact PySem.EqNone.ne_none_int (fin_bl I q (by simp))
    | str j => obtain ⟨t', rfl⟩ := ry; exact PySem.EqNone.ne_none_str (fin_bl I q (by simp))
    | _ => exact absurd (show false = true from hs) Bool.false_ne_true
  | bl i =>
    cases rx
    cases y with
    | non => cases ry; exact PySem.EqNone.ne_bool_none (fin_bl I q (by simp))
    | bl j => cases ry; exact ne_bool (fin_bl I q (congrArg not dec_bl))
    | str j => obtain ⟨t', rfl⟩ := ry; exact PySem.EqMixed.ne_bool_str (fin_bl I q (by simp))
    | _ => exact absurd (show false = true from hs) Bool.false_ne_true
  | int i =>
    obtain ⟨t, rfl⟩ := rx
    cases y with
    | non => cases ry; exact PySem.EqNone.ne_int_none (fin_bl I q (by simp))
    | int j => obtain ⟨t', rfl⟩ := ry; exact ne_int (fin_bl I q (congrArg not dec_int))
    | str j => obtain ⟨t', rfl⟩ := ry; exact PySem.EqMixed.ne_int_str (fin_bl I q (by simp))
    | _ => exact absurd (show false = true from hs) Bool.false_ne_true
  | str i =>
    obtain ⟨t, rfl⟩ := rx
    cases y with
    | non => cases ry; exact PySem.EqNone.ne_str_none (fin_bl I q (by simp))
    | bl j => cases ry; exact PySem.EqMixed.ne_str_bool (fin_bl I q (by simp))
    | int j => obtain ⟨t', rfl⟩ := ry; exact PySem.EqMixed.ne_str_int (fin_bl I q (by simp))
    | str j => obtain ⟨t', rfl⟩ := ry; exact ne_str (fin_bl I q (congrArg not dec_str))
    | _ => exact absurd (show false = true from hs) Bool.false_ne_true
  | byt i =>
    obtain ⟨t, rfl⟩ := rx
    cases y with
    | byt j => obtain ⟨t', rfl⟩ := ry; exact PySem.W.ne_bytes (fin_bl I q (congrArg not dec_byt))
    | _ => exact absurd (show false = true from hs) Bool.false_ne_true
  | _ => cases y <;> exact absurd (show false = true from hs) Bool.false_ne_true
theorem op_lt : OpR X (compareOp .Lt) (rI0 fun i j => .bl (decide (i < j))) := opB0 fun _ _ _ _ _ _ _ q => lt_int q
theorem op_le : OpR X (compareOp .LtE) (rI0 fun i j => .bl (decide (i ≤ j))) := opB0 fun _ _ _ _ _ _ _ q => le_int q
theorem op_gt : OpR X (compareOp .Gt) (rI0 fun i j => .bl (decide (j < i))) := opB0 fun _ _ _ _ _ _ _ q => gt_int q
theorem op_ge : OpR X (compareOp .GtE) (rI0 fun i j => .bl (decide (j ≤ i))) := opB0 fun _ _ _ _ _ _ _ q => ge_int q
/-- two rules for one operation: by cases -/
theorem OpR.or {f : Value → Value → Sem Value} {r r' : R2} (h : OpR X f r) (h' : OpR X f r') : OpR X f (fun x y H Q => r x y H Q ∨ r' x y H Q) := by
  intro pins s σ H x y v u Q I rx ry q
  rcases q with q | q
  · exact h pins s σ H x y v u Q I rx ry q
  · exact h' pins s σ H x y v u Q I rx ry q
theorem nomark (b : Expr) {op : CmpOp} (h : op ≠ .In := by decide) (h2 : op ≠ .NotIn := by decide) : behindInMarks op b = false := by
  have e1 : (op == CmpOp.In) = false := by cases op <;> first | rfl | exact absurd rfl h
  have e2 : (op == CmpOp.NotIn) = false := by cases op <;> first | rfl | exact absurd rfl h2
  cases b <;> simp [behindInMarks, e1, e2]
/-- a comparison as a value; hm: nomark b, or (for in, not in) by with_unfolding_all rfl -/
theorem pe_cmpR {op : CmpOp} {r : R2} (ho : OpR X (compareOp op) r) (ha : PE X a ta) (hb : PE X b tb) (hm : behindInMarks op b = false) : PE X (.Compare a [op] [b] pos) (tOp r ta tb) := by
  intro pins s σ H Q I h
  exact wpAny_Compare1 (binT ha hb I h fun v u s2 x y H2 I2 rx ry q => ho pins s2 σ H2 x y v u Q I2 rx ry q) hm
/-- a reading of a value as a test -/
def tTest (t : TE) : TT := fun σ H Q => t σ H fun x H' => ∃ k, x = .bl k ∧ Q k H'
theorem pt_cmpR {op : CmpOp} {r : R2} (ho : OpR X (compareOp op) r) (ha : PE X a ta) (hb : PE X b tb) (hm : behindInMarks op b = false) : PT X (.Compare a [op] [b] pos) (tTest (tOp r ta tb)) := by
  intro pins s σ H Q I h
  refine wpAny_isTrue_Compare1 (thn (ha pins s σ H _ I h) fun v s1 ⟨x, H1, I1, r1, q1⟩ => thn (hb pins s1 σ H1 _ I1 q1) fun u s2 ⟨y, H2, I2, r2, q2⟩ =>
    thn (ho pins s2 σ H2 x y v u _ I2 r1 r2 q2) fun c s3 ⟨z, H3, I3, r3, k, e, q3⟩ => ?_) hm
  subst e
  cases r3
  exact wpAny_truthy_bool ⟨H3, I3, q3⟩
theorem line63 : (sizeLine : Nat) < 2 ^ 63 := by rw [sizeLine_eq]; decide
theorem op_add_str : OpR X (binaryOp .Add) (fun x y H Q => ∃ i j, x = .str i ∧ y = .str j ∧ i.length + j.length ≤ sizeLine ∧ Q (.str (i ++ j)) H) := by
  intro pins s σ H x y v u Q I rx ry h
  obtain ⟨i, j, rfl, rfl, hz, q⟩ := h
  obtain ⟨t, rfl⟩ := rx
  obtain ⟨t', rfl⟩ := ry
  exact add_str (fun t' tk => ⟨.str (i ++ j), H, I.tok _, ⟨_, rfl⟩, q⟩) hz
theorem vals1 {x : V} {us : List Value} (r : Vals [x] us) : ∃ u, us = [u] ∧ RelV x u := by
  cases r with
  | cons r1 r2 => cases r2; exact ⟨_, rfl, r1⟩
theorem vals2 {x y : V} {us : List Value} (r : Vals [x, y] us) : ∃ u w', us = [u, w'] ∧ RelV x u ∧ RelV y w' := by
  cases r with
  | cons r1 r2 =>
    cases r2 with
    | cons r3 r4 => cases r4; exact ⟨_, _, rfl, r1, r3⟩
theorem call_max2 (hc : X.calm = true) : CallR X (.builtin "max") (fun xs H Q => ∃ i j, xs = [.int i, .int j] ∧ Q (.int (if j > i then j else i)) H) := by
  intro pins s σ H xs us Q I r h
  obtain ⟨i, j, rfl, q⟩ := h
  obtain ⟨u, w', rfl, ⟨t, rfl⟩, ⟨t', rfl⟩⟩ := vals2 r
  refine max_two_ints (I.ok.hd hc) fun h' tk k => ⟨_, H, I.kept k, ?_, q⟩
  by_cases hj : j > i
  · rw [if_pos hj, if_pos hj]; exact ⟨_, rfl⟩
  · rw [if_neg hj, if_neg hj]; exact ⟨_, rfl⟩
theorem call_min2 (hc : X.calm = true) : CallR X (.builtin "min") (fun xs H Q => ∃ i j, xs = [.int i, .int j] ∧ Q (.int (if j < i then j else i)) H) := by
  intro pins s σ H xs us Q I r h
  obtain ⟨i, j, rfl, q⟩ := h
  obtain ⟨u, w', rfl, ⟨t, rfl⟩, ⟨t', rfl⟩⟩ := vals2 r
  refine min_two_ints (I.ok.hd hc) fun h' tk k => ⟨_, H, I.kept k, ?_, q⟩
  by_cases hj : j < i
  · rw [if_pos hj, if_pos hj]; exact ⟨_, rfl⟩
  · rw [if_neg hj, if_neg hj]; exact ⟨_, rfl⟩
theorem call_int1 : CallR X (.type "int") (fun xs H Q => (∃ i, xs = [.int i] ∧ Q (.int i) H) ∨ ∃ k, xs = [.bl k] ∧ Q (.int (if k then 1 else 0)) H) := by
  intro pins s σ H xs us Q I r h
  rcases h with ⟨i, rfl, q⟩ | ⟨k, rfl, q⟩
  · obtain ⟨u, rfl, t, rfl⟩ := vals1 r
    exact call_int_int ⟨.int i, H, I, ⟨_, rfl⟩, q⟩
  · obtain ⟨u, rfl, r1⟩ := vals1 r
    cases r1
    exact call_int_bool ⟨.int (if k then 1 else 0), H, I.tok _, ⟨_, rfl⟩, q⟩
end
end L2
namespace L2
open PySem PySem.Spec PyProof.Rows
structure ObjM (h : Heap) (x dx C : Addr) (mA : Str → Option Value) : Prop where
  obj : h.get? x = some (PySem.W.instObj C dx)
  ns : h.Ns1 dx mA
  ne : dx ≠ x
theorem lookIn_ns {h : Heap} {dx : Addr} {mA : Str → Option Value} (n : h.Ns1 dx mA) : ∃ od, h.get? dx = some od ∧ ∀ name, PySem.W.lookIn name od = some (mA name) := by
  obtain ⟨o, es, ep, ho, hd, hk, _, hm⟩ := n
  refine ⟨o, ho, fun name => ?_⟩
  have e := hm name
  unfold nsFind findBy at e
  rw [← Array.find?_toList] at e
  unfold PySem.W.lookIn
  rw [hd]
  dsimp only
  split
  · rename_i y q
    rw [q] at e
    exact congrArg some e
  · rename_i q
    rw [q] at e
    have a : es.toList.any (·.refKey) = false := by
      rw [List.any_eq_false]
      intro y hy
      obtain ⟨z, t, hkey⟩ := hk y (Array.mem_toList_iff.mp hy)
      simp [DictEntry.refKey, hkey]
    have a' : ¬ es.toList.any (·.refKey) = true := by rw [a]; exact Bool.false_ne_true
    rw [if_neg a']
    exact congrArg some e
theorem ObjM.look {h : Heap} {x dx C : Addr} {mA : Str → Option Value} (I : ObjM h x dx C mA) : ∃ od, PySem.W.InstAt h x (PySem.W.instObj C dx) C (some od) ∧ ∀ name, PySem.W.lookIn name od = some (mA name) :=
  let ⟨od, ho, hl⟩ := lookIn_ns I.ns
  ⟨od, ⟨I.obj, rfl, rfl, ho⟩, hl⟩
section
variable {prog : Program} {w : World} {A : Around} {E : Value → Shared → Prop} {s : Shared} {K : PySem.W.Frag} {x dx C f : Addr} {mA : Str → Option Value} {name : Str} {v : Value}
theorem get_map {expr : Bool} {Q : Value → Shared → Prop} (X : K.In s.heap) (I : ObjM s.heap x dx C mA) (hg : PySem.W.plainGet K C name = true) (hh : PySem.W.hasDictIn K C = true)
    (ha : PySem.W.findIn K (.ref C) name = some none) (hv : mA name = some v) (hv' : PySem.W.handedIn v = true) (h : Q v { s with toks := s.toks + 1 }) :
    wpAny (model prog w) A (getAttr (.ref x) name expr) Q E s := by
  obtain ⟨od, J, hl⟩ := I.look
  exact PySem.W.get_value X J (PySem.W.plainGet_of hg).1 (PySem.W.findObj_own hh ha rfl (by rw [hl, hv])) hv' h
end
theorem RelO.some_of {v : V} {o : Option Value} (r : RelO (some v) o) : ∃ u, o = some u ∧ RelV v u := by
  cases o with
  | none => exact (show False from r).elim
  | some u => exact ⟨u, rfl, r⟩
section
variable {P : Program} {w : World} {H H' : Hp} {h h' : Heap} {a C dx : Addr} {fs fs' : List (Str × V)}
end
structure Cls (K : PySem.W.Frag) (C : Addr) : Prop where
  pg : PySem.W.plainGet K C Str.empty = true
  hd : PySem.W.hasDictIn K C = true
  po : PySem.W.plainOver K C = true
  sa : PySem.W.findIn K (.ref C) "__setattr__" = some (some (.builtin "object.__setattr__"))
theorem Cls.get {K : PySem.W.Frag} {C : Addr} (c : Cls K C) (f : Str) : PySem.W.plainGet K C f = true := c.pg
section
variable {X : Cx} {pins : List (Addr × Obj)} {σ : St} {H : Hp} {s : Shared} {a C dx : Addr} {fs : List (Str × V)} {f : Str} {v : V} {A : Around} {E : Value → Shared → Prop}
/-- a new instance, tracked, without attributes -/
theorem Inv.made (I : Inv X pins σ H s) : Inv X pins σ (upd (upd H s.heap.objs.size (.own (s.heap.objs.size + 1))) (s.heap.objs.size + 1) (.ins C s.heap.objs.size []))
    { s with heap := (s.heap.push PySem.W.emptyDict).push (PySem.W.instObj C s.heap.objs.size) } := by
  have e1 : (s.heap.push PySem.W.emptyDict).get? s.heap.objs.size = some PySem.W.emptyDict := Heap.get?_push_size s.heap rfl
  have e2 : ((s.heap.push PySem.W.emptyDict).push (PySem.W.instObj C s.heap.objs.size)).get? (s.heap.objs.size + 1) = some (PySem.W.instObj C s.heap.objs.size) := by
    have := Heap.get?_push_size (s.heap.push PySem.W.emptyDict) (o := PySem.W.instObj C s.heap.objs.size) rfl
    rwa [Heap.size_push] at this
  have e3 : (s.heap.push PySem.W.emptyDict).Ns s.heap.objs.size (fun _ => none) := ⟨PySem.W.emptyDict, #[], _, e1, rfl, (fun e he => absurd he (by simp)), fun _ => rfl⟩
  have I1 := I.laid (a := s.heap.objs.size) (o := .own (s.heap.objs.size + 1)) (h' := s.heap.push PySem.W.emptyDict) (t' := s.toks) (fun b u q => Heap.get?_push_of_some _ q) (Nat.le_refl _) ⟨_, e1⟩
  refine I1.laid (a := s.heap.objs.size + 1) (o := .ins C s.heap.objs.size []) (t' := s.toks) (fun b u q => Heap.get?_push_of_some _ q) (Nat.le_of_eq (Heap.size_push _ _)) ?_
  have ne : s.heap.objs.size ≠ s.heap.objs.size + 1 := Nat.ne_of_lt (Nat.lt_succ_self _)
  refine ⟨by rw [upd_ne ne, upd_same], Nat.zero_le _, ne, e2, fun _ => none, (Heap.Ns1.of_empty e3).at fun o q => Heap.get?_push_of_some _ q, fun _ => True.intro, fun y hy => absurd rfl hy⟩
end
section
variable {X : Cx} {o e value : Expr} {f : Str} {pos pos' tpos : Pos} {ta tv : TE}
end
section
variable {X : Cx} {pins : List (Addr × Obj)} {σ : St} {H : Hp} {s : Shared} {A : Around} {E : Value → Shared → Prop} {Q : Value → Shared → Prop} {c : Value} {b : Bool}
end
end L2
namespace L2
open PySem PySem.Spec PyProof.Rows
structure Room (k : Nat) (A : Around) : Prop where
  hd : A.handled = none
  dp : A.depth + 3 * k + 5 < recursionLimit
  un : A.units + 16 * k + 200 < cLine
  gd : A.guards = some []
theorem Room.mono {j k : Nat} {A : Around} (r : Room k A) (h : j ≤ k) : Room j A := ⟨r.hd, by have := r.dp; omega, by have := r.un; omega, r.gd⟩
theorem Room.deeper {k : Nat} {A : Around} (r : Room (k + 1) A) (env : Env) : Room k (A.deeper env) :=
  ⟨r.hd, by have := r.dp; show A.depth + 1 + 3 * k + 5 < _; omega, by have := r.un; show A.units + 3 + 16 * k + 200 < _; omega, r.gd⟩
theorem Room.in1 {k : Nat} {A : Around} (r : Room (k + 1) A) : Room k A.in1 :=
  ⟨r.hd, by have := r.dp; show A.depth + 3 * k + 5 < _; omega, by have := r.un; show A.units + 1 + 16 * k + 200 < _; omega, r.gd⟩
theorem Room.depth {k : Nat} {A : Around} (r : Room k A) : A.depth < recursionLimit := by have := r.dp; omega
theorem Room.units {k : Nat} {A : Around} (r : Room k A) : A.units + 64 < cLine := by have := r.un; omega
def tNil : TA := fun _ H Q => Q [] H
def tCons (ta : TE) (tr : TA) : TA := fun σ H Q => ta σ H fun x H1 => tr σ H1 fun xs H2 => Q (x :: xs) H2
section
variable {X : Cx} {e : Expr} {es : List Expr} {te : TE} {t : TA} {pos : Pos}
theorem pa_nil : PA X [] tNil := fun _ _ _ _ H Q I h => Calls.spliced_nil ⟨[], H, I, .nil, h⟩
theorem pa_cons (ha : PE X e te) (hr : PA X es t) (hs : starEach (e :: es) X.env = (false, eval e X.env) :: starEach es X.env := by rfl) : PA X (e :: es) (tCons te t) := by
  intro pos pins s σ H Q I h
  rw [hs]
  show wpAny _ _ (spliced ((false, eval e X.env) :: backTo pos (starEach es X.env))) _ _ s
  refine Calls.spliced_cons (thn (ha pins s σ H _ I h) fun u s1 ⟨x, H1, I1, r1, q1⟩ => ?_)
  exact thn (hr pos pins s1 σ H1 _ I1 q1) fun us s2 ⟨xs, H2, I2, r2, q2⟩ => ⟨x :: xs, H2, I2, .cons r1 r2, q2⟩
/-- a tuple, a list of written items -/
def tTup (t : TA) : TE := fun σ H Q => t σ H fun xs H1 => xs.length ≤ sizeLine ∧ ∀ p, H1 p = none → Q (.ref p) (upd H1 p (.tup xs))
def tLst (t : TA) : TE := fun σ H Q => t σ H fun xs H1 => xs.length ≤ sizeLine ∧ ∀ p, H1 p = none → Q (.ref p) (upd H1 p (.lst xs))
theorem pe_tup {x1} (h : PA X es t) : PE X (.Tuple es x1 pos) (tTup t) := by
  intro pins s σ H Q I hq
  refine wpAny_Tuple_spliced (thn (h pos pins s σ H _ I hq) fun us s1 ⟨xs, H1, I1, r, z, q⟩ => ⟨by rw [← r.length]; exact z, ?_⟩)
  have hf : H1 s1.heap.objs.size = none := I1.hok.fresh (Nat.le_refl _)
  refine ⟨.ref s1.heap.objs.size, upd H1 s1.heap.objs.size (.tup xs), I1.laid (t' := s1.toks) (fun b u e => Heap.get?_push_of_some _ e) (Nat.le_refl _) ?_, rfl, q _ hf⟩
  exact ⟨z, us, r, ⟨_, Heap.get?_push_size _ rfl, rfl, _, rfl⟩⟩
theorem pe_lst (h : PA X es t) : PE X (.List es pos) (tLst t) := by
  intro pins s σ H Q I hq
  refine wpAny_List_spliced (thn (h pos pins s σ H _ I hq) fun us s1 ⟨xs, H1, I1, r, z, q⟩ => ⟨by rw [← r.length]; exact z, ?_⟩)
  have hf : H1 s1.heap.objs.size = none := I1.hok.fresh (Nat.le_refl _)
  refine ⟨.ref s1.heap.objs.size, upd H1 s1.heap.objs.size (.lst xs), I1.laid (t' := s1.toks) (fun b u e => Heap.get?_push_of_some _ e) (Nat.le_refl _) ?_, rfl, q _ hf⟩
  exact ⟨z, us, 0, r, Heap.get?_push_size _ rfl⟩
end
/-- a def's promise: the bound arguments in the parameters' order, the heap, the wanted end, the wanted exception -/
abbrev Sp := List V → Hp → VK → XK → Prop
/-- how an exception lies behind a call (file 08 gives it): the callers' frames, abstract heap and state ahead of the call, the wish, the exception, the state -/
abbrev CXT := List Env → Hp → Shared → XK → Value → Shared → Prop
/-- the state at a call -/
structure Env0 (P : Program) (w : World) (K : PySem.W.Frag) (mg : Str → Option Value) (base : Heap) (A : Around) (outer : List Env) (s : Shared) (H : Hp) : Prop where
  frames : A.frames = some outer
  mod : Mod K mg base
  bs : ∀ b o, base.get? b = some o → s.heap.get? b = some o ∧ H b = none
  bsz : base.objs.size ≤ s.heap.objs.size
  funs : s.heap.FunFrames base outer
  frf : ∀ b ∈ frs outer, H b = none
  hok : HOk P w H s.heap
  bare : AllBare s.gens
/-- a call's end -/
def CE (outer : List Env) (P : Program) (w : World) (H : Hp) (s : Shared) (Q : VK) (u : Value) (s' : Shared) : Prop :=
  ∃ v H', s'.os = s.os ∧ AllBare s'.gens ∧ Un (frs outer) [] H H' s.heap s'.heap ∧ HOk P w H' s'.heap ∧ RelV v u ∧ Q v H'
def CR (CX : CXT) (outer : List Env) (P : Program) (w : World) (H : Hp) (s : Shared) (Q : VK) (E : XK) (r : Result) (s' : Shared) : Prop :=
  match r with
  | .ok (.ret u) => CE outer P w H s Q u s'
  | .ok _ => False
  | .error e => CX outer H s E e s'
structure FnOk (P : Program) (w : World) (K : PySem.W.Frag) (mg : Str → Option Value) (base : Heap) (CX : CXT) (k : Nat) (f : Addr) (fd : FuncData) (ps : List Str) (sp : Sp) : Prop where
  len : ∀ vs H Q E, sp vs H Q E → vs.length = ps.length
  run : ∀ (A : Around) (outer : List Env) (s : Shared) (H : Hp) (args : Args) (us : List Value) (vs : List V) (Q : VK) (E : XK), Room k A → Env0 P w K mg base A outer s H → BindsTo s fd args (ps.zip us) → Vals vs us → sp vs H Q E →
    codeAny (model P w) A (.call (.ref f) args) (CR CX outer P w H s Q E) s
theorem FnOk.mono {P : Program} {w : World} {K : PySem.W.Frag} {mg : Str → Option Value} {base : Heap} {CX : CXT} {j k : Nat} {f : Addr} {fd : FuncData} {ps : List Str} {sp : Sp} (F : FnOk P w K mg base CX j f fd ps sp) (h : j ≤ k) :
    FnOk P w K mg base CX k f fd ps sp := ⟨F.len, fun A outer s H args us vs Q E hr => F.run A outer s H args us vs Q E (hr.mono h)⟩
/-- a weaker promise -/
theorem FnOk.imp {P : Program} {w : World} {K : PySem.W.Frag} {mg : Str → Option Value} {base : Heap} {CX : CXT} {k : Nat} {f : Addr} {fd : FuncData} {ps : List Str} {sp sp' : Sp} (F : FnOk P w K mg base CX k f fd ps sp)
    (h : ∀ vs H Q E, sp' vs H Q E → sp vs H Q E) : FnOk P w K mg base CX k f fd ps sp' :=
  ⟨fun vs H Q E q => F.len vs H Q E (h _ _ _ _ q), fun A outer s H args us vs Q E hr he hb hv hs => F.run A outer s H args us vs Q E hr he hb hv (h _ _ _ _ hs)⟩
theorem Env0.in1 {P : Program} {w : World} {K : PySem.W.Frag} {mg : Str → Option Value} {base : Heap} {A : Around} {outer : List Env} {s : Shared} {H : Hp} (e : Env0 P w K mg base A outer s H) :
    Env0 P w K mg base A.in1 outer s H := ⟨e.frames, e.mod, e.bs, e.bsz, e.funs, e.frf, e.hok, e.bare⟩
section
variable {X : Cx} {pins : List (Addr × Obj)} {σ : St} {H : Hp} {s s' : Shared}
/-- from a body: what a callee wants -/
theorem Inv.env0 (I : Inv X pins σ H s) : Env0 X.prog X.w X.K X.mg X.base X.A X.stack s H :=
  ⟨I.ok.frames, I.ok.mod, I.bs, Nat.le_trans I.ok.bsz I.sz, I.stack, I.stkFree, I.hok, I.bare⟩
/-- behind a call -/
theorem Inv.after {Q : VK} {u : Value} (I : Inv X pins σ H s) (h : CE X.stack X.prog X.w H s Q u s') : EP X pins σ Q u s' := by
  obtain ⟨v, H', os, bare, un, hok, r, q⟩ := h
  obtain ⟨hh, g, d, t, os'⟩ := s'
  obtain rfl : os' = s.os := os
  exact ⟨v, H', I.call (h' := hh) (g' := g) (d' := d) (t' := t) (ch := []) un hok bare (fun b z => absurd z (by simp)), r, q⟩
end
/-- f(..): the written arguments, then the defaults dvs; E: what is wanted of an exception -/
def tCall (sp : Sp) (dvs : List V) (E : XK) (t : TA) : TE := fun σ H Q => t σ H fun vs H1 => sp (vs ++ dvs) H1 Q E
/-- how the parameters are bound: us the positional arguments, kw the keywords' values by name, ds the defaults that fill up -/
def Binds (K : PySem.W.Frag) (fd : FuncData) (ps : List Str) (ds : List Value) : Prop :=
  ∀ (s : Shared) (us : List Value), K.In s.heap → (us ++ ds).length = ps.length → BindsTo s fd ⟨us, []⟩ (ps.zip (us ++ ds))
/-- every parameter is given -/
theorem Binds.all {K : PySem.W.Frag} {fd : FuncData} {ps : List Str} (h : ∀ us : List Value, us.length = ps.length → bindArgs fd ⟨us, []⟩ = pure (ps.zip us)) : Binds K fd ps [] := fun s us _ hl => by
  rw [List.append_nil] at hl ⊢
  exact .of_eq (h us hl)
/-- an exception of a callee reaches what this body wants of exceptions -/
def Passes (CX : CXT) (X : Cx) (E : XK) : Prop := ∀ (pins : List (Addr × Obj)) (σ : St) (H : Hp) (s : Shared) (e : Value) (s' : Shared), Inv X pins σ H s → CX X.stack H s E e s' → X.xe e s'
section
variable {X : Cx} {CX : CXT} {k : Nat} {f C : Addr} {fd : FuncData} {ps : List Str} {sp : Sp} {dvs : List V} {ds : List Value} {E : XK} {x m : Str} {p pos apos : Pos} {e o : Expr} {es : List Expr} {ta : TE} {t : TA}
/-- the callee runs -/
theorem run_fn {pins : List (Addr × Obj)} {σ : St} {H : Hp} {s : Shared} {Q : VK} {us : List Value} {vs : List V} (F : FnOk X.prog X.w X.K X.mg X.base CX k f fd ps sp) (hr : Room k X.A) (hb : Binds X.K fd ps ds) (hd : Vals dvs ds) (hx : Passes CX X E)
    (I : Inv X pins σ H s) (r : Vals vs us) (h : sp (vs ++ dvs) H Q E) : wpAny (model X.prog X.w) X.A (call (.ref f) us) (EP X pins σ Q) X.xe s := by
  have r2 : Vals (vs ++ dvs) (us ++ ds) := r.append hd
  have hl : (us ++ ds).length = ps.length := by rw [← r2.length]; exact F.len _ _ _ _ h
  refine wpAny_call (codeAny_mono (F.run X.A X.stack s H ⟨us, []⟩ (us ++ ds) (vs ++ dvs) Q E hr I.env0 (hb s us I.kIn hl) r2 h) fun r s' hq => ?_)
  cases r with
  | error e => exact hx pins σ H s e s' I hq
  | ok fl =>
    cases fl with
    | ret u => exact I.after hq
    | next => exact False.elim hq
    | brk => exact False.elim hq
    | cont => exact False.elim hq
theorem pe_call (F : FnOk X.prog X.w X.K X.mg X.base CX k f fd ps sp) (hr : Room k X.A) (hg : Gl X x) (hm : X.mg x = some (.ref f)) (hk : PySem.W.keepIn X.K (.ref f) = true) (hb : Binds X.K fd ps ds) (hd : Vals dvs ds) (hx : Passes CX X E)
    (ha : PA X (e :: es) t) (hdb : (x == ("__debug__" : Str)) = false := by decide) (he : starEach (e :: es) X.env = (false, eval e X.env) :: starEach es X.env := by rfl) (hpl : (backTo pos (starEach es X.env)).any (·.1) = false := by rfl) :
    PE X (.Call (.Name x p) (e :: es) [] pos) (tCall sp dvs E t) := by
  intro pins s σ H Q I h
  refine wpAny_Call_Name_kw (ld_glob I hg hm ?_ hdb)
  refine PySem.W.callWith_K (h₀ := X.base) I.ok.mod.kin hk (thn (ha pos pins s σ H _ I h) fun us s1 ⟨vs, H1, I1, r, q⟩ => ⟨I1.kIn, ?_⟩) he hpl
  exact run_fn F hr hb hd hx I1 r q
end
/-- the values of the keywords, from the left -/
def PK (X : Cx) (kws : List Keyword) (t : TA) : Prop :=
  ∀ (pos : Pos) (pins : List (Addr × Obj)) (s : Shared) (σ : St) (H : Hp) (Q : List V → Hp → Prop), Inv X pins σ H s → t σ H Q → wpAny (model X.prog X.w) X.A (evalAll ((backToKw pos (keywordEach kws X.env)).map (·.2))) (AP X pins σ Q) X.xe s
section
variable {X : Cx} {CX : CXT} {k : Nat} {f C : Addr} {fd : FuncData} {ps ks : List Str} {sp : Sp} {E : XK} {x m : Str} {p pos apos kpos : Pos} {e o : Expr} {es : List Expr} {kws : List Keyword} {te ta : TE} {t tk : TA} {nm : Option Str}
theorem pk_nil : PK X [] tNil := fun _ _ _ _ H Q I h => wpAny_evalAll_nil ⟨[], H, I, .nil, h⟩
theorem pk_cons (ha : PE X e te) (hr : PK X kws t) : PK X (⟨nm, e, kpos⟩ :: kws) (tCons te t) := by
  intro pos pins s σ H Q I h
  show wpAny _ _ (evalAll ((do let v ← eval e X.env; standAt pos; pure v) :: (backToKw pos (keywordEach kws X.env)).map (·.2))) _ _ s
  refine wpAny_evalAll_cons (wpAny_bind (thn (ha pins s σ H _ I h) fun u s1 ⟨x, H1, I1, r1, q1⟩ => wpAny_bind (wpAny_standAt (wpAny_pure ?_))))
  exact thn (hr pos pins s1 σ H1 _ I1 q1) fun us s2 ⟨xs, H2, I2, r2, q2⟩ => ⟨x :: xs, H2, I2, .cons r1 r2, q2⟩
/-- how a call with keywords binds: g puts the positional values us and the keywords' values ws (names ks) in the parameters' order, defaults among them -/
structure KBinds (K : PySem.W.Frag) (fd : FuncData) (ps ks : List Str) (g : List Value → List Value → List Value) (gV : List V → List V → List V) : Prop where
  to : ∀ (s : Shared) (us ws : List Value), K.In s.heap → (g us ws).length = ps.length → BindsTo s fd ⟨us, ks.zip ws⟩ (ps.zip (g us ws))
  rel : ∀ {vs : List V} {us : List Value} {zs : List V} {ws : List Value}, Vals vs us → Vals zs ws → Vals (gV vs zs) (g us ws)
def tCallK (sp : Sp) (gV : List V → List V → List V) (E : XK) (t tk : TA) : TE := fun σ H Q => t σ H fun vs H1 => tk σ H1 fun zs H2 => sp (gV vs zs) H2 Q E
variable {g : List Value → List Value → List Value} {gV : List V → List V → List V}
theorem run_fnk {pins : List (Addr × Obj)} {σ : St} {H : Hp} {s : Shared} {Q : VK} {us ws : List Value} {vs zs : List V} (F : FnOk X.prog X.w X.K X.mg X.base CX k f fd ps sp) (hr : Room k X.A) (hb : KBinds X.K fd ps ks g gV) (hx : Passes CX X E)
    (I : Inv X pins σ H s) (r : Vals vs us) (rz : Vals zs ws) (h : sp (gV vs zs) H Q E) : wpAny (model X.prog X.w) X.A (call (.ref f) us (ks.zip ws)) (EP X pins σ Q) X.xe s := by
  have r2 := hb.rel r rz
  have hl : (g us ws).length = ps.length := by rw [← r2.length]; exact F.len _ _ _ _ h
  refine wpAny_call (codeAny_mono (F.run X.A X.stack s H ⟨us, ks.zip ws⟩ (g us ws) (gV vs zs) Q E hr I.env0 (hb.to s us ws I.kIn hl) r2 h) fun r s' hq => ?_)
  cases r with
  | error e => exact hx pins σ H s e s' I hq
  | ok fl =>
    cases fl with
    | ret u => exact I.after hq
    | next => exact False.elim hq
    | brk => exact False.elim hq
    | cont => exact False.elim hq
/-- f(e, .., k = v, ..) -/
theorem pe_callK (F : FnOk X.prog X.w X.K X.mg X.base CX k f fd ps sp) (hr : Room k X.A) (hg : Gl X x) (hm : X.mg x = some (.ref f)) (hk : PySem.W.keepIn X.K (.ref f) = true) (hb : KBinds X.K fd ps ks g gV) (hx : Passes CX X E)
    (ha : PA X (e :: es) t) (hkw : PK X kws tk) (hall : (backToKw pos (keywordEach kws X.env)).all (·.1.isSome) = true := by rfl) (hks : (backToKw pos (keywordEach kws X.env)).filterMap (·.1) = ks := by rfl)
    (hdb : (x == ("__debug__" : Str)) = false := by decide) (he : starEach (e :: es) X.env = (false, eval e X.env) :: starEach es X.env := by rfl)
    (hpl : ((backTo pos (starEach (e :: es) X.env)).any (·.1) || (backToKw pos (keywordEach kws X.env)).any (·.1.isNone)) = false := by rfl) :
    PE X (.Call (.Name x p) (e :: es) kws pos) (tCallK sp gV E t tk) := by
  intro pins s σ H Q I h
  refine wpAny_Call_Name_kw (ld_glob I hg hm ?_ hdb)
  refine PySem.W.callWith_KW (h₀ := X.base) I.ok.mod.kin hk hall (thn (ha pos pins s σ H _ I h) fun us s1 ⟨vs, H1, I1, r, q⟩ => ?_) hpl he
  refine thn (hkw pos pins s1 σ H1 _ I1 q) fun ws s2 ⟨zs, H2, I2, rz, q2⟩ => ⟨I2.kIn, ?_⟩
  rw [hks]
  exact run_fnk F hr hb hx I2 r rz q2
end
/-- names: the parameters first -/
structure FnScope (N P : List Str) (sc : Scope) : Prop where
  kind : sc.kind = .function
  co : sc.isCoroutine = false
  gen : sc.isGenerator = false
  nd : N.Nodup
  pre : N.take P.length = P
  par : ∀ x ∈ P, sc.names.lookup x = some .local ∨ sc.names.lookup x = some .cell
  nofree : ∀ y ∈ sc.names, y.2 ≠ .free
theorem bindL_out {kindOf : Str → Option NameKind} {x : Str} : ∀ {binds : List (Str × Value)} {m : Str → Option Value}, (∀ v, (x, v) ∉ binds) → bindL kindOf binds m x = m x
  | [], _, _ => rfl
  | (n, v) :: r, m, h => by
    unfold bindL
    rw [bindL_out fun w hw => h w (List.mem_cons_of_mem _ hw)]
    split
    · have : x ≠ n := by rintro rfl; exact h v List.mem_cons_self
      simp [this]
    · rfl
theorem bindC_out {kindOf : Str → Option NameKind} {x : Str} : ∀ {binds : List (Str × Value)} {m : Str → Option Value}, (∀ v, (x, v) ∉ binds) → bindC kindOf binds m x = m x
  | [], _, _ => rfl
  | (n, v) :: r, m, h => by
    unfold bindC
    rw [bindC_out fun w hw => h w (List.mem_cons_of_mem _ hw)]
    split
    · rfl
    · have : x ≠ n := by rintro rfl; exact h v List.mem_cons_self
      simp [this]
theorem bindL_get {kindOf : Str → Option NameKind} {x : Str} {v : Value} : ∀ {P : List Str} {vs : List Value} {i : Nat} {m : Str → Option Value}, P.Nodup → P[i]? = some x → vs[i]? = some v → kindOf x = some .local →
    bindL kindOf (P.zip vs) m x = some v
  | [], _, _, _, _, h, _, _ => by simp at h
  | _ :: _, [], _, _, _, _, h, _ => by simp at h
  | p :: P, w :: vs, 0, m, nd, h1, h2, hk => by
    simp at h1 h2; subst h1; subst h2
    show bindL kindOf ((p, w) :: P.zip vs) m p = _
    unfold bindL
    rw [bindL_out fun v hv => (List.nodup_cons.mp nd).1 (List.of_mem_zip hv).1, if_pos hk]
    simp
  | p :: P, w :: vs, i + 1, m, nd, h1, h2, hk => by
    show bindL kindOf ((p, w) :: P.zip vs) m x = _
    unfold bindL
    exact bindL_get (i := i) (List.nodup_cons.mp nd).2 (by simpa using h1) (by simpa using h2) hk
theorem bindC_get {kindOf : Str → Option NameKind} {x : Str} {v : Value} : ∀ {P : List Str} {vs : List Value} {i : Nat} {m : Str → Option Value}, P.Nodup → P[i]? = some x → vs[i]? = some v → kindOf x ≠ some .local →
    bindC kindOf (P.zip vs) m x = some v
  | [], _, _, _, _, h, _, _ => by simp at h
  | _ :: _, [], _, _, _, _, h, _ => by simp at h
  | p :: P, w :: vs, 0, m, nd, h1, h2, hk => by
    simp at h1 h2; subst h1; subst h2
    show bindC kindOf ((p, w) :: P.zip vs) m p = _
    unfold bindC
    rw [bindC_out fun v hv => (List.nodup_cons.mp nd).1 (List.of_mem_zip hv).1, if_neg hk]
    simp
  | p :: P, w :: vs, i + 1, m, nd, h1, h2, hk => by
    show bindC kindOf ((p, w) :: P.zip vs) m x = _
    unfold bindC
    exact bindC_get (i := i) (List.nodup_cons.mp nd).2 (by simpa using h1) (by simpa using h2) hk
/-- the names' values at the entry -/
def start (N : List Str) (vs : List V) : St := vs.map some ++ List.replicate (N.length - vs.length) none
/-- the context of a def's body, at its entry; an exception leaves the frame, then lies as CX says -/
def cxOf (CX : CXT) (P : Program) (w : World) (K : PySem.W.Frag) (mg : Str → Option Value) (base : Heap) (N : List Str) (qual : Str) (scope : Scope) (f : Addr) (cd : Value) (A : Around) (outer : List Env) (s : Shared) (H : Hp) (E : XK) : Cx where
  prog := P
  w := w
  K := K
  mg := mg
  base := base
  A := A.deeper (envOfC qual scope s.heap.objs.size f cd)
  N := N
  s_0 := s
  H_0 := H
  env := envOfC qual scope s.heap.objs.size f cd
  outer := outer
  stack := envOfC qual scope s.heap.objs.size f cd :: outer
  ex := []
  calm := true
  fn := fun _ => true
  pn := []
  xe := fun e s' => wpAny (model P w) (A.deeper (envOfC qual scope s.heap.objs.size f cd)) (leaving (envOfC qual scope s.heap.objs.size f cd) e) (fun _ s'' => CX outer H s E e s'') (fun e' s'' => CX outer H s E e' s'') s'
theorem cell_has {sc : Scope} {n : Nat} {x : Str} (h : sc.names.lookup x = some .cell) : ∃ c, (cellsFrom n sc.names []).lookup x = some c := by
  have q := PySem.W.cellsFrom_some sc.names n [] (.inl h)
  exact Option.isSome_iff_exists.mp q
theorem inv_start {CX : CXT} {P : Program} {w : World} {K : PySem.W.Frag} {mg : Str → Option Value} {base : Heap} {N ps : List Str} {qual : Str} {scope : Scope} {f : Addr} {cd : Value} {A : Around} {outer : List Env} {s s1 : Shared} {H : Hp} {E : XK} {us : List Value} {vs : List V}
    (S : FnScope N ps scope) (hd : A.handled = none) (e0 : Env0 P w K mg base A outer s H) (hl : vs.length = ps.length) (r : Vals vs us)
    (x : InCallC s s.heap.objs.size (bindL (envOfC qual scope s.heap.objs.size f cd).kindOf (ps.zip us) fun _ => none) (cellsFrom (s.heap.objs.size + 1) scope.names []) (bindC (envOfC qual scope s.heap.objs.size f cd).kindOf (ps.zip us) fun _ => none) s1) :
    Inv (cxOf CX P w K mg base N qual scope f cd A outer s H E) [] (start N vs) H s1 := by
  have hpl : ps.length ≤ N.length := by have := congrArg List.length S.pre; rw [List.length_take] at this; omega
  obtain ⟨h1, tk, rfl, hk⟩ := x.done
  have noA : ∀ b : Addr, b ∉ (cxOf CX P w K mg base N qual scope f cd A outer s H E).ex := fun b z => absurd (show b ∈ ([] : List Addr) from z) (by simp)
  refine ⟨⟨e0.mod, S.kind, rfl, rfl, Nat.le_refl _, fun y z c h1 h2 => ?_, fun y hy => ?_, fun y c _ h => ?_, fun _ => hd, Around.frames_deeper e0.frames, .inr ⟨rfl, rfl⟩, fun b z => absurd z (noA b), e0.bs, e0.bsz, fun b _ _ => noA b, fun b z => absurd z (noA b), e0.funs, e0.frf⟩,
    rfl, e0.bare, Un.kept hk, ⟨_, x.toInCall.ns, fun i y v h1 h2 h3 => ?_⟩, fun y c h => ⟨_, x.cell y c h⟩, e0.hok.fresh (Nat.le_refl _), fun y c h => ?_, fun p hp => absurd (show p ∈ ([] : List (Addr × Obj)) from hp) (by simp), e0.hok.kept hk, ?_⟩
  · exact name_of_addr x.apart (PySem.mem_of_lookup h1) (PySem.mem_of_lookup h2)
  · have hy : scope.names.lookup y = some .cell ∨ scope.names.lookup y = some .free := hy
    rcases hy with hy | hy
    · exact cell_has hy
    · exact absurd rfl (S.nofree _ (PySem.mem_of_lookup hy))
  · exact Nat.le_of_lt (x.above y c (PySem.mem_of_lookup h))
  · have hi : i < vs.length := by
      unfold start at h2
      by_cases hi : i < vs.length
      · exact hi
      · rw [List.getElem?_append_right (by simpa using hi)] at h2
        rw [List.getElem?_replicate] at h2
        split at h2 <;> cases h2
    have ha : vs[i]? = some v := by
      unfold start at h2
      rw [List.getElem?_append_left (by simpa using hi), List.getElem?_map] at h2
      cases e : vs[i]? with
      | none => rw [e] at h2; cases h2
      | some a => rw [e] at h2; cases h2; rfl
    obtain ⟨u, hu, rv⟩ := r.get ha
    have hp : ps[i]? = some y := by
      rw [← S.pre, List.getElem?_take_of_lt (by omega)]; exact h1
    have ndP : ps.Nodup := by rw [← S.pre]; exact S.nd.sublist (List.take_sublist _ _)
    refine ⟨u, rv, ?_⟩
    rcases S.par y (List.mem_of_getElem? hp) with k | k
    · exact .inl ⟨k, bindL_get ndP hp hu k⟩
    · obtain ⟨c, e⟩ := cell_has (n := s.heap.objs.size + 1) k
      refine .inr ⟨.inl k, c, e, ?_⟩
      have q := x.cell y c e
      rw [bindC_get ndP hp hu (by show scope.names.lookup y ≠ _; rw [k]; decide)] at q
      exact q
  · exact e0.hok.fresh (Nat.le_of_lt (x.above y c (PySem.mem_of_lookup h)))
  · unfold start
    show _ = N.length
    rw [List.length_append, List.length_map, List.length_replicate]
    omega
/-- THE RULE: a def (or a method) of the text, by its body. The body's reading t is chosen for each entry; it is run at the parameters' values -/
theorem fn_of {CX : CXT} {P : Program} {w : World} {K : PySem.W.Frag} {mg : Str → Option Value} {base : Heap} {k : Nat} {f : Addr} {name qual : Str} {params : Arguments} {body : List Stmt} {scope : Scope} {dV kV doc pm cdv ct oc : Value} {an od : Option Addr}
    {osl : Array (Option Value)} {N ps : List Str} {sp : Sp} (lk : K.lookup f = some ⟨oc, od, .func (PySem.W.fnOf name qual params body scope dV kV doc pm an cdv ct), osl⟩) (hcd : PySem.W.codeIn K cdv qual = true) (S : FnScope N ps scope)
    (len : ∀ vs H Q E, sp vs H Q E → vs.length = ps.length)
    (hbody : ∀ (A : Around) (outer : List Env) (s : Shared) (H : Hp) (vs : List V) (Q : VK) (E : XK), Room k (A.deeper (envOfC qual scope s.heap.objs.size f cdv)) → sp vs H Q E →
      ∃ t, PSs (cxOf CX P w K mg base N qual scope f cdv A outer s H E) body t ∧ t { nx := fun _ H' => Q .non H', rt := Q } (start N vs) H) :
    FnOk P w K mg base CX (k + 1) f (PySem.W.fnOf name qual params body scope dV kV doc pm an cdv ct) ps sp := by
  refine ⟨len, fun A outer s H args us vs Q E hr e0 hb r hsp => ?_⟩
  have hl := len _ _ _ _ hsp
  have KX : K.In s.heap := e0.mod.kin.keeps fun b o e => (e0.bs b o e).1
  have lim : s.heap.NoLimit := e0.mod.nolimit.keeps fun b o e => (e0.bs b o e).1
  have hkind : ∀ y ∈ ps.zip us, scope.names.lookup y.1 = some .local ∨ (scope.names.lookup y.1 = some .cell ∧ ((cellsFrom (s.heap.objs.size + 1) scope.names []).lookup y.1).isSome = true) := fun ⟨n, v⟩ hy => by
    rcases S.par n (List.of_mem_zip hy).1 with q | q
    · exact .inl q
    · exact .inr ⟨q, PySem.W.cellsFrom_some _ _ _ (.inl q)⟩
  refine codeAny_call_function hr.depth (KX _ _ lk) rfl S.co S.gen rfl (PySem.W.codeRec_of KX hcd) (hb _ _ _ _ ?_)
  refine wpAny_newFunctionEnv_cells S.kind hkind fun env he s1 x => ?_
  subst he
  refine ⟨lim.keeps x.toInCall.keep, codeAny_func ?_⟩
  obtain ⟨t, ht, hq⟩ := hbody A outer s H vs Q E (hr.deeper _) hsp
  have I : Inv (cxOf CX P w K mg base N qual scope f cdv A outer s H E) [] (start N vs) H s1 := inv_start S hr.hd e0 hl r x
  refine wpAny_mono (ht [] s1 (start N vs) H _ I hq) (fun fl s' hs => ?_) fun e s' hs => hs
  have fin : ∀ {σ' : St} {H' : Hp} {v : V} {u : Value}, Inv (cxOf CX P w K mg base N qual scope f cdv A outer s H E) [] σ' H' s' → RelV v u → Q v H' → CE outer P w H s Q u s' :=
    fun {σ' H' v u} J rv q => ⟨v, H', J.os, J.bare, J.base, J.hok, rv, q⟩
  cases fl with
  | ret u =>
    obtain ⟨v, σ', H', J, rv, q⟩ := hs
    exact fin J rv q
  | next =>
    obtain ⟨σ', H', J, q⟩ := hs
    exact fin (v := V.non) (u := Value.none) J rfl q
  | brk =>
    obtain ⟨_, _, _, q⟩ := hs
    exact False.elim q
  | cont =>
    obtain ⟨_, _, _, q⟩ := hs
    exact False.elim q
end L2
namespace L2
open PySem PySem.Spec PyProof.Rows
section
variable {X : Cx} {x : Str} {p pos : Pos} {e : Expr} {es : List Expr} {t : TA} {id T : String} {r : List V → Hp → VK → Prop}
def tCB (r : List V → Hp → VK → Prop) (t : TA) : TE := fun σ H Q => t σ H fun vs H1 => r vs H1 Q
/-- f(e, ..), f a built-in function -/
theorem pe_callB (hc : CallR X (.builtin id) r) (hg : Gl X x) (hm : X.mg x = none) (hv : bootBuiltins x = some (.builtin id)) (ha : PA X (e :: es) t) (hn : x ≠ "__name__" := by decide) (hdb : (x == ("__debug__" : Str)) = false := by decide)
    (he : starEach (e :: es) X.env = (false, eval e X.env) :: starEach es X.env := by rfl) (hpl : (backTo pos (starEach es X.env)).any (·.1) = false := by rfl) : PE X (.Call (.Name x p) (e :: es) [] pos) (tCB r t) := by
  intro pins s σ H Q I h
  refine wpAny_Call_Name_kw (ld_blt I hg hm hv ?_ hn hdb)
  exact PyProof.Rows.callWith_builtin1 (thn (ha pos pins s σ H _ I h) fun us s1 ⟨vs, H1, I1, r1, q1⟩ => hc pins s1 σ H1 vs us Q I1 r1 q1) he hpl
/-- T(e, ..), T a built-in type -/
theorem pe_callTy (hc : CallR X (.type T) r) (hg : Gl X x) (hm : X.mg x = none) (hv : bootBuiltins x = some (.type T)) (ha : PA X (e :: es) t) (hn : x ≠ "__name__" := by decide) (hdb : (x == ("__debug__" : Str)) = false := by decide)
    (he : starEach (e :: es) X.env = (false, eval e X.env) :: starEach es X.env := by rfl) (hpl : (backTo pos (starEach es X.env)).any (·.1) = false := by rfl) : PE X (.Call (.Name x p) (e :: es) [] pos) (tCB r t) := by
  intro pins s σ H Q I h
  refine wpAny_Call_Name_kw (ld_blt I hg hm hv ?_ hn hdb)
  exact PyProof.Rows.callWith_type1 (thn (ha pos pins s σ H _ I h) fun us s1 ⟨vs, H1, I1, r1, q1⟩ => hc pins s1 σ H1 vs us Q I1 r1 q1) he hpl
end
end L2
namespace HT
open PySem PyProof.Rows
section
open PySem.SeqAt
open PySem.AutoSeq1 (wpAny_loadPart')
open PySem.MeetsSeq PySem.MeetsSeq2 PySem.MeetsSeq3
end
section
variable {prog : Program} {w : World} {A : Around} {E : Value → Shared → Prop} {s : Shared}
/-- t + u, t not empty -/
theorem cat_tup {t b : Addr} {vs ws : List Value} {Q : Value → Shared → Prop} (ht : IsTup s.heap t vs.toArray) (hb : IsTup s.heap b ws.toArray) (hv : vs ≠ [])
    (h1 : ws = [] → Q (.ref t) s) (h2 : ws ≠ [] → Q (.ref s.heap.objs.size) { s with heap := s.heap.push { cls := .type "tuple", data := .seq (vs ++ ws).toArray } })
    (hsz : vs.length + ws.length ≤ sizeLine) : wpAny (model prog w) A (binaryOp .Add (.ref t) (.ref b)) Q E s := by
  obtain ⟨⟨cls, dd, data, sl⟩, ho, hc, n, hd⟩ := id ht
  obtain ⟨⟨cls2, dd2, data2, sl2⟩, ho2, hc2, n2, hd2⟩ := id hb
  simp only at hc hd hc2 hd2
  subst hc hd hc2 hd2
  have e : vs.toArray ++ ws.toArray = (vs ++ ws).toArray := by simp
  by_cases hw : ws = []
  · exact concat_meets ⟨_, ho, rfl⟩ ⟨_, ho2, rfl⟩ noFill_tuple_add seq_tuple_add PySem.F.slot_tuple_add PySem.F.entry_tuple_add (PySem.F.args_tuple_add_2 _ _)
      (tuple_addW1 t b vs.toArray ws.toArray n n2 dd dd2 sl sl2 (by simpa using hv) (by simp [hw])) ⟨ho, ho2, h1 hw⟩
  · refine concat_meets ⟨_, ho, rfl⟩ ⟨_, ho2, rfl⟩ noFill_tuple_add seq_tuple_add PySem.F.slot_tuple_add PySem.F.entry_tuple_add (PySem.F.args_tuple_add_2 _ _)
      (tuple_addW2 t b vs.toArray ws.toArray n n2 dd dd2 sl sl2 (by simpa using hv) (by simpa using hw) (by rw [List.size_toArray, List.size_toArray]; exact hsz)) ⟨ho, ho2, ?_⟩
    rw [e]
    exact h2 hw
/-- a slice's bound as a place among n (d where it is left out) -/
def sIx (n d : Nat) : Option Int → Nat
  | none => d
  | some v => if v < 0 then (v + (n : Int)).toNat else min v.toNat n
theorem sIx_none (n d : Nat) : sIx n d none = d := rfl
theorem sIx_le (n d : Nat) (hd : d ≤ n) (o : Option Int) : sIx n d o ≤ n := by
  cases o with
  | none => exact hd
  | some v =>
    show (if v < 0 then (v + (n : Int)).toNat else min v.toNat n) ≤ n
    by_cases hv : v < 0
    · rw [if_pos hv]; omega
    · rw [if_neg hv]; exact Nat.min_le_right _ _
theorem clip_eq (v : Int) (n d : Nat) : (if v < 0 then max (v + (n : Int)) 0 else min v (n : Int)) = ((sIx n d (some v) : Nat) : Int) := by
  show (if v < 0 then max (v + (n : Int)) 0 else min v (n : Int)) = (((if v < 0 then (v + (n : Int)).toNat else min v.toNat n) : Nat) : Int)
  by_cases hv : v < 0
  · simp only [if_pos hv]; omega
  · simp only [if_neg hv]; omega
theorem adjust_gen (lo hi : Option Int) (n : Nat) : Builtin.Slice.sliceAdjust lo hi 1 (n : Int) = (((sIx n 0 lo : Nat) : Int), ((sIx n n hi : Nat) : Int)) := by
  have h1 : ¬ ((1 : Int) < 0) := by omega
  unfold Builtin.Slice.sliceAdjust
  simp only [h1, if_false]
  refine Prod.ext ?_ ?_
  · cases lo with
    | none => rfl
    | some v => exact clip_eq v n 0
  · cases hi with
    | none => rfl
    | some v => exact clip_eq v n n
theorem places_gen (i j : Nat) : Builtin.Slice.slicePlaces (i : Int) (j : Int) 1 = j - i := by
  unfold Builtin.Slice.slicePlaces
  have h1 : (1 : Int) > 0 := by omega
  simp only [h1, if_true, Int.ediv_one]
  split <;> omega
theorem slicePart_ {v : Value} {o : Option Int} {Q : Option Int → Shared → Prop} (p : IsPart v o) (h : Q o s) : wpAny (model prog w) A (Builtin.Slice.slicePartIndex v) Q E s := by
  cases p with
  | none => exact slicePart_none h
  | int i t => exact slicePart_int h
theorem sliceApplied_gen {sl : Addr} {vl vu : Value} {lo hi : Option Int} {n : Nat} {Q : Int × Int × Nat → Shared → Prop} (hs : s.heap.IsSliceOf sl vl vu .none) (pl : IsPart vl lo) (pu : IsPart vu hi)
    (h : Q (((sIx n 0 lo : Nat) : Int), 1, sIx n n hi - sIx n 0 lo) s) : wpAny (model prog w) A (Builtin.Slice.sliceApplied (.ref sl) (pure (n : Int))) Q E s := by
  obtain ⟨os, hos, hcs, hds⟩ := id hs
  unfold Builtin.Slice.sliceApplied Builtin.Slice.sliceFields
  refine wpAny_bind (wpAny_bind (wpAny_field hos hds (x := vl) rfl (wpAny_bind (wpAny_field hos hds (x := vu) rfl (wpAny_bind (wpAny_field hos hds (x := .none) rfl (wpAny_pure ?_)))))))
  refine wpAny_bind (slicePart_none ?_)
  show wpAny _ _ (if ((1 : Int) == 0) = true then _ else _) _ _ s
  rw [if_neg (by decide)]
  refine wpAny_bind (slicePart_ pl (wpAny_bind (slicePart_ pu (wpAny_bind (wpAny_pure ?_)))))
  show wpAny _ _ (match Builtin.Slice.sliceAdjust lo hi 1 (n : Int) with | (lo, hi) => pure (lo, (1 : Int), Builtin.Slice.slicePlaces lo hi 1)) _ _ s
  rw [adjust_gen lo hi n]
  show wpAny _ _ (pure (((sIx n 0 lo : Nat) : Int), (1 : Int), Builtin.Slice.slicePlaces ((sIx n 0 lo : Nat) : Int) ((sIx n n hi : Nat) : Int) 1)) _ _ s
  rw [places_gen]
  exact wpAny_pure h
theorem pick_gen (xs : Array Value) (i k : Nat) : ((List.range k).filterMap fun (m : Nat) => xs[((i : Int) + (m : Int) * 1).toNat]?).toArray = ((xs.toList.drop i).take k).toArray := by
  have e : (fun (m : Nat) => xs[((i : Int) + (m : Int) * 1).toNat]?) = fun m => xs[i + m]? := by
    funext m
    have : ((i : Int) + (m : Int) * 1).toNat = i + m := by omega
    rw [this]
  rw [e]
  have := pick_run xs i k
  rw [List.filterMap_map] at this
  have e2 : ((fun x => xs[x]?) ∘ fun x => i + x) = fun m => xs[i + m]? := rfl
  rw [e2] at this
  rw [this]
theorem getItem_tuple_cut {t sl : Addr} {items : Array Value} {vl vu : Value} {lo hi : Option Int} {Q : Value → Shared → Prop} (ht : IsTup s.heap t items) (hs : s.heap.IsSliceOf sl vl vu .none) (pl : IsPart vl lo) (pu : IsPart vu hi)
    (hw : ¬ (sIx items.size 0 lo = 0 ∧ sIx items.size items.size hi = items.size))
    (h : Q (.ref s.heap.objs.size) { s with heap := s.heap.push { cls := .type "tuple", data := .seq ((items.toList.drop (sIx items.size 0 lo)).take (sIx items.size items.size hi - sIx items.size 0 lo)).toArray } })
    (hsz : items.size ≤ sizeLine) : wpAny (model prog w) A (getItem (.ref t) (.ref sl)) Q E s := by
  have htake : sizeOk (.seq ((items.toList.drop (sIx items.size 0 lo)).take (sIx items.size items.size hi - sIx items.size 0 lo)).toArray) := by
    show ((items.toList.drop (sIx items.size 0 lo)).take (sIx items.size items.size hi - sIx items.size 0 lo)).toArray.size ≤ sizeLine
    rw [List.size_toArray, List.length_take, List.length_drop, Array.length_toList]
    omega
  have hj : sIx items.size items.size hi ≤ items.size := sIx_le _ _ (Nat.le_refl _) hi
  obtain ⟨os, hos, hcs, hds⟩ := id hs
  have hTs : s.TypeIs (.ref sl) "slice" := ⟨os, hos, hcs⟩
  unfold getItem
  try with_reducible refine wpAny_holding ?_
  first | refine wpAny_bind (wpAny_pure ?_) | skip
  refine wpAny_bind (wpAny_sequenceKey ht.typeIs (by decide) ?_)
  refine wpAny_bind (wpAny_callSpecial?_slot (name := Str.ofString "__getitem__") ht.typeIs PyProof.Rows.slot_tuple_getitem
    (wpAny_call_entry PyProof.Rows.slot_tuple_getitem ht.typeIs entry_tuple_getitem ?_ (args_tuple_getitem _ _)))
  show wpAny _ _ (Builtin.Tuple.tupleItemsOf (.ref t) >>= _) _ _ s
  refine wpAny_bind (tupleItemsOf_ ht ?_)
  refine wpAny_bind (wpAny_typeOf hTs ?_)
  rw [if_pos (by decide)]
  refine wpAny_bind (sliceApplied_gen hs pl pu ?_)
  have hno : ¬ ((((sIx items.size 0 lo : Nat) : Int) == 0 && (1 : Int) == 1 && (sIx items.size items.size hi - sIx items.size 0 lo) == items.size) = true) := by
    intro q
    rw [Bool.and_eq_true, Bool.and_eq_true] at q
    have q1 : ((sIx items.size 0 lo : Nat) : Int) = 0 := eq_of_beq q.1.1
    have q2 : sIx items.size items.size hi - sIx items.size 0 lo = items.size := eq_of_beq q.2
    exact hw ⟨by omega, by omega⟩
  show wpAny _ _ (if (((sIx items.size 0 lo : Nat) : Int) == 0 && (1 : Int) == 1 && (sIx items.size items.size hi - sIx items.size 0 lo) == items.size) = true then _ else _) _ _ s
  rw [if_neg hno, pick_gen]
  first
    | exact wpAny_bind (m := Builtin.Tuple.tupleExact _) (wpAny_newObj_type (wpAny_pure ⟨_, rfl, wpAny_pure h⟩) htake)
    | exact wpAny_bind (m := Builtin.Tuple.tupleExact _) (wpAny_newObj_type (wpAny_bind (wpAny_pure (wpAny_pure ⟨_, rfl, wpAny_pure h⟩))) htake)
    | exact wpAny_bind (wpAny_bind (m := Builtin.Tuple.tupleExact _) (wpAny_newObj_type (wpAny_pure (wpAny_pure ⟨_, rfl, wpAny_pure h⟩)) htake))
    | exact wpAny_bind (wpAny_bind (m := Builtin.Tuple.tupleExact _) (wpAny_newObj_type (wpAny_pure ⟨_, rfl, wpAny_pure h⟩) htake))
end
end HT
namespace L2
open PySem PySem.Spec PyProof.Rows
abbrev TO := St → Hp → (Option Int → Hp → Prop) → Prop
/-- a slice's part (left out, or an int) -/
def PO (X : Cx) (e : Option Expr) (t : TO) : Prop :=
  ∀ (pins : List (Addr × Obj)) (s : Shared) (σ : St) (H : Hp) (Q : Option Int → Hp → Prop), Inv X pins σ H s → t σ H Q →
    wpAny (model X.prog X.w) X.A (evalPart e X.env) (fun u s' => ∃ o H', Inv X pins σ H' s' ∧ IsPart u o ∧ Q o H') X.xe s
def tNoPart : TO := fun _ H Q => Q none H
def tPart (t : TE) : TO := fun σ H Q => t σ H fun x H1 => ∃ i, x = .int i ∧ Q (some i) H1
section
variable {X : Cx} {e : Expr} {te : TE} {lo hi : Option Expr} {tl th : TO} {pos p2 : Pos}
theorem po_none : PO X none tNoPart := by
  intro pins s σ H Q I h
  rw [evalPart_none]
  exact wpAny_pure ⟨none, H, I, .none, h⟩
theorem po_some (h : PE X e te) : PO X (some e) (tPart te) := by
  intro pins s σ H Q I hw
  rw [evalPart_some]
  refine thn (h pins s σ H _ I hw) fun u s1 ⟨x, H1, I1, r1, q1⟩ => ?_
  obtain ⟨i, rfl, q⟩ := q1
  obtain ⟨t, rfl⟩ := r1
  exact ⟨some i, H1, I1, .int i t, q⟩
/-- what a slice of a value is, by values: the slice object stands at sl -/
def SlR (X : Cx) (r : V → Option Int → Option Int → Hp → VK → Prop) : Prop :=
  ∀ (pins : List (Addr × Obj)) (s : Shared) (σ : St) (H : Hp) (x : V) (v vl vu : Value) (lo hi : Option Int) (sl : Addr) (Q : VK), Inv X pins σ H s → RelV x v → s.heap.IsSliceOf sl vl vu .none → IsPart vl lo → IsPart vu hi → r x lo hi H Q →
    ∃ T id, typeLookup (.type T) "__getitem__" = pure (some (.builtin id)) ∧ s.TypeIs v T ∧ wpAny (model X.prog X.w) X.A (getItem v (.ref sl)) (EP X pins σ Q) X.xe s
theorem SlR.or {r r' : V → Option Int → Option Int → Hp → VK → Prop} (h : SlR X r) (h' : SlR X r') : SlR X (fun x lo hi H Q => r x lo hi H Q ∨ r' x lo hi H Q) := by
  intro pins s σ H x v vl vu lo hi sl Q I rx hs pl pu q
  rcases q with q | q
  · exact h pins s σ H x v vl vu lo hi sl Q I rx hs pl pu q
  · exact h' pins s σ H x v vl vu lo hi sl Q I rx hs pl pu q
def tSl (r : V → Option Int → Option Int → Hp → VK → Prop) (te : TE) (tl th : TO) : TE := fun σ H Q => te σ H fun x H1 => tl σ H1 fun l H2 => th σ H2 fun u H3 => r x l u H3 Q
/-- a[lo:hi], any a -/
theorem pe_slice {r : V → Option Int → Option Int → Hp → VK → Prop} (hr : SlR X r) (he : PE X e te) (hl : PO X lo tl) (hu : PO X hi th) : PE X (.Subscript e (.Slice lo hi none p2) pos) (tSl r te tl th) := by
  intro pins s σ H Q I h
  refine Subscript_ (thn (he pins s σ H _ I h) fun v s1 ⟨x, H1, I1, r1, q1⟩ => ?_)
  refine wpAny_Slice (thn (hl pins s1 σ H1 _ I1 q1) fun vl s2 ⟨l, H2, I2, pl, q2⟩ => thn (hu pins s2 σ H2 _ I2 q2) fun vu s3 ⟨u, H3, I3, pu, q3⟩ => ?_)
  rw [evalPart_none]
  refine wpAny_pure ?_
  have I4 : Inv X pins σ H3 { s3 with heap := s3.heap.push { cls := .type "slice", data := .fields #[vl, vu, .none] } } := I3.kept (t' := s3.toks) fun b ob q => Heap.get?_push_of_some _ q
  obtain ⟨T, id, hT, ht, hg⟩ := hr pins { s3 with heap := s3.heap.push { cls := .type "slice", data := .fields #[vl, vu, .none] } } σ H3 x v vl vu l u s3.heap.objs.size Q I4 r1 (Heap.IsSliceOf.new ..) pl pu q3
  show wpAny (model X.prog X.w) X.A (subscriptTail e (.Slice lo hi none p2) v (.ref s3.heap.objs.size)) (EP X pins σ Q) X.xe { s3 with heap := s3.heap.push { cls := .type "slice", data := .fields #[vl, vu, .none] } }
  exact tail_any (ops := [.ref s3.heap.objs.size, v]) ht hT hg (by with_unfolding_all rfl)
/-- the items of xs[lo:hi] -/
def cutV (xs : List V) (lo hi : Option Int) : List V := (xs.drop (HT.sIx xs.length 0 lo)).take (HT.sIx xs.length xs.length hi - HT.sIx xs.length 0 lo)
theorem cutV_length (xs : List V) (lo hi : Option Int) : (cutV xs lo hi).length ≤ xs.length := by
  unfold cutV
  rw [List.length_take, List.length_drop]
  omega
/-- t[lo:hi], not the whole of it (the whole would be t itself) -/
def rSlT (K : PySem.W.Frag) : V → Option Int → Option Int → Hp → VK → Prop := fun x lo hi H Q => ∃ a xs, x = .ref a ∧ SqT K H a xs ∧
  ¬ (HT.sIx xs.length 0 lo = 0 ∧ HT.sIx xs.length xs.length hi = xs.length) ∧ ∀ p, H p = none → Q (.ref p) (upd H p (.tup (cutV xs lo hi)))
theorem sl_tup : SlR X (rSlT X.K) := by
  intro pins s σ H x v vl vu lo hi sl Q I rx hs pl pu h
  obtain ⟨a, xs, rfl, hx, hw, q⟩ := h
  cases rx
  obtain ⟨its, r, ht, hz⟩ := I.tuple hx
  have hlen : its.toArray.size = xs.length := by rw [List.size_toArray]; exact r.length.symm
  refine ⟨"tuple", _, PyProof.Rows.slot_tuple_getitem.lookup, ht.typeIs, ?_⟩
  refine HT.getItem_tuple_cut ht hs pl pu (by rw [hlen]; exact hw) ?_ (by rw [hlen]; exact hz)
  rw [hlen]
  refine ⟨.ref s.heap.objs.size, _, I.laid (t' := s.toks) (o := .tup (cutV xs lo hi)) (fun b ob q => Heap.get?_push_of_some _ q) (Nat.le_refl _) ?_, rfl, q _ (I.hok.fresh (Nat.le_refl _))⟩
  exact ⟨Nat.le_trans (cutV_length xs lo hi) hz, _, (r.drop (HT.sIx xs.length 0 lo)).take (HT.sIx xs.length xs.length hi - HT.sIx xs.length 0 lo), IsTup.new _ _⟩
/-- t + u, t not empty: u empty gives t itself -/
def rCatT (K : PySem.W.Frag) : R2 := fun x y H Q => ∃ a b xs ys, x = .ref a ∧ y = .ref b ∧ SqT K H a xs ∧ SqT K H b ys ∧ xs ≠ [] ∧ xs.length + ys.length ≤ sizeLine ∧
  (ys = [] → Q (.ref a) H) ∧ (ys ≠ [] → ∀ p, H p = none → Q (.ref p) (upd H p (.tup (xs ++ ys))))
theorem Vals.nil_iff {xs : List V} {us : List Value} (r : Vals xs us) : us = [] ↔ xs = [] := by
  cases r with
  | nil => simp
  | cons _ _ => simp
theorem op_catT : OpR X (binaryOp .Add) (rCatT X.K) := by
  intro pins s σ H x y v u Q I rx ry h
  obtain ⟨a, b, xs, ys, rfl, rfl, ha, hb, hx, hz, q1, q2⟩ := h
  cases rx
  cases ry
  obtain ⟨its, r1, p1, _⟩ := I.tuple ha
  obtain ⟨its2, r2, p2, _⟩ := I.tuple hb
  refine HT.cat_tup p1 p2 (fun z => hx (r1.nil_iff.mp z)) (fun z => ⟨.ref a, H, I, rfl, q1 (r2.nil_iff.mp z)⟩) (fun z => ?_) (by rw [← r1.length, ← r2.length]; exact hz)
  refine ⟨.ref s.heap.objs.size, _, I.laid (t' := s.toks) (o := .tup (xs ++ ys)) (fun b ob q => Heap.get?_push_of_some _ q) (Nat.le_refl _) ?_, rfl, q2 (fun w => z (r2.nil_iff.mpr w)) _ (I.hok.fresh (Nat.le_refl _))⟩
  exact ⟨by rw [List.length_append]; exact hz, _, r1.append r2, IsTup.new _ _⟩
end
end L2
namespace L2
open PySem PySem.Spec PyProof.Rows
/-- the place that an index of any sign means -/
def ixN (n : Nat) (i : Int) : Option Nat := if 0 ≤ i then (if i < n then some i.toNat else none) else if -(n : Int) ≤ i then some (i + n).toNat else none
def atI {α : Type} (xs : List α) (i : Int) : Option α := (ixN xs.length i).bind fun j => xs[j]?
theorem ixN_seq {n : Nat} {i : Int} {j : Nat} (h : ixN n i = some j) : seqIndex? i n = some j ∧ j < n ∧ -(n : Int) ≤ i ∧ i < n := by
  unfold ixN at h
  by_cases h0 : 0 ≤ i
  · rw [if_pos h0] at h
    by_cases h1 : i < n
    · rw [if_pos h1] at h
      have e : i.toNat = j := Option.some.inj h
      exact ⟨by rw [seqIndex_of h0 h1, e], by omega, by omega, h1⟩
    · rw [if_neg h1] at h; cases h
  · rw [if_neg h0] at h
    by_cases h1 : -(n : Int) ≤ i
    · rw [if_pos h1] at h
      have e : (i + n).toNat = j := Option.some.inj h
      exact ⟨by rw [seqIndex_neg (by omega) h1, e], by omega, h1, by omega⟩
    · rw [if_neg h1] at h; cases h
theorem atI_get {α : Type} {xs : List α} {i : Int} {v : α} (h : atI xs i = some v) : ∃ j, seqIndex? i xs.length = some j ∧ xs[j]? = some v ∧ j < xs.length ∧ -(xs.length : Int) ≤ i ∧ i < xs.length := by
  unfold atI at h
  cases e : ixN xs.length i with
  | none => rw [e] at h; cases h
  | some j =>
    rw [e] at h
    obtain ⟨h1, h2, h3, h4⟩ := ixN_seq e
    exact ⟨j, h1, h, h2, h3, h4⟩
theorem atI_nat {α : Type} {xs : List α} {j : Nat} {v : α} (h : xs[j]? = some v) : atI xs (j : Int) = some v := by
  have hj : j < xs.length := (List.getElem?_eq_some_iff.mp h).1
  have e : ixN xs.length (j : Int) = some j := by
    unfold ixN
    rw [if_pos (by omega), if_pos (by omega)]; simp
  unfold atI; rw [e]; exact h
theorem atI_last {α : Type} (xs : List α) (v : α) : atI (xs ++ [v]) (-1) = some v := by
  have hl : (xs ++ [v]).length = xs.length + 1 := by simp
  have e : ixN (xs ++ [v]).length (-1) = some xs.length := by
    unfold ixN
    rw [hl, if_neg (by decide), if_pos (by omega)]
    congr 1
    omega
  unfold atI
  rw [e]
  show (xs ++ [v])[xs.length]? = some v
  simp
/-- what stands as an index of a plain subscript -/
def PlainIx (b : Expr) : Prop := ∀ o i, subscripted b false o i = operate [o, i] (getItem o i)
/-- a subscript by values -/
def IxR (X : Cx) (r : R2) : Prop :=
  ∀ (value slice : Expr) (pins : List (Addr × Obj)) (s : Shared) (σ : St) (H : Hp) (x y : V) (v u : Value) (Q : VK), Inv X pins σ H s → RelV x v → RelV y u → r x y H Q →
    subscripted slice false v u = operate [v, u] (getItem v u) → wpAny (model X.prog X.w) X.A (subscriptTail value slice v u) (EP X pins σ Q) X.xe s
/-- a call of a builtin's method by values: the receiver, the arguments -/
def MtR (X : Cx) (id : String) (r : V → List V → Hp → VK → Prop) : Prop :=
  ∀ (pins : List (Addr × Obj)) (s : Shared) (σ : St) (H : Hp) (x : V) (xs : List V) (v : Value) (us : List Value) (Q : VK), Inv X pins σ H s → RelV x v → Vals xs us → r x xs H Q →
    wpAny (model X.prog X.w) X.A (call (.builtin id) (v :: us)) (EP X pins σ Q) X.xe s
section
variable {X : Cx} {a b : Expr} {ta tb : TE} {pos : Pos}
theorem IxR.or {r r' : R2} (h : IxR X r) (h' : IxR X r') : IxR X (fun x y H Q => r x y H Q ∨ r' x y H Q) := by
  intro value slice pins s σ H x y v u Q I rx ry q hs
  rcases q with q | q
  · exact h value slice pins s σ H x y v u Q I rx ry q hs
  · exact h' value slice pins s σ H x y v u Q I rx ry q hs
theorem MtR.or {id : String} {r r' : V → List V → Hp → VK → Prop} (h : MtR X id r) (h' : MtR X id r') : MtR X id (fun x xs H Q => r x xs H Q ∨ r' x xs H Q) := by
  intro pins s σ H x xs v us Q I rx rs q
  rcases q with q | q
  · exact h pins s σ H x xs v us Q I rx rs q
  · exact h' pins s σ H x xs v us Q I rx rs q
/-- a[b] -/
theorem pe_ix {r : R2} (hr : IxR X r) (ha : PE X a ta) (hb : PE X b tb) (hs : PlainIx b) : PE X (.Subscript a b pos) (tOp r ta tb) := by
  intro pins s σ H Q I h
  exact Subscript_ (binT ha hb I h fun v u s2 x y H2 I2 rx ry q => hr a b pins s2 σ H2 x y v u Q I2 rx ry q (hs _ _))
def rIxL (K : PySem.W.Frag) : R2 := fun x y H Q => ∃ p xs i v, x = .ref p ∧ y = .int i ∧ SqL K H p xs ∧ atI xs i = some v ∧ Q v H
def rIxT (K : PySem.W.Frag) : R2 := fun x y H Q => ∃ p xs i v, x = .ref p ∧ y = .int i ∧ SqT K H p xs ∧ atI xs i = some v ∧ Q v H
def rIxS : R2 := fun x y H Q => ∃ z i c, x = .str z ∧ y = .int i ∧ z.length ≤ sizeLine ∧ atI z.cps.toList i = some c ∧ Q (.str ⟨#[c]⟩) H
theorem ix_list : IxR X (rIxL X.K) := by
  intro value slice pins s σ H x y v u Q I rx ry h hs
  obtain ⟨p, xs, i, z, rfl, rfl, hq, he, q⟩ := h
  cases rx
  obtain ⟨t, rfl⟩ := ry
  obtain ⟨its, r, pl, hz⟩ := I.list hq
  obtain ⟨j, h1, h2, h3, h4, h5⟩ := atI_get he
  obtain ⟨w, ew, rw'⟩ := r.get h2
  have hl := r.length
  have hn := line63
  have fin : EP X pins σ Q w s := ⟨z, H, I, rw', q⟩
  by_cases h0 : 0 ≤ i
  · have hj : i.toNat = j := by
      rw [seqIndex_of h0 h5] at h1
      exact Option.some.inj h1
    exact item_listR pl.isList h0 (by omega) (by rw [hj]; simpa using ew) fin hs
  · have hj : (i + (its.toArray.size : Int)).toNat = j := by
      rw [seqIndex_neg (by omega) h4] at h1
      rw [List.size_toArray, ← hl]
      exact Option.some.inj h1
    exact subscriptTail_builtinR (x := w) pl.isList.typeIs slot_list_getitem.lookup
      (wpAny_getItem_list_neg (Q := fun r s' => r = w ∧ EP X pins σ Q r s') pl.isList (by omega) (by rw [List.size_toArray] <;> omega) (by omega) (by rw [hj]; simpa using ew) ⟨rfl, fin⟩) hs
theorem ix_tup : IxR X (rIxT X.K) := by
  intro value slice pins s σ H x y v u Q I rx ry h hs
  obtain ⟨p, xs, i, z, rfl, rfl, hq, he, q⟩ := h
  cases rx
  obtain ⟨t, rfl⟩ := ry
  obtain ⟨its, r, pl, hz⟩ := I.tuple hq
  obtain ⟨j, h1, h2, h3, h4, h5⟩ := atI_get he
  obtain ⟨w, ew, rw'⟩ := r.get h2
  have hl := r.length
  have hn := line63
  have fin : EP X pins σ Q w s := ⟨z, H, I, rw', q⟩
  exact subscriptTail_builtinR (x := w) pl.typeIs slot_tuple_getitem.lookup
    (getItem_tuple (j := j) (Q := fun r s' => r = w ∧ EP X pins σ Q r s') pl (by omega) (by omega) (by rw [List.size_toArray, ← hl]; exact h1) (by simpa using ew) ⟨rfl, fin⟩) hs
theorem ix_str : IxR X rIxS := by
  intro value slice pins s σ H x y v u Q I rx ry h hs
  obtain ⟨z, i, c, rfl, rfl, hz, he, q⟩ := h
  obtain ⟨t, rfl⟩ := rx
  obtain ⟨t', rfl⟩ := ry
  obtain ⟨j, h1, h2, h3, h4, h5⟩ := atI_get he
  have hl : z.cps.toList.length = z.length := by simp [Str.length]
  rw [hl] at h1 h4 h5
  have hn := line63
  exact tail_any (typeIs_str s z t) slot_str_getitem.lookup (getItem_str (c := c) (by
    have e1 : decide (i < -(2 ^ 63 : Int)) = false := decide_eq_false (by omega)
    have e2 : decide (i ≥ 2 ^ 63) = false := decide_eq_false (by omega)
    rw [e1, e2, Bool.or_false]) (by rw [h1]; simpa using h2) ⟨.str ⟨#[c]⟩, H, I.tok _, ⟨_, rfl⟩, q⟩) hs
/-- the list's object behind a store -/
theorem mapSeq_set (its : List Value) (n j : Nat) (u : Value) : Obj.mapSeq (·.setIfInBounds j u) { cls := .type "list", data := .seq its.toArray n } = { cls := .type "list", data := .seq (its.set j u).toArray n } := by
  simp [Obj.mapSeq]
theorem Inv.lst {pins : List (Addr × Obj)} {σ : St} {H : Hp} {s : Shared} {p : Addr} {xs : List V} (I : Inv X pins σ H s) (h : H p = some (.lst xs)) :
    ∃ (its : List Value) (n : Nat), Vals xs its ∧ s.heap.get? p = some { cls := .type "list", data := .seq its.toArray n } ∧ xs.length ≤ sizeLine := by
  obtain ⟨z, its, n, r, e⟩ := I.hok p _ h
  exact ⟨its, n, r, e, z⟩
/-- the list at p is written by an update of its object -/
theorem Inv.lstUpd {pins : List (Addr × Obj)} {σ : St} {H : Hp} {s : Shared} {p : Addr} {xs ys : List V} {its its' : List Value} {n n' : Nat} {f : Obj → Obj} (I : Inv X pins σ H s) (h : H p = some (.lst xs))
    (ho : s.heap.get? p = some { cls := .type "list", data := .seq its.toArray n }) (hf : f { cls := .type "list", data := .seq its.toArray n } = { cls := .type "list", data := .seq its'.toArray n' }) (r : Vals ys its') (hz : ys.length ≤ sizeLine) (t : Nat) :
    Inv X pins σ (upd H p (.lst ys)) { s with heap := s.heap.update p f, toks := t } := by
  have e : (s.heap.update p f).get? p = some { cls := .type "list", data := .seq its'.toArray n' } := by
    rw [Heap.get?_update_self f ho (by rw [hf] <;> rfl), hf]
  refine I.write (x := p) (e := p) (by rw [h]; trivial) (.inl rfl) (fun b u hb q => (Heap.get?_update_other _ _ (Ne.symm hb)).trans q) ⟨_, e⟩ ?_
  exact ⟨hz, its', n', r, e⟩
def rSetL : V → V → V → Hp → (Hp → Prop) → Prop := fun o i v H Q => ∃ p xs k j, o = .ref p ∧ i = .int k ∧ H p = some (.lst xs) ∧ ixN xs.length k = some j ∧ Q (upd H p (.lst (xs.set j v)))
theorem set_list : PSet X rSetL := by
  intro pins s σ H o i v ov iv u Q I ro ri rv h
  obtain ⟨p, xs, k, j, rfl, rfl, hp, hj, q⟩ := h
  cases ro
  obtain ⟨t, rfl⟩ := ri
  obtain ⟨its, n, r, ho, hz⟩ := I.lst hp
  obtain ⟨h1, h2, h3, h4⟩ := ixN_seq hj
  have hl := r.length
  have hn := line63
  have I' : Inv X pins σ (upd H p (.lst (xs.set j v))) { s with heap := s.heap.update p (Obj.mapSeq (·.setIfInBounds j u)) } :=
    I.lstUpd hp ho (mapSeq_set its n j u) (r.set rv j) (by rw [List.length_set]; exact hz) s.toks
  by_cases h0 : 0 ≤ k
  · have hk : k.toNat = j := by
      rw [seqIndex_of h0 h4] at h1
      exact Option.some.inj h1
    exact PySem.W.ki_setAt ho h0 (by omega) (by rw [List.size_toArray, ← hl]; exact h4) (by rw [hk]; exact ⟨_, I', q⟩)
  · have hk : (k + (its.toArray.size : Int)).toNat = j := by
      rw [seqIndex_neg (by omega) h3] at h1
      rw [List.size_toArray, ← hl]
      exact Option.some.inj h1
    exact PySem.W.ki_setBack ho (by omega) (by rw [List.size_toArray, ← hl]; exact h3) (by omega) (by rw [hk]; exact ⟨_, I', q⟩)
theorem slice_bounds (lo hi : Option Int) (n : Nat) : (sliceBounds lo hi none n).1 = ((HT.sIx n 0 lo : Nat) : Int) ∧ (sliceBounds lo hi none n).2.1 = ((HT.sIx n n hi : Nat) : Int) ∧ (sliceBounds lo hi none n).2.2 = 1 := by
  refine ⟨?_, ?_, rfl⟩
  · cases lo with
    | none => simp [sliceBounds, HT.sIx]
    | some i =>
      simp only [sliceBounds, HT.sIx, Option.getD_none, show (1 : Int) > 0 by decide, if_true]
      by_cases h : i < 0
      · simp only [h, if_true] <;> omega
      · simp only [h, if_false] <;> omega
  · cases hi with
    | none => simp [sliceBounds, HT.sIx]
    | some i =>
      simp only [sliceBounds, HT.sIx, Option.getD_none, show (1 : Int) > 0 by decide, if_true]
      by_cases h : i < 0
      · simp only [h, if_true] <;> omega
      · simp only [h, if_false] <;> omega
theorem slicePick_cut (its : List Value) (lo hi : Option Int) : slicePick its.toArray lo hi none = ((its.drop (HT.sIx its.length 0 lo)).take (HT.sIx its.length its.length hi - HT.sIx its.length 0 lo)).toArray := by
  obtain ⟨h1, h2, h3⟩ := slice_bounds lo hi its.toArray.size
  unfold slicePick
  rw [h1, h2, h3]
  simp only [sliceRange_one, pick_run, List.size_toArray] <;> rfl
/-- xs[lo:hi] of a list: a new list -/
def rSlL (K : PySem.W.Frag) : V → Option Int → Option Int → Hp → VK → Prop := fun x lo hi H Q => ∃ a xs, x = .ref a ∧ SqL K H a xs ∧ ∀ p, H p = none → Q (.ref p) (upd H p (.lst (cutV xs lo hi)))
theorem sl_list : SlR X (rSlL X.K) := by
  intro pins s σ H x v vl vu lo hi sl Q I rx hs pl pu h
  obtain ⟨a, xs, rfl, hx, q⟩ := h
  cases rx
  obtain ⟨its, r, ht, hz⟩ := I.list hx
  have hlen := r.length
  refine ⟨"list", _, slot_list_getitem.lookup, ht.isList.typeIs, ?_⟩
  refine wpAny_getItem_list_slice ht.isList hs pl pu .none (by simp) ?_ (by rw [List.size_toArray] <;> omega)
  rw [slicePick_cut, ← hlen]
  refine ⟨.ref s.heap.objs.size, _, I.laid (t' := s.toks) (o := .lst (cutV xs lo hi)) (fun b ob q => Heap.get?_push_of_some _ q) (Nat.le_refl _) ?_, rfl, q _ (I.hok.fresh (Nat.le_refl _))⟩
  exact ⟨Nat.le_trans (cutV_length xs lo hi) hz, _, 0, (r.drop (HT.sIx xs.length 0 lo)).take (HT.sIx xs.length xs.length hi - HT.sIx xs.length 0 lo), Heap.get?_push_size _ rfl⟩
def flatV : V → Bool
  | .non => true
  | .bl _ => true
  | .int _ => true
  | .str _ => true
  | _ => false
/-- == of flat values -/
def eqV : V → V → Bool
  | .non, .non => true
  | .bl a, .bl b => a == b
  | .bl a, .int b => (if a then 1 else 0) == b
  | .int a, .bl b => a == (if b then 1 else 0)
  | .int a, .int b => a == b
  | .str a, .str b => a == b
  | _, _ => false
theorem eqAt_V {A : Around} {s : Shared} {y x : V} {u v : Value} (ry : RelV y u) (rx : RelV x v) (fy : flatV y = true) (fx : flatV x = true) : SeqAt.EqAt A s u v (eqV y x) := by
  cases y with
  | non =>
    cases ry
    cases x with
    | non => cases rx; exact SeqAt.EqAt.same _
    | bl b => cases rx; exact SeqAt.EqAt.none_bool b
    | int b => obtain ⟨t, rfl⟩ := rx; exact SeqAt.EqAt.none_int b t
    | str b => obtain ⟨t, rfl⟩ := rx; exact SeqAt.EqAt.none_str b t
    | _ => exact absurd (show false = true from fx) Bool.false_ne_true
  | bl a =>
    cases ry
    cases x with
    | non => cases rx; exact SeqAt.EqAt.bool_none a
    | bl b => cases rx; exact SeqAt.EqAt.bool_bool a b
    | int b => obtain ⟨t, rfl⟩ := rx; exact SeqAt.EqAt.bool_int a b t
    | str b => obtain ⟨t, rfl⟩ := rx; exact SeqAt.EqAt.bool_str a b t
    | _ => exact absurd (show false = true from fx) Bool.false_ne_true
  | int a =>
    obtain ⟨t', rfl⟩ := ry
    cases x with
    | non => cases rx; exact SeqAt.EqAt.int_none a t'
    | bl b => cases rx; exact SeqAt.EqAt.int_bool a t' b
    | int b => obtain ⟨t, rfl⟩ := rx; exact SeqAt.EqAt.int_int a t' b t
    | str b => obtain ⟨t, rfl⟩ := rx; exact SeqAt.EqAt.int_str a t' b t
    | _ => exact absurd (show false = true from fx) Bool.false_ne_true
  | str a =>
    obtain ⟨t', rfl⟩ := ry
    cases x with
    | non => cases rx; exact SeqAt.EqAt.str_none a t'
    | bl b => cases rx; exact SeqAt.EqAt.str_bool a t' b
    | int b => obtain ⟨t, rfl⟩ := rx; exact SeqAt.EqAt.str_int a t' b t
    | str b => obtain ⟨t, rfl⟩ := rx; exact SeqAt.EqAt.str_str a t' b t
    | _ => exact absurd (show false = true from fx) Bool.false_ne_true
  | _ => exact absurd (show false = true from fy) Bool.false_ne_true
/-- the items' answers, read off the values (a value's own answer does not lean on its token) -/
def eqU (x : V) (u : Value) : Bool := match u with
  | .none => eqV .non x
  | .bool b => eqV (.bl b) x
  | .int i _ => eqV (.int i) x
  | .str z _ => eqV (.str z) x
  | _ => false
theorem eqU_of {x y : V} {u : Value} (r : RelV y u) (f : flatV y = true) : eqU x u = eqV y x := by
  cases y with
  | non => cases r; rfl
  | bl b => cases r; rfl
  | int i => obtain ⟨t, rfl⟩ := r; rfl
  | str z => obtain ⟨t, rfl⟩ := r; rfl
  | _ => exact absurd (show false = true from f) Bool.false_ne_true
theorem any_eqU {x : V} : ∀ {xs : List V} {us : List Value}, Vals xs us → xs.all flatV = true → us.any (eqU x) = xs.any fun y => eqV y x
  | _, _, .nil, _ => rfl
  | y :: xs, u :: us, .cons r t, f => by
    rw [List.all_cons, Bool.and_eq_true] at f
    rw [List.any_cons, List.any_cons, eqU_of r f.1, any_eqU t f.2]
theorem mem_eqAt {A : Around} {s : Shared} {x : V} {v : Value} (rx : RelV x v) (fx : flatV x = true) : ∀ {xs : List V} {us : List Value}, Vals xs us → xs.all flatV = true → ∀ u ∈ us, SeqAt.EqAt A s u v (eqU x u)
  | _, _, .nil, _ => fun u hu => by cases hu
  | y :: xs, u :: us, .cons r t, f => fun u' hu => by
    rw [List.all_cons, Bool.and_eq_true] at f
    rcases List.mem_cons.mp hu with rfl | hu
    · rw [eqU_of r f.1]; exact eqAt_V r rx f.1 fx
    · exact mem_eqAt rx fx t f.2 u' hu
def inV (x : V) (xs : List V) : Bool := xs.any fun y => eqV y x
/-- x in a list or tuple of flat items -/
def rIn (K : PySem.W.Frag) (neg : Bool) : R2 := fun x y H Q => ∃ p xs, y = .ref p ∧ (SqL K H p xs ∨ SqT K H p xs) ∧ flatV x = true ∧ xs.all flatV = true ∧ Q (.bl (if neg then !inV x xs else inV x xs)) H
theorem op_in_seq : OpR X (compareOp .In) (rIn X.K false) := by
  intro pins s σ H x y v u Q I rx ry h
  obtain ⟨p, xs, rfl, hq, fx, fs, q⟩ := h
  cases ry
  rcases hq with hq | hq
  · obtain ⟨its, r, pl, hz⟩ := I.list hq
    refine SeqAt.in_listAt (eqU x) pl.isList (fun w hw => mem_eqAt rx fx r fs w (by simpa using hw)) ⟨.bl _, H, I, rfl, ?_⟩
    rw [show its.toArray.any (eqU x) = its.any (eqU x) by simp, any_eqU r fs]
    exact q
  · obtain ⟨its, r, pl, hz⟩ := I.tuple hq
    refine SeqAt.in_tupleAt (eqU x) pl (fun w hw => mem_eqAt rx fx r fs w (by simpa using hw)) ⟨.bl _, H, I, rfl, ?_⟩
    rw [show its.toArray.any (eqU x) = its.any (eqU x) by simp, any_eqU r fs]
    exact q
theorem op_notIn_seq : OpR X (compareOp .NotIn) (rIn X.K true) := by
  intro pins s σ H x y v u Q I rx ry h
  obtain ⟨p, xs, rfl, hq, fx, fs, q⟩ := h
  cases ry
  rcases hq with hq | hq
  · obtain ⟨its, r, pl, hz⟩ := I.list hq
    refine SeqAt.notIn_listAt (eqU x) pl.isList (fun w hw => mem_eqAt rx fx r fs w (by simpa using hw)) ⟨.bl _, H, I, rfl, ?_⟩
    rw [show its.toArray.any (eqU x) = its.any (eqU x) by simp, any_eqU r fs]
    exact q
  · obtain ⟨its, r, pl, hz⟩ := I.tuple hq
    refine SeqAt.notIn_tupleAt (eqU x) pl (fun w hw => mem_eqAt rx fx r fs w (by simpa using hw)) ⟨.bl _, H, I, rfl, ?_⟩
    rw [show its.toArray.any (eqU x) = its.any (eqU x) by simp, any_eqU r fs]
    exact q
theorem call_len_seq : CallR X (.builtin "len") (fun xs H Q => ∃ p ys, xs = [.ref p] ∧ (SqL X.K H p ys ∨ SqT X.K H p ys) ∧ Q (.int ys.length) H) := by
  intro pins s σ H xs us Q I r h
  obtain ⟨p, ys, rfl, hq, q⟩ := h
  obtain ⟨u, rfl, rx⟩ := vals1 r
  cases rx
  have hn := line63
  rcases hq with hq | hq
  · obtain ⟨its, r', pl, hz⟩ := I.list hq
    have hlen := r'.length
    exact Calls.call_len_list pl.isList (by simp only [List.size_toArray] <;> omega) ⟨.int ys.length, H, I.tok _, ⟨s.toks + 1, by rw [List.size_toArray, hlen]⟩, q⟩
  · obtain ⟨its, r', pl, hz⟩ := I.tuple hq
    have hlen := r'.length
    exact len_tuple pl (by simp only [List.size_toArray] <;> omega) ⟨.int ys.length, H, I.tok _, ⟨s.toks + 1, by rw [List.size_toArray, hlen]⟩, q⟩
theorem call_len_str : CallR X (.builtin "len") (fun xs H Q => ∃ z, xs = [.str z] ∧ z.length ≤ sizeLine ∧ Q (.int z.length) H) := by
  intro pins s σ H xs us Q I r h
  obtain ⟨z, rfl, hz, q⟩ := h
  obtain ⟨u, rfl, t, rfl⟩ := vals1 r
  have hn := line63
  exact len_str (by omega) ⟨.int z.length, H, I.tok _, ⟨_, rfl⟩, q⟩
theorem CallR.or {f : Value} {r r' : List V → Hp → VK → Prop} (h : CallR X f r) (h' : CallR X f r') : CallR X f (fun xs H Q => r xs H Q ∨ r' xs H Q) := by
  intro pins s σ H xs us Q I rs q
  rcases q with q | q
  · exact h pins s σ H xs us Q I rs q
  · exact h' pins s σ H xs us Q I rs q
theorem call_list_of : CallR X (.type "list") (fun xs H Q => ∃ p ys, xs = [.ref p] ∧ (SqL X.K H p ys ∨ SqT X.K H p ys) ∧ ∀ l, H l = none → Q (.ref l) (upd H l (.lst ys))) := by
  intro pins s σ H xs us Q I r h
  obtain ⟨p, ys, rfl, hq, q⟩ := h
  obtain ⟨u, rfl, rx⟩ := vals1 r
  cases rx
  have fin : ∀ (its : List Value), Vals ys its → ys.length ≤ sizeLine → ∀ (h' : Heap) (c' : Nat), (∀ b o', s.heap.get? b = some o' → h'.get? b = some o') →
      h'.get? s.heap.objs.size = some { cls := .type "list", dict := none, data := .seq its.toArray c', slots := #[] } → EP X pins σ Q (.ref s.heap.objs.size) { s with heap := h' } := fun its r' hz h' c' kp e =>
    ⟨.ref s.heap.objs.size, _, I.laid (t' := s.toks) kp (Nat.le_refl _) (show ObjOk X.prog X.w _ h' _ (.lst ys) from ⟨hz, its, c', r', e⟩), rfl, q _ (I.hok.fresh (Nat.le_refl _))⟩
  rcases hq with hq | hq
  · obtain ⟨its, r', pl, hz⟩ := I.list hq
    have hlen := r'.length
    obtain ⟨o, ho, hc, n, hd⟩ := pl.isList
    exact call_list_seq p (.inl rfl) ho hc hd (fun h' c' kp e => fin its r' hz h' c' kp e) (by simp only [List.size_toArray] <;> omega)
  · obtain ⟨its, r', pl, hz⟩ := I.tuple hq
    have hlen := r'.length
    obtain ⟨o, ho, hc, n, hd⟩ := pl
    exact call_list_seq p (.inr rfl) ho hc hd (fun h' c' kp e => fin its r' hz h' c' kp e) (by simp only [List.size_toArray] <;> omega)
theorem call_tuple_of : CallR X (.type "tuple") (fun xs H Q => ∃ p ys, xs = [.ref p] ∧ ((SqL X.K H p ys ∧ ∀ l, H l = none → Q (.ref l) (upd H l (.tup ys))) ∨ (SqT X.K H p ys ∧ Q (.ref p) H))) := by
  intro pins s σ H xs us Q I r h
  obtain ⟨p, ys, rfl, h⟩ := h
  obtain ⟨u, rfl, rx⟩ := vals1 r
  cases rx
  rcases h with ⟨hq, q⟩ | ⟨hq, q⟩
  · obtain ⟨its, r', pl, hz⟩ := I.list hq
    have hlen := r'.length
    refine call_tuple_list pl.isList (fun h' kp => ?_) (by simp only [List.size_toArray] <;> omega)
    have I1 : Inv X pins σ H { s with heap := h' } := I.kept (t' := s.toks) kp
    have I2 : Inv X pins σ (upd H h'.objs.size (.tup ys)) { s with heap := h'.push { cls := .type "tuple", data := .seq its.toArray } } :=
      I1.laid (t' := s.toks) (fun b o e => Heap.get?_push_of_some _ e) (Nat.le_refl _) (show ObjOk X.prog X.w _ _ _ (.tup ys) from ⟨hz, its, r', IsTup.new _ _⟩)
    exact ⟨.ref h'.objs.size, _, I2, rfl, q _ (I1.hok.fresh (Nat.le_refl _))⟩
  · obtain ⟨its, r', pl, hz⟩ := I.tuple hq
    exact call_tuple_same pl ⟨.ref p, H, I, rfl, q⟩
/-- the value is of that builtin type -/
def tyV (K : PySem.W.Frag) (T : String) (x : V) (H : Hp) : Prop := match x with
  | .str _ => T = "str"
  | .int _ => T = "int"
  | .ref p => (T = "list" ∧ ∃ xs, SqL K H p xs) ∨ (T = "tuple" ∧ ∃ o, K.lookup p = some o ∧ o.cls = .type "tuple" ∧ o.dict = none) ∨
      (T = "dict" ∧ ((∃ kvs, H p = some (.dK kvs)) ∨ ∃ kvs, H p = some (.dT kvs))) ∨ (T = "set" ∧ ∃ S n, H p = some (.set S n))
  | _ => False
theorem tyV_is {pins : List (Addr × Obj)} {σ : St} {H : Hp} {s : Shared} {T : String} {x : V} {v : Value} (I : Inv X pins σ H s) (r : RelV x v) (ty : tyV X.K T x H) :
    s.TypeIs v T ∧ ∀ a, v = .ref a → ∃ ob, s.heap.get? a = some ob ∧ ob.dict = none := by
  cases x with
  | str z =>
    obtain ⟨t, rfl⟩ := r
    cases (show T = "str" from ty)
    exact ⟨typeIs_str s z t, fun _ e => nomatch e⟩
  | int i =>
    obtain ⟨t, rfl⟩ := r
    cases (show T = "int" from ty)
    exact ⟨typeIs_int s i t, fun _ e => nomatch e⟩
  | ref p =>
    cases r
    rcases ty with ⟨rfl, xs, hq⟩ | ⟨rfl, o, hk, hc, hd⟩ | ⟨rfl, hk⟩ | ⟨rfl, S, n, hk⟩
    · obtain ⟨its, _, pl, _⟩ := I.list hq
      refine ⟨pl.isList.typeIs, fun a e => ?_⟩
      cases e
      obtain ⟨o, n, e, c, hd, _⟩ := pl
      exact ⟨o, e, hd⟩
    · refine ⟨⟨o, I.kIn p o hk, hc⟩, fun a e => ?_⟩
      cases e
      exact ⟨o, I.kIn _ o hk, hd⟩
    · have z : ∃ o, s.heap.get? p = some o ∧ o.ExactDict := by
        rcases hk with ⟨kvs, hk⟩ | ⟨kvs, hk⟩
        · obtain ⟨_, _, _, _, o, _, _, e, ex, _⟩ := I.hok p _ hk
          exact ⟨o, e, ex⟩
        · obtain ⟨_, _, _, _, o, _, _, e, ex, _⟩ := I.hok p _ hk
          exact ⟨o, e, ex⟩
      obtain ⟨o, e, ex⟩ := z
      refine ⟨⟨o, e, ex.1⟩, fun a e2 => ?_⟩
      cases e2
      exact ⟨o, e, ex.2.1⟩
    · obtain ⟨o, _, _, _, e, ex, _⟩ := I.hok p _ hk
      refine ⟨⟨o, e, ex.1⟩, fun a e2 => ?_⟩
      cases e2
      exact ⟨o, e, ex.2.1⟩
  | _ => exact False.elim ty
def tBM0 (K : PySem.W.Frag) (T : String) (r : V → List V → Hp → VK → Prop) (to : TE) : TE := fun σ H Q => to σ H fun x H1 => tyV K T x H1 ∧ r x [] H1 Q
def tBM (K : PySem.W.Frag) (T : String) (r : V → List V → Hp → VK → Prop) (to : TE) (t : TA) : TE := fun σ H Q => to σ H fun x H1 => tyV K T x H1 ∧ t σ H1 fun xs H2 => r x xs H2 Q
variable {o e : Expr} {es : List Expr} {to : TE} {t : TA} {name : Str} {apos cpos : Pos} {T id : String} {r : V → List V → Hp → VK → Prop}
theorem pe_bm0 (pa : PlainAttrs T) (slot : Slot T name id) (hty : typeOf (.builtin id) = pure (.type "method_descriptor")) (hm : MtR X id r) (ho : PE X o to)
    (hbase : attributeBase o name X.env (eval o X.env) = eval o X.env := by rfl) (hline : (apos.endLine == cpos.line) = true := by rfl) : PE X (.Call (.Attribute o name apos) [] [] cpos) (tBM0 X.K T r to) := by
  intro pins s σ H Q I h
  refine wpAny_Call_method0_late hbase hline (thn (ho pins s σ H _ I h) fun v s1 ⟨x, H1, I1, r1, ty, q1⟩ => ?_)
  obtain ⟨h1, h2⟩ := tyV_is I1 r1 ty
  exact ⟨T, id, pa, slot, hty, h1, h2, Calls.callWith_builtin rfl (PySem.evalArgs_none (hm pins s1 σ H1 x [] v [] Q I1 r1 .nil q1))⟩
theorem pe_bm (pa : PlainAttrs T) (slot : Slot T name id) (hty : typeOf (.builtin id) = pure (.type "method_descriptor")) (hm : MtR X id r) (ho : PE X o to) (ha : PA X (e :: es) t)
    (hbase : attributeBase o name X.env (eval o X.env) = eval o X.env := by rfl)
    (hfew : ((backTo cpos (starEach (e :: es) X.env)).all (fun x => !x.1) && (backToKw cpos (keywordEach [] X.env)).all (fun x => x.1.isSome)
      && decide ((e :: es).length + ([] : List Keyword).length + (if ([] : List Keyword).isEmpty then 0 else 1) < 30)) = true := by rfl)
    (hline : (apos.endLine == cpos.line) = true := by rfl) (hs : starEach (e :: es) X.env = (false, eval e X.env) :: starEach es X.env := by rfl) (hplain : (backTo cpos (starEach es X.env)).any (·.1) = false := by rfl) :
    PE X (.Call (.Attribute o name apos) (e :: es) [] cpos) (tBM X.K T r to t) := by
  intro pins s σ H Q I h
  refine wpAny_Call_method_late hbase hfew hline rfl (thn (ho pins s σ H _ I h) fun v s1 ⟨x, H1, I1, r1, ty, q1⟩ => ?_)
  obtain ⟨h1, h2⟩ := tyV_is I1 r1 ty
  refine ⟨T, id, pa, slot, hty, h1, h2, ?_⟩
  have hA := ha cpos pins s1 σ H1 _ I1 q1
  rw [hs] at hA ⊢
  refine Calls.callWith_builtin (by show (false || (backTo cpos (starEach es X.env)).any (·.1)) = false; rw [hplain] <;> rfl) (Calls.evalArgs_plain ?_)
  exact thn hA fun us s2 ⟨vs, H2, I2, r2, q2⟩ => hm pins s2 σ H2 x vs v us Q I2 r1 r2 q2
end
end L2
namespace L2
open PySem PySem.Spec PyProof.Rows
def MtM (X : Cx) (id : String) (r : V → List V → Hp → VK → Prop) : Prop :=
  ∀ (pins : List (Addr × Obj)) (s : Shared) (σ : St) (H : Hp) (x : V) (xs : List V) (v : Value) (us : List Value) (Q : VK), Inv X pins σ H s → RelV x v → Vals xs us → r x xs H Q →
    wpAny (model X.prog X.w) X.A (call (.builtin id) (v :: us)) (EP X pins σ Q) X.xe s
theorem Vals.one : ∀ {x : V} {us : List Value}, Vals [x] us → ∃ u, us = [u] ∧ RelV x u
  | _, _, .cons r .nil => ⟨_, rfl, r⟩
theorem Vals.two : ∀ {x y : V} {us : List Value}, Vals [x, y] us → ∃ u v, us = [u, v] ∧ RelV x u ∧ RelV y v
  | _, _, _, .cons r (.cons q .nil) => ⟨_, _, rfl, r, q⟩
theorem Vals.zero : ∀ {us : List Value}, Vals [] us → us = []
  | _, .nil => rfl
theorem Vals.dropLast {xs : List V} {us : List Value} (h : Vals xs us) : Vals xs.dropLast us.dropLast := by
  induction h with
  | nil => exact .nil
  | cons r t ih =>
    cases t with
    | nil => exact .nil
    | cons q t' => exact .cons r ih
theorem Vals.eraseIdx : ∀ {xs : List V} {us : List Value} (i : Nat), Vals xs us → Vals (xs.eraseIdx i) (us.eraseIdx i)
  | _, _, _, .nil => .nil
  | _, _, 0, .cons _ t => t
  | _, _, i + 1, .cons r t => .cons r (Vals.eraseIdx i t)
theorem Vals.reverse {xs : List V} {us : List Value} (h : Vals xs us) : Vals xs.reverse us.reverse := by
  induction h with
  | nil => exact .nil
  | cons r t ih => rw [List.reverse_cons, List.reverse_cons]; exact Vals.append ih (.cons r .nil)
theorem Vals.rep {xs : List V} {us : List Value} (h : Vals xs us) : ∀ k : Nat, Vals (List.replicate k xs).flatten (List.replicate k us).flatten
  | 0 => .nil
  | k + 1 => by
    rw [List.replicate_succ, List.replicate_succ, List.flatten_cons, List.flatten_cons]
    exact Vals.append h (Vals.rep h k)
theorem erase_last {α : Type} (l : List α) : l.eraseIdx (l.length - 1) = l.dropLast := by
  induction l with
  | nil => rfl
  | cons a r ih =>
    cases r with
    | nil => rfl
    | cons b r =>
      have e : (a :: b :: r).length - 1 = ((b :: r).length - 1) + 1 := by
        have h1 : (a :: b :: r).length = r.length + 2 := rfl
        have h2 : (b :: r).length = r.length + 1 := rfl
        omega
      rw [e, List.eraseIdx_cons_succ, ih]
      all_goals rfl
theorem foldl_rep (its : List Value) : ∀ (k : Nat) (acc : List Value),
    List.foldl (fun x1 x2 => x1 ++ x2) acc.toArray (List.replicate k its.toArray) = (acc ++ (List.replicate k its).flatten).toArray
  | 0, acc => by simp
  | k + 1, acc => by
    have e : acc.toArray ++ its.toArray = (acc ++ its).toArray := by simp
    have e2 : (acc ++ its) ++ (List.replicate k its).flatten = acc ++ (List.replicate (k + 1) its).flatten := by
      rw [List.replicate_succ, List.flatten_cons, List.append_assoc]
    rw [← e2, ← foldl_rep its k (acc ++ its), ← e, List.replicate_succ, List.foldl_cons]
section
variable {X : Cx} {pins : List (Addr × Obj)} {σ : St} {H : Hp} {s : Shared} {l b : Addr} {xs ys zs : List V}
theorem Inv.lset {its its' : List Value} {n : Nat} {f : Array Value → Array Value} {t' : Nat} (I : Inv X pins σ H s) (hH : H l = some (.lst xs))
    (e : s.heap.get? l = some { cls := .type "list", data := .seq its.toArray n }) (hf : f its.toArray = its'.toArray) (hv : Vals ys its') (hz : ys.length ≤ sizeLine) :
    Inv X pins σ (upd H l (.lst ys)) { s with heap := s.heap.update l (Obj.mapSeq f), toks := t' } := by
  have q := PySem.IsL.update e f
  rw [hf] at q
  refine I.write (x := l) (e := l) (by rw [hH]; exact trivial) (.inl rfl) (fun b' u hb hu => (Heap.get?_update_other s.heap (Obj.mapSeq f) (Ne.symm hb)).trans hu) ⟨_, q⟩ ?_
  exact ⟨hz, its', _, hv, q⟩
theorem Inv.lnew {its : List Value} {t' : Nat} (I : Inv X pins σ H s) (hv : Vals ys its) (hz : ys.length ≤ sizeLine) :
    Inv X pins σ (upd H s.heap.objs.size (.lst ys)) { s with heap := s.heap.push { cls := .type "list", data := .seq its.toArray }, toks := t' } :=
  I.laid (fun _ _ q => Heap.get?_push_of_some _ q) (Nat.le_refl _) ⟨hz, its, 0, hv, Heap.get?_push_size _ rfl⟩
theorem Inv.fresh (I : Inv X pins σ H s) : H s.heap.objs.size = none := I.hok.fresh (Nat.le_refl _)
theorem Inv.lstM (I : Inv X pins σ H s) (hH : H l = some (.lst xs)) : xs.length ≤ sizeLine ∧ ∃ (its : List Value) (n : Nat), Vals xs its ∧ xs.length = its.length ∧ s.heap.get? l = some { cls := .type "list", data := .seq its.toArray n } := by
  obtain ⟨z, its, n, r, e⟩ := I.hok l _ hH
  exact ⟨z, its, n, r, r.length, e⟩
theorem notLongL {n : Nat} (h : n ≤ sizeLine) : Builtin.List.listTooLong n = false := by
  unfold Builtin.List.listTooLong
  exact decide_eq_false (by omega)
end
section
variable {X : Cx}
def rAppend : V → List V → Hp → VK → Prop := fun x vs H Q => ∃ l xs y, x = .ref l ∧ vs = [y] ∧ H l = some (.lst xs) ∧ xs.length < sizeLine ∧ Q .non (upd H l (.lst (xs ++ [y])))
theorem mt_append : MtM X "list.append" rAppend := by
  intro pins s σ H x vs v us Q I rx rv h
  obtain ⟨l, xs, y, rfl, rfl, hH, hz, q⟩ := h
  cases rx
  obtain ⟨u, rfl, ru⟩ := rv.one
  obtain ⟨z, its, n, r, hl, e⟩ := I.lstM hH
  refine call_meets F.slot_list_append ⟨_, e, rfl⟩ F.entry_list_append (F.args_list_append_2 _ _) (PySem.list_append l its.toArray n u (by rw [List.size_toArray]; omega)) ⟨e, ?_⟩
  refine ⟨.non, _, I.lset (its' := its ++ [u]) hH e (by simp) (r.append (.cons ru .nil)) ?_, rfl, q⟩
  rw [List.length_append, List.length_singleton]
  omega
def rExtend : V → List V → Hp → VK → Prop := fun x vs H Q => ∃ l b xs zs, x = .ref l ∧ vs = [.ref b] ∧ H l = some (.lst xs) ∧ H b = some (.lst zs) ∧ xs.length + zs.length ≤ sizeLine ∧ Q .non (upd H l (.lst (xs ++ zs)))
theorem mt_extend : MtM X "list.extend" rExtend := by
  intro pins s σ H x vs v us Q I rx rv h
  obtain ⟨l, b, xs, zs, rfl, rfl, hH, hB, hz, q⟩ := h
  cases rx
  obtain ⟨u, rfl, ru⟩ := rv.one
  cases ru
  obtain ⟨z, its, n, r, hl, e⟩ := I.lstM hH
  obtain ⟨z2, its2, n2, r2, hl2, e2⟩ := I.lstM hB
  have hsz : its.toArray.size + its2.toArray.size ≤ sizeLine := by rw [List.size_toArray, List.size_toArray]; omega
  have hlong : ¬ (!its.toArray.isEmpty && Builtin.List.listTooLong (its.toArray.size + its2.toArray.size)) = true := by
    rw [notLongL hsz, Bool.and_false]
    exact Bool.false_ne_true
  refine call_meets F.slot_list_extend ⟨_, e, rfl⟩ F.entry_list_extend (F.args_list_extend_2 _ _)
    (AutoSeq1.list_extend_list_list_0 l its.toArray n b its2.toArray n2 hlong (by rw [List.size_toArray]; omega) (by omega)) ⟨e, e2, ?_⟩
  refine ⟨.non, _, I.lset (its' := its ++ its2) hH e (by simp) (r.append r2) ?_, rfl, q⟩
  rw [List.length_append]
  omega
def rPop : V → List V → Hp → VK → Prop := fun x vs H Q => ∃ l xs y, x = .ref l ∧ vs = [] ∧ H l = some (.lst xs) ∧ xs[xs.length - 1]? = some y ∧ Q y (upd H l (.lst xs.dropLast))
theorem mt_pop : MtM X "list.pop" rPop := by
  intro pins s σ H x vs v us Q I rx rv h
  obtain ⟨l, xs, y, rfl, rfl, hH, hy, q⟩ := h
  cases rx
  have hus := rv.zero
  subst hus
  obtain ⟨z, its, n, r, hl, e⟩ := I.lstM hH
  obtain ⟨u, hu, ru⟩ := r.get hy
  have hy' : its.toArray[its.toArray.size - 1]? = some u := by
    show its.toArray[its.length - 1]? = some u
    rw [← Array.getElem?_toList, ← hl]
    exact hu
  refine call_meets F.slot_list_pop ⟨_, e, rfl⟩ F.entry_list_pop (F.args_list_pop_1 _) (MeetsSeq.list_pop_last l its.toArray n u hy' (by rw [List.size_toArray]; omega)) ⟨e, ?_⟩
  refine ⟨y, _, I.lset (its' := its.dropLast) hH e ?_ r.dropLast ?_, ru, q⟩
  · show its.toArray.eraseIdxIfInBounds (its.toArray.size - 1) = its.dropLast.toArray
    rw [List.size_toArray, List.eraseIdxIfInBounds_toArray, erase_last]
  · rw [List.length_dropLast]
    omega
def rCat : R2 := fun x y H Q => ∃ l b xs zs, x = .ref l ∧ y = .ref b ∧ H l = some (.lst xs) ∧ H b = some (.lst zs) ∧ xs.length + zs.length ≤ sizeLine ∧ ∀ p, H p = none → Q (.ref p) (upd H p (.lst (xs ++ zs)))
theorem op_cat : OpR X (binaryOp .Add) rCat := by
  intro pins s σ H x y v u Q I rx ry h
  obtain ⟨l, b, xs, zs, rfl, rfl, hH, hB, hz, q⟩ := h
  cases rx
  cases ry
  obtain ⟨z, its, n, r, hl, e⟩ := I.lstM hH
  obtain ⟨z2, its2, n2, r2, hl2, e2⟩ := I.lstM hB
  refine PySem.P.add_list e e2 ?_ (by rw [List.size_toArray, List.size_toArray]; omega)
  have ea : its.toArray ++ its2.toArray = (its ++ its2).toArray := by simp
  rw [ea]
  exact ⟨.ref _, _, I.lnew (t' := s.toks) (r.append r2) (by rw [List.length_append]; omega), rfl, q _ I.fresh⟩
/-- a list times an int (a negative one is nothing) -/
def rRep : R2 := fun x y H Q => ∃ l k xs, x = .ref l ∧ y = .int k ∧ H l = some (.lst xs) ∧ -(2 ^ 63) ≤ k ∧ k < 2 ^ 63 ∧ xs.length * k.toNat ≤ sizeLine ∧
  ∀ p, H p = none → Q (.ref p) (upd H p (.lst (List.replicate k.toNat xs).flatten))
theorem len_rep {α : Type} (xs : List α) (k : Nat) : (List.replicate k xs).flatten.length = k * xs.length := by
  induction k with
  | zero => simp
  | succ k ih => rw [List.replicate_succ, List.flatten_cons, List.length_append, ih, Nat.succ_mul, Nat.add_comm]
theorem op_rep : OpR X (binaryOp .Mult) rRep := by
  intro pins s σ H x y v u Q I rx ry h
  obtain ⟨l, k, xs, rfl, rfl, hH, h1, h2, hz, q⟩ := h
  cases rx
  obtain ⟨t, rfl⟩ := ry
  obtain ⟨z, its, n, r, hl, e⟩ := I.lstM hH
  have hlen : its.toArray.size * k.toNat ≤ sizeLine := by rw [List.size_toArray, ← hl]; exact hz
  have hcap : ¬ its.toArray.size * k.toNat > (2 ^ 63 - 1) / 8 := by
    have : (sizeLine : Nat) ≤ (2 ^ 63 - 1) / 8 := by decide
    omega
  have hfit : ¬ (!Builtin.List.listFitsIndex k) = true := by
    rw [fitsIndex_both h1 h2]
    exact Bool.false_ne_true
  have hlong : ¬ Builtin.List.listTooLong (its.toArray.size * k.toNat) = true := by
    rw [notLongL hlen]
    exact Bool.false_ne_true
  have hnew : List.foldl (fun x1 x2 => x1 ++ x2) #[] (List.replicate (if its.toArray.isEmpty = true then 0 else k.toNat) its.toArray) = (List.replicate k.toNat its).flatten.toArray := by
    have f0 : ∀ m : Nat, List.foldl (fun x1 x2 => x1 ++ x2) #[] (List.replicate m its.toArray) = (List.replicate m its).flatten.toArray := fun m => by
      have := foldl_rep its m []
      rw [List.nil_append] at this
      exact this
    rw [f0]
    cases its with
    | nil => simp
    | cons a r' => rw [if_neg (by simp)]
  refine wpAny_binaryOp_repeat_ref (T := "list") (U := "int") (by decide) ⟨_, e, rfl⟩ (fun s' => typeIs_int s' k t) noFill_list_mul F.fills_int_mul F.slot_int_rmul repeat_list F.slot_int_index.lookup
    (call_meets F.slot_int_rmul (typeIs_int s k t) F.entry_int_rmul (F.args_int_rmul_2 _ _) (int___rmul___int_list k t l its.toArray n)
      ⟨e, rfl, ⟨_, e, rfl⟩, call_meets F.slot_list_mul ⟨_, e, rfl⟩ F.entry_list_mul (F.args_list_mul_2 _ _) (AutoListH.list___mul___list_int_3 l its.toArray n k t hfit hcap hlong) ⟨e, ?_⟩⟩)
  rw [hnew]
  exact ⟨.ref _, _, I.lnew (t' := s.toks) (r.rep k.toNat) (by rw [len_rep, Nat.mul_comm]; exact hz), rfl, q _ I.fresh⟩
end
section
variable {prog : Program} {w : World} {A : Around} {E : Value → Shared → Prop} {s : Shared}
theorem splice_eq (its its2 : List Value) (a c : Nat) : its.toArray.extract 0 a ++ its2.toArray ++ its.toArray.extract c its.toArray.size = (its.take a ++ its2 ++ its.drop c).toArray := by
  apply Array.toList_inj.mp
  first
    | (simp
       exact List.take_of_length_le (by simp))
    | simp [List.take_of_length_le]
    | simp
theorem bounds_run {a c n : Nat} (hac : a ≤ c) (hc : c ≤ n) : sliceBounds (some (a : Int)) (some (c : Int)) none n = ((a : Int), (c : Int), 1) := by
  simp only [sliceBounds, Option.getD_none]
  have h1 : ¬ ((a : Int) < 0) := by omega
  have h2 : ¬ ((c : Int) < 0) := by omega
  simp only [h1, h2, if_false, show (1 : Int) > 0 by decide, if_true]
  congr 1
  · omega
  · congr 1; omega
set_option maxRecDepth 100000 in
/-- list.__setitem__ with a slice of step one and another list -/
theorem setItem_slice {l b sl : Addr} {items new : Array Value} {n n2 : Nat} {vl vu : Value} {a c : Nat} {Q : Unit → Shared → Prop}
    (e : s.heap.get? l = some { cls := .type "list", data := .seq items n }) (e2 : s.heap.get? b = some { cls := .type "list", data := .seq new n2 }) (hne : l ≠ b)
    (hs : s.heap.IsSliceOf sl vl vu .none) (pl : IsPart vl (some (a : Int))) (pu : IsPart vu (some (c : Int))) (hac : a ≤ c) (hc : c ≤ items.size)
    (hsz : items.size + new.size ≤ sizeLine) (h : Q () { s with heap := s.heap.update l (Obj.mapSeq fun xs => xs.extract 0 a ++ new ++ xs.extract c xs.size) }) :
    wpAny (model prog w) A (setItem (.ref l) (.ref sl) (.ref b)) Q E s := by
  have hl : s.heap.IsList l items := PySem.IsL.isList e
  have hb : s.heap.IsList b new := PySem.IsL.isList e2
  obtain ⟨os, hos, hcs, hds⟩ := id hs
  have hTs : s.TypeIs (.ref sl) "slice" := ⟨os, hos, hcs⟩
  have hstep : ¬ ((rawPart none == rawInt 0) = true) := Bool.false_ne_true
  have hsame : Builtin.List.listSameRef (.ref l) (.ref b) = false := by
    unfold Builtin.List.listSameRef
    exact beq_eq_false_iff_ne.mpr hne
  have hmax : (max (a : Int) (c : Int)).toNat = c := by omega
  have hz' : ((fun xs : Array Value => xs.extract 0 a ++ new ++ xs.extract c xs.size) items).size ≤ sizeLine + 1 := by
    simp only [Array.size_append, Array.size_extract]
    omega
  unfold setItem
  try with_reducible refine wpAny_holding ?_
  first | refine wpAny_bind (wpAny_pure ?_) | skip
  refine wpAny_bind (wpAny_sequenceKey hl.typeIs (by decide) ?_)
  refine wpAny_bind (wpAny_callSpecial?_slot (name := Str.ofString "__setitem__") hl.typeIs slot_list_setitem
    (wpAny_call_entry slot_list_setitem hl.typeIs entry_list_setitem ?_ (args_list_setitem _ _ _)))
  show wpAny _ _ (Builtin.List.listSubscript? (.ref sl) >>= _) _ _ s
  refine wpAny_bind ?_
  unfold Builtin.List.listSubscript?
  refine wpAny_bind (wpAny_specialOf hTs slice_no_index ?_)
  simp only [Option.isNone_none, if_true]
  refine wpAny_pure ?_
  show wpAny _ _ (typeOf (.ref sl) >>= _) _ _ s
  refine wpAny_bind (wpAny_typeOf hTs ?_)
  first
    | rw [if_neg (by decide)]
    | refine PySem.W.KFB.if_not (by decide) ?_
  rw [listSliceParts_eq]
  refine wpAny_bind (wpAny_bind (wpAny_field hos hds (x := .none) rfl (wpAny_bind (wpAny_listPart .none ?_))))
  rw [if_neg hstep]
  refine wpAny_bind (wpAny_field hos hds (x := vl) rfl (wpAny_bind (wpAny_listPart pl ?_)))
  refine wpAny_bind (wpAny_field hos hds (x := vu) rfl (wpAny_bind (wpAny_listPart pu (wpAny_pure ?_))))
  first
    | simp only [hsame, Bool.false_eq_true, if_false]
    | refine PySem.W.KFB.if_not hsame ?_
    | (dsimp only
       rw [if_neg (by rw [hsame]; exact Bool.false_ne_true)])
  refine wpAny_bind (m := Builtin.List.listAllItems (.ref b) "must assign iterable to extended slice") ?_
  unfold Builtin.List.listAllItems
  refine wpAny_bind (wpAny_typeOf hb.typeIs ?_)
  first
    | refine PySem.W.KFB.if_so (by decide) ?_
    | rw [if_pos (by decide)]
    | simp only [beq_self_eq_true, Bool.true_or, if_true]
  unfold Builtin.List.listItems
  refine wpAny_bind (wpAny_seqItems e2 rfl (wpAny_pure ?_))
  refine wpAny_bind (wpAny_bind (wpAny_seqItems e rfl (wpAny_pure ?_)))
  refine wpAny_bind (wpAny_of_eq ((sliceIndices_raw (some (a : Int)) (some (c : Int)) none items.size (by simp)).trans (congrArg (pure : Int × Int × Int → Sem (Int × Int × Int)) (bounds_run hac hc))) ?_)
  show wpAny _ _ (if ((1 : Int) == 1) = true then _ else _) _ _ s
  rw [if_pos (by decide)]
  refine wpAny_bind (wpAny_rule ?_)
  first
    | simp only [notLongL hsz, Bool.false_eq_true, if_false]
    | refine PySem.W.KFB.if_not (notLongL hsz) ?_
  first | refine wpAny_bind (wpAny_pure ?_) | skip
  show wpAny _ _ (updateSeq l (fun xs => xs.extract 0 ((a : Int)).toNat ++ new ++ xs.extract (max (a : Int) (c : Int)).toNat xs.size) >>= _) _ _ s
  rw [hmax, Int.toNat_natCast]
  refine wpAny_bind (wpAny_updateSeq (hz := Nat.le_trans (Nat.le_add_right _ _) hsz) (_hz' := hz') e rfl ?_)
  refine wpAny_bind (wpAny_letGo ?_)
  first
    | exact wpAny_bind (wpAny_pure (wpAny_pure ⟨.none, rfl, wpAny_pure h⟩))
    | exact wpAny_pure ⟨.none, rfl, wpAny_pure h⟩
theorem bounds_run0 {c n : Nat} (hc : c ≤ n) : sliceBounds none (some (c : Int)) none n = ((0 : Int), (c : Int), 1) := by
  simp only [sliceBounds, Option.getD_none]
  have h2 : ¬ ((c : Int) < 0) := by omega
  simp only [h2, if_false, show (1 : Int) > 0 by decide, if_true]
  congr 1
  congr 1; omega
set_option maxRecDepth 100000 in
/-- list.__setitem__ with a slice of step one and another list -/
theorem setItem_slice0 {l b sl : Addr} {items new : Array Value} {n n2 : Nat} {vl vu : Value} {c : Nat} {Q : Unit → Shared → Prop}
    (e : s.heap.get? l = some { cls := .type "list", data := .seq items n }) (e2 : s.heap.get? b = some { cls := .type "list", data := .seq new n2 }) (hne : l ≠ b)
    (hs : s.heap.IsSliceOf sl vl vu .none) (pl : IsPart vl none) (pu : IsPart vu (some (c : Int))) (hc : c ≤ items.size)
    (hsz : items.size + new.size ≤ sizeLine) (h : Q () { s with heap := s.heap.update l (Obj.mapSeq fun xs => xs.extract 0 0 ++ new ++ xs.extract c xs.size) }) :
    wpAny (model prog w) A (setItem (.ref l) (.ref sl) (.ref b)) Q E s := by
  have hl : s.heap.IsList l items := PySem.IsL.isList e
  have hb : s.heap.IsList b new := PySem.IsL.isList e2
  obtain ⟨os, hos, hcs, hds⟩ := id hs
  have hTs : s.TypeIs (.ref sl) "slice" := ⟨os, hos, hcs⟩
  have hstep : ¬ ((rawPart none == rawInt 0) = true) := Bool.false_ne_true
  have hsame : Builtin.List.listSameRef (.ref l) (.ref b) = false := by
    unfold Builtin.List.listSameRef
    exact beq_eq_false_iff_ne.mpr hne
  have hmax : (max (0 : Int) (c : Int)).toNat = c := by omega
  have hz' : ((fun xs : Array Value => xs.extract 0 0 ++ new ++ xs.extract c xs.size) items).size ≤ sizeLine + 1 := by
    simp only [Array.size_append, Array.size_extract]
    omega
  unfold setItem
  try with_reducible refine wpAny_holding ?_
  first | refine wpAny_bind (wpAny_pure ?_) | skip
  refine wpAny_bind (wpAny_sequenceKey hl.typeIs (by decide) ?_)
  refine wpAny_bind (wpAny_callSpecial?_slot (name := Str.ofString "__setitem__") hl.typeIs slot_list_setitem
    (wpAny_call_entry slot_list_setitem hl.typeIs entry_list_setitem ?_ (args_list_setitem _ _ _)))
  show wpAny _ _ (Builtin.List.listSubscript? (.ref sl) >>= _) _ _ s
  refine wpAny_bind ?_
  unfold Builtin.List.listSubscript?
  refine wpAny_bind (wpAny_specialOf hTs slice_no_index ?_)
  simp only [Option.isNone_none, if_true]
  refine wpAny_pure ?_
  show wpAny _ _ (typeOf (.ref sl) >>= _) _ _ s
  refine wpAny_bind (wpAny_typeOf hTs ?_)
  first
    | rw [if_neg (by decide)]
    | refine PySem.W.KFB.if_not (by decide) ?_
  rw [listSliceParts_eq]
  refine wpAny_bind (wpAny_bind (wpAny_field hos hds (x := .none) rfl (wpAny_bind (wpAny_listPart .none ?_))))
  rw [if_neg hstep]
  refine wpAny_bind (wpAny_field hos hds (x := vl) rfl (wpAny_bind (wpAny_listPart pl ?_)))
  refine wpAny_bind (wpAny_field hos hds (x := vu) rfl (wpAny_bind (wpAny_listPart pu (wpAny_pure ?_))))
  first
    | simp only [hsame, Bool.false_eq_true, if_false]
    | refine PySem.W.KFB.if_not hsame ?_
    | (dsimp only
       rw [if_neg (by rw [hsame]; exact Bool.false_ne_true)])
  refine wpAny_bind (m := Builtin.List.listAllItems (.ref b) "must assign iterable to extended slice") ?_
  unfold Builtin.List.listAllItems
  refine wpAny_bind (wpAny_typeOf hb.typeIs ?_)
  first
    | refine PySem.W.KFB.if_so (by decide) ?_
    | rw [if_pos (by decide)]
    | simp only [beq_self_eq_true, Bool.true_or, if_true]
  unfold Builtin.List.listItems
  refine wpAny_bind (wpAny_seqItems e2 rfl (wpAny_pure ?_))
  refine wpAny_bind (wpAny_bind (wpAny_seqItems e rfl (wpAny_pure ?_)))
  refine wpAny_bind (wpAny_of_eq ((sliceIndices_raw none (some (c : Int)) none items.size (by simp)).trans (congrArg (pure : Int × Int × Int → Sem (Int × Int × Int)) (bounds_run0 hc))) ?_)
  show wpAny _ _ (if ((1 : Int) == 1) = true then _ else _) _ _ s
  rw [if_pos (by decide)]
  refine wpAny_bind (wpAny_rule ?_)
  first
    | simp only [notLongL hsz, Bool.false_eq_true, if_false]
    | refine PySem.W.KFB.if_not (notLongL hsz) ?_
  first | refine wpAny_bind (wpAny_pure ?_) | skip
  show wpAny _ _ (updateSeq l (fun xs => xs.extract 0 ((0 : Int)).toNat ++ new ++ xs.extract (max (0 : Int) (c : Int)).toNat xs.size) >>= _) _ _ s
  rw [hmax, show ((0 : Int)).toNat = 0 from rfl]
  refine wpAny_bind (wpAny_updateSeq (hz := Nat.le_trans (Nat.le_add_right _ _) hsz) (_hz' := hz') e rfl ?_)
  refine wpAny_bind (wpAny_letGo ?_)
  first
    | exact wpAny_bind (wpAny_pure (wpAny_pure ⟨.none, rfl, wpAny_pure h⟩))
    | exact wpAny_pure ⟨.none, rfl, wpAny_pure h⟩
end
section
variable {X : Cx}
end
end L2
namespace L2
open PySem PySem.Spec PyProof.Rows
theorem Vals.ints : ∀ {ns : List Int} {us : List Value}, Vals (ns.map V.int) us → IntsAre us ns
  | [], us, h => by
    rw [List.map_nil] at h
    cases h
    exact IntsAre.nil
  | n :: ns, us, h => by
    rw [List.map_cons] at h
    cases h with
    | cons r t =>
      obtain ⟨k, rfl⟩ := r
      exact IntsAre.cons n k (Vals.ints t)
theorem Vals.strs : ∀ {xs : List Str} {us : List Value}, Vals (xs.map V.str) us → StrsAre us xs
  | [], us, h => by
    rw [List.map_nil] at h
    cases h
    exact StrsAre.nil
  | x :: xs, us, h => by
    rw [List.map_cons] at h
    cases h with
    | cons r t =>
      obtain ⟨k, rfl⟩ := r
      exact StrsAre.cons x k (Vals.strs t)
theorem Vals.bls : ∀ {bs : List Bool} {us : List Value}, Vals (bs.map V.bl) us → us = bs.map Value.bool
  | [], us, h => by
    rw [List.map_nil] at h
    cases h
    rfl
  | b :: bs, us, h => by
    rw [List.map_cons] at h
    cases h with
    | cons r t =>
      cases r
      rw [Vals.bls t, List.map_cons]
theorem Vals.ref1 {a : Addr} {us : List Value} (r : Vals [V.ref a] us) : us = [Value.ref a] := by
  cases r with
  | cons r t =>
    cases t
    cases r
    rfl
section
variable {prog : Program} {w : World} {A : Around} {E : Value → Shared → Prop} {s : Shared} {l : Addr} {its : List Value} {ns : List Int} {Q : Value → Shared → Prop}
theorem min_raw (hh : A.handled = none) (hl : s.heap.IsList l its.toArray) (hi : IntsAre its ns) (hne : 0 < ns.length)
    (h : ∀ h' tk M t', (∀ b o, s.heap.get? b = some o → h'.get? b = some o) → M ∈ ns → (∀ a, a ∈ ns → M ≤ a) → Q (.int M t') { s with heap := h', toks := tk }) : wpAny (model prog w) A (call (.builtin "min") [.ref l]) Q E s := by
  obtain ⟨xs, e⟩ := hi.allInts.items
  have hn : numsOf (intItems xs).toList = ns := by rw [← e]; exact hi.numsOf
  rw [nums_intItems] at hn
  subst hn
  rw [e] at hl
  have hsz : 0 < xs.size := by simpa using hne
  refine PySem.min_intList hh hl hsz fun v h' tk hv hk => ?_
  obtain ⟨t, rfl⟩ := intItems_at hv
  obtain ⟨h1, h2⟩ := argBest_lt (numAt xs) (xs.size - 1)
  refine h h' tk _ t hk ?_ fun a ha => ?_
  · rw [numAt_eq]; exact PySem.getD_mem (by rw [List.length_map, Array.length_toList]; omega)
  · obtain ⟨j, hj, rfl⟩ := mem_getD ha
    rw [List.length_map, Array.length_toList] at hj
    rw [← numAt_eq]; exact h2 j (by omega)
end
section
variable {X : Cx}
def rMin (K : PySem.W.Frag) : List V → Hp → VK → Prop := fun vs H Q => ∃ (a : Addr) (ns : List Int), vs = [V.ref a] ∧ SqL K H a (ns.map V.int) ∧ 0 < ns.length ∧ ∀ m, m ∈ ns → (∀ y, y ∈ ns → m ≤ y) → Q (.int m) H
theorem cr_min (hc : X.calm = true) : CallR X (.builtin "min") (rMin X.K) := by
  intro pins s σ H vs us Q I r h
  obtain ⟨a, ns, rfl, hs, hne, q⟩ := h
  obtain ⟨its, rv, hl, _⟩ := I.list hs
  rw [Vals.ref1 r]
  exact min_raw (I.ok.hd hc) hl.isList rv.ints hne fun h' tk m t' hk h1 h2 => ⟨.int _, H, I.kept hk, ⟨_, rfl⟩, q m h1 h2⟩
end
section
variable {X : Cx}
end
section
variable {X : Cx}
end
theorem iter_any {prog : Program} {w : World} {A : Around} {E : Value → Shared → Prop} {s : Shared} {l : Addr} {items : Array Value} {Q : Value → Shared → Prop} (hl : s.heap.IsList l items)
    (h : ∀ s₂ : Shared, s₂ = { s with heap := s.heap.push { cls := .type "list_iterator", data := .fields #[.ref l, .int 0 0] } } →
      (s₂.heap.IsListIter s.heap.objs.size l 0 ∧ s₂.heap.IsList l items) → l ≠ s.heap.objs.size → Q (.ref s.heap.objs.size) s₂) : wpAny (model prog w) A (pyIter (.ref l)) Q E s := by
  have hlt : l < s.heap.objs.size := by obtain ⟨_, e, _⟩ := hl; exact Heap.lt_size e
  exact wpAny_pyIter_list hl (h _ rfl ⟨⟨_, Heap.get?_push_size _ rfl, rfl, rfl⟩, hl.push _⟩ (Nat.ne_of_lt hlt))
theorem truth_bools {prog : Program} {w : World} {A : Around} {bs : List Bool} {its : List Value} (e : its = bs.map Value.bool) :
    TruthOf prog w A (fun i v => its.toArray[i]? = some v) (fun i => bs.getD i false) := fun i v s Q E hv hq => by
  have hv' : its[i]? = some v := by simpa using hv
  rw [e, List.getElem?_map] at hv'
  obtain ⟨b, hb, rfl⟩ := Option.map_eq_some_iff.mp hv'
  have hg : bs.getD i false = b := by rw [List.getD_eq_getElem?_getD, hb] <;> rfl
  have hq' : Q (bs.getD i false) s := hq
  rw [hg] at hq'
  exact wpAny_truthy_bool hq'
theorem all_range : ∀ bs : List Bool, (List.range bs.length).all (fun i => bs.getD i false) = bs.all id
  | [] => rfl
  | b :: bs => by
    rw [List.length_cons, List.range_succ_eq_map, List.all_cons, List.all_map, List.all_cons, ← all_range bs]
    all_goals rfl
section
variable {X : Cx}
def rAll (K : PySem.W.Frag) : List V → Hp → VK → Prop := fun vs H Q => ∃ (a : Addr) (bs : List Bool), vs = [V.ref a] ∧ SqL K H a (bs.map V.bl) ∧ Q (.bl (bs.all id)) H
theorem cr_all (hc : X.calm = true) : CallR X (.builtin "all") (rAll X.K) := by
  intro pins s σ H vs us Q I r h
  obtain ⟨a, bs, rfl, hs, q⟩ := h
  obtain ⟨its, rv, hl, _⟩ := I.list hs
  rw [Vals.ref1 r]
  have hb := rv.bls
  refine call_all_walk (iter_any hl.isList fun s₂ e2 st hne => ?_)
  subst e2
  refine ⟨_, _, _, _, _, _, _, rfl, Walks.list (A := X.A.in1) (I.ok.hd hc) _ a hne its.toArray, st, truth_bools hb, fun h' tk hk => ?_⟩
  refine ⟨.bl _, H, I.kept fun b o eo => hk b o (fun hmem => ?_) (Heap.get?_push_of_some _ eo), ?_, q⟩
  · rcases List.mem_cons.mp hmem with e1 | hmem
    · exact absurd (e1 ▸ Heap.lt_size eo) (Nat.lt_irrefl _)
    · cases hmem
  · show Value.bool _ = Value.bool _
    rw [← all_range, hb, List.size_toArray, List.length_map]
end
mutual
inductive Dp (K : PySem.W.Frag) (H : Hp) : V → PyData → Prop
  | non : Dp K H .non .none
  | bl (b : Bool) : Dp K H (.bl b) (.bool b)
  | int (i : Int) : Dp K H (.int i) (.int i)
  | str (x : Str) : Dp K H (.str x) (.str x)
  | lst {a : Addr} {xs : List V} {ds : List PyData} : SqL K H a xs → DpAll K H xs ds → Dp K H (.ref a) (.list ds)
  | tup {a : Addr} {xs : List V} {ds : List PyData} : SqT K H a xs → DpAll K H xs ds → Dp K H (.ref a) (.tuple ds)
inductive DpAll (K : PySem.W.Frag) (H : Hp) : List V → List PyData → Prop
  | nil : DpAll K H [] []
  | cons {v : V} {vs : List V} {d : PyData} {ds : List PyData} : Dp K H v d → DpAll K H vs ds → DpAll K H (v :: vs) (d :: ds)
end
section
variable {X : Cx} {pins : List (Addr × Obj)} {σ : St} {H : Hp} {s : Shared}
mutual
theorem Dp.reads (I : Inv X pins σ H s) : ∀ (d : PyData) (v : V) (u : Value), Dp X.K H v d → RelV v u → ∃ as, Reads s.heap u d as
  | .none, _, _, h, r => by
    cases h
    cases r
    exact ⟨_, Reads.none⟩
  | .bool b, _, _, h, r => by
    cases h
    cases r
    exact ⟨_, Reads.bool b⟩
  | .int i, _, _, h, r => by
    cases h
    obtain ⟨t, rfl⟩ := r
    exact ⟨_, Reads.int i t⟩
  | .str x, _, _, h, r => by
    cases h
    obtain ⟨t, rfl⟩ := r
    exact ⟨_, Reads.str x t⟩
  | .list ds, _, _, h, r => by
    cases h with
    | lst hs ha =>
      cases r
      obtain ⟨its, rv, ⟨o, n, ho, hc, _, hd⟩, _⟩ := I.list hs
      obtain ⟨as, hr⟩ := Dp.readsAll I ds _ its ha rv
      exact ⟨_, Reads.list ho hc hd hr⟩
  | .tuple ds, _, _, h, r => by
    cases h with
    | tup hs ha =>
      cases r
      obtain ⟨its, rv, ⟨o, ho, hc, n, hd⟩, _⟩ := I.tuple hs
      obtain ⟨as, hr⟩ := Dp.readsAll I ds _ its ha rv
      exact ⟨_, Reads.tuple ho hc hd hr⟩
  | .dict _, _, _, h, _ => by cases h
theorem Dp.readsAll (I : Inv X pins σ H s) : ∀ (ds : List PyData) (vs : List V) (us : List Value), DpAll X.K H vs ds → Vals vs us → ∃ as, ReadsAll s.heap us ds as
  | [], _, _, h, r => by
    cases h
    cases r
    exact ⟨_, ReadsAll.nil⟩
  | d :: ds, _, _, h, r => by
    cases h with
    | cons h1 h2 =>
      cases r with
      | cons r1 r2 =>
        obtain ⟨as, q1⟩ := Dp.reads I d _ _ h1 r1
        obtain ⟨bs, q2⟩ := Dp.readsAll I ds _ _ h2 r2
        exact ⟨_, ReadsAll.cons q1 q2⟩
end
end
section
variable {X : Cx}
end
end L2
namespace L2
open PySem PySem.Spec PyProof.Rows
abbrev CellAt (h : Heap) (c : Addr) (v : Option Value) : Prop := h.IsCell c v
def relS (scope sc : Scope) : Scope :=
  { scope with names := scope.names.map fun (n, k) => if (k == .free && sc.kind == .function && sc.names.lookup n == some .cell) then (n, .cell) else (n, k) }
def cloFrom (cells : List (Str × Addr)) : List (Str × NameKind) → List (Str × Addr) → List (Str × Addr)
  | [], acc => acc
  | (n, k) :: r, acc => if k == .free then cloFrom cells r ((n, (cells.lookup n).getD 0) :: acc) else cloFrom cells r acc
theorem closure_loop (env : Env) (f : Str × NameKind → List (Str × Addr) → Sem (ForInStep (List (Str × Addr))))
    (hf : ∀ n k c, f (n, k) c = if k == .free then (do let a ← cellOf env n; pure (.yield ((n, a) :: c))) else pure (.yield c)) :
    ∀ (names : List (Str × NameKind)) (acc : List (Str × Addr)), (∀ y ∈ names, y.2 = .free → ∃ c, env.cells.lookup y.1 = some c) → forIn names acc f = pure (cloFrom env.cells names acc)
  | [], acc, _ => by rw [List.forIn_nil]; rfl
  | (n, k) :: r, acc, h => by
    rw [List.forIn_cons, hf]
    have ih := fun acc => closure_loop env f hf r acc fun y hy => h y (List.mem_cons_of_mem _ hy)
    unfold cloFrom
    by_cases hk : (k == NameKind.free) = true
    · rw [if_pos hk, if_pos hk]
      obtain ⟨c, hc⟩ := h (n, k) List.mem_cons_self (by simpa using hk)
      have e : cellOf env n = pure c := by unfold cellOf; rw [hc]
      rw [e]
      have e2 : (env.cells.lookup n).getD 0 = c := by rw [hc]; rfl
      rw [e2]
      exact ih _
    · rw [if_neg hk, if_neg hk]
      exact ih _
theorem closure_ok {scope : Scope} {env : Env} (h : ∀ y ∈ scope.names, y.2 = .free → ∃ c, env.cells.lookup y.1 = some c) : closureFor scope env = pure (cloFrom env.cells scope.names []) := by
  simp only [closureFor]
  rw [closure_loop env _ (fun n k c => rfl) scope.names [] h]
  rfl
theorem mem_lookup {α : Type} : ∀ {l : List (Str × α)} {n : Str} {c : α}, (n, c) ∈ l → ∃ c', l.lookup n = some c'
  | (k, v) :: r, n, c, h => by
    rw [List.lookup_cons]
    cases hb : n == k with
    | true => exact ⟨_, rfl⟩
    | false =>
      rcases List.mem_cons.mp h with e | h
      · cases e; simp at hb
      · exact mem_lookup h
theorem cloFrom_mem {cells : List (Str × Addr)} : ∀ {names : List (Str × NameKind)} {acc : List (Str × Addr)} {n : Str} {c : Addr}, (n, c) ∈ cloFrom cells names acc → (n, c) ∈ acc ∨ ((n, .free) ∈ names ∧ c = (cells.lookup n).getD 0)
  | [], _, _, _, h => .inl h
  | (m, k) :: r, acc, n, c, h => by
    unfold cloFrom at h
    split at h
    · rename_i hk
      have hk : k = .free := by simpa using hk
      rcases cloFrom_mem h with h | ⟨h1, h2⟩
      · rcases List.mem_cons.mp h with e | h
        · cases e; exact .inr ⟨hk ▸ List.mem_cons_self, rfl⟩
        · exact .inl h
      · exact .inr ⟨List.mem_cons_of_mem _ h1, h2⟩
    · rcases cloFrom_mem h with h | ⟨h1, h2⟩
      · exact .inl h
      · exact .inr ⟨List.mem_cons_of_mem _ h1, h2⟩
theorem cloFrom_acc {cells : List (Str × Addr)} : ∀ {names : List (Str × NameKind)} {acc : List (Str × Addr)} {p : Str × Addr}, p ∈ acc → p ∈ cloFrom cells names acc
  | [], _, _, h => h
  | (m, k) :: r, acc, p, h => by
    unfold cloFrom
    split
    · exact cloFrom_acc (List.mem_cons_of_mem _ h)
    · exact cloFrom_acc h
theorem cloFrom_has {cells : List (Str × Addr)} : ∀ {names : List (Str × NameKind)} {acc : List (Str × Addr)} {n : Str}, (n, .free) ∈ names → (n, (cells.lookup n).getD 0) ∈ cloFrom cells names acc
  | (m, k) :: r, acc, n, h => by
    unfold cloFrom
    rcases List.mem_cons.mp h with e | h
    · cases e
      exact cloFrom_acc List.mem_cons_self
    · split
      · exact cloFrom_has h
      · exact cloFrom_has h
theorem cells_mem : ∀ {names : List (Str × NameKind)} {h : Heap} {acc : List (Str × Addr)} {x : Str} {c : Addr}, (x, c) ∈ cellsFrom h.objs.size names acc →
    (x, c) ∈ acc ∨ ((x, .cell) ∈ names ∧ h.objs.size ≤ c ∧ CellAt (pushCells h names) c none)
  | [], _, _, _, _, h => .inl h
  | (n, k) :: r, h, acc, x, c, hm => by
    unfold cellsFrom at hm
    unfold pushCells
    split at hm
    · rename_i hk
      rw [if_pos hk]
      have hk : k = .cell := by simpa using hk
      rw [← Heap.size_push h { cls := .type "cell", data := .cell none }] at hm
      rcases cells_mem hm with hm | ⟨h1, h2, h3⟩
      · rcases List.mem_cons.mp hm with e | hm
        · cases e
          exact .inr ⟨hk ▸ List.mem_cons_self, Nat.le_refl _, _, pushCells_keeps r _ _ _ (Heap.get?_push_size _ rfl), rfl⟩
        · exact .inl hm
      · rw [Heap.size_push] at h2
        exact .inr ⟨List.mem_cons_of_mem _ h1, Nat.le_of_succ_le h2, h3⟩
    · rename_i hk
      rw [if_neg hk]
      rcases cells_mem hm with hm | ⟨h1, h2, h3⟩
      · exact .inl hm
      · exact .inr ⟨List.mem_cons_of_mem _ h1, h2, h3⟩
theorem cells_acc : ∀ {names : List (Str × NameKind)} {n : Nat} {acc : List (Str × Addr)} {p : Str × Addr}, p ∈ acc → p ∈ cellsFrom n names acc
  | [], _, _, _, h => h
  | (m, k) :: r, n, acc, p, h => by
    unfold cellsFrom
    split
    · exact cells_acc (List.mem_cons_of_mem _ h)
    · exact cells_acc h
theorem cells_has : ∀ {names : List (Str × NameKind)} {n : Nat} {acc : List (Str × Addr)} {x : Str}, (x, .cell) ∈ names → ∃ c, (x, c) ∈ cellsFrom n names acc
  | (m, k) :: r, n, acc, x, h => by
    unfold cellsFrom
    rcases List.mem_cons.mp h with e | h
    · cases e
      exact ⟨n, cells_acc List.mem_cons_self⟩
    · split
      · exact cells_has h
      · exact cells_has h
theorem cells_inj : ∀ {names : List (Str × NameKind)} {h : Heap} {acc : List (Str × Addr)} {x y : Str} {c : Addr}, (∀ p ∈ acc, p.2 < h.objs.size) → (∀ x y c, (x, c) ∈ acc → (y, c) ∈ acc → x = y) →
    (x, c) ∈ cellsFrom h.objs.size names acc → (y, c) ∈ cellsFrom h.objs.size names acc → x = y
  | [], _, _, _, _, _, _, hi, h1, h2 => hi _ _ _ h1 h2
  | (n, k) :: r, h, acc, x, y, c, hl, hi, h1, h2 => by
    unfold cellsFrom at h1 h2
    split at h1
    · rename_i hk
      rw [if_pos hk] at h2
      rw [← Heap.size_push h { cls := .type "cell", data := .cell none }] at h1 h2
      refine cells_inj (h := h.push _) (fun p hp => ?_) (fun x y c a b => ?_) h1 h2
      · rw [Heap.size_push]
        rcases List.mem_cons.mp hp with rfl | hp
        · exact Nat.lt_succ_self _
        · exact Nat.lt_succ_of_lt (hl p hp)
      · rcases List.mem_cons.mp a with e | a <;> rcases List.mem_cons.mp b with e' | b
        · cases e; cases e'; rfl
        · cases e; exact absurd (hl _ b) (Nat.lt_irrefl _)
        · cases e'; exact absurd (hl _ a) (Nat.lt_irrefl _)
        · exact hi _ _ _ a b
    · rename_i hk
      rw [if_neg hk] at h2
      exact cells_inj hl hi h1 h2
theorem newEnv_comp {M : Model} {A : Around} {E : Value → Shared → Prop} {s : Shared} {scope : Scope} {globals : Addr} {closure : List (Str × Addr)} {qual : Str} {func : Option Addr} {code : Value} {around : Env} {builtins : Addr} {Q : Env → Shared → Prop}
    (h : Q (newEnv scope s.heap.objs.size globals (cellsFrom (s.heap.objs.size + 1) scope.names closure) qual func code (some around) builtins)
      { s with heap := pushCells (s.heap.push { cls := .type "dict", data := .dict #[] }) scope.names }) :
    wpAny M A (newFunctionEnv scope globals closure [] qual func code (some around) builtins) Q E s := by
  simp only [newFunctionEnv, Option.isSome_some, if_true]
  refine wpAny_bind (wpAny_alloc ?_)
  refine wpAny_bind (wpAny_layCells _ (fun n k c => rfl) scope.names closure _ _ ?_)
  rw [show ({ s with heap := s.heap.push { cls := .type "dict", data := .dict #[] } } : Shared).heap.objs.size = s.heap.objs.size + 1 from Heap.size_push ..]
  rw [List.forIn_nil]
  exact wpAny_bind (wpAny_pure (wpAny_pure h))
/-- every name of the written scope, in the scope that runs -/
theorem lookup_relS {sc : Scope} : ∀ {names : List (Str × NameKind)} {x : Str} {k : NameKind},
    (names.map fun (n, k) => if (k == NameKind.free && sc.kind == .function && sc.names.lookup n == some .cell) then (n, NameKind.cell) else (n, k)).lookup x = some k →
    ∃ k', names.lookup x = some k' ∧ (k = k' ∨ (k' = .free ∧ k = .cell))
  | [], _, _, h => by simp at h
  | (n, k₀) :: r, x, k, h => by
    have ih := @lookup_relS sc r x k
    have h' : List.lookup x ((if (k₀ == NameKind.free && sc.kind == .function && sc.names.lookup n == some .cell) = true then (n, NameKind.cell) else (n, k₀)) :: (r.map _)) = some k := h
    cases hx : x == n with
    | true =>
      simp only [List.lookup_cons, hx]
      by_cases hc : (k₀ == NameKind.free && sc.kind == .function && sc.names.lookup n == some .cell) = true
      · rw [if_pos hc] at h'
        simp only [List.lookup_cons, hx] at h'
        cases h'
        simp only [Bool.and_eq_true, beq_iff_eq] at hc
        exact ⟨k₀, rfl, .inr ⟨hc.1.1, rfl⟩⟩
      · rw [if_neg hc] at h'
        simp only [List.lookup_cons, hx] at h'
        cases h'
        exact ⟨_, rfl, .inl rfl⟩
    | false =>
      simp only [List.lookup_cons, hx]
      by_cases hc : (k₀ == NameKind.free && sc.kind == .function && sc.names.lookup n == some .cell) = true
      · rw [if_pos hc] at h'
        simp only [List.lookup_cons, hx] at h'
        exact ih h'
      · rw [if_neg hc] at h'
        simp only [List.lookup_cons, hx] at h'
        exact ih h'
/-- the names of a comprehension's block: its own (with their places in N), or captured -/
structure BlkOk (N : List Str) (sc scope : Scope) (own : List (Str × Nat)) : Prop where
  kind : scope.kind = .function
  uniq : ∀ y ∈ scope.names, scope.names.lookup y.1 = some y.2
  ix : ∀ p ∈ own, N[p.2]? = some p.1
  free : ∀ y ∈ scope.names, y.2 = .free → sc.names.lookup y.1 = some .cell ∨ sc.names.lookup y.1 = some .free
  own : ∀ y ∈ scope.names, y.2 = .local ∨ y.2 = .cell → y.1 ∈ own.map (·.1) ∨ y.1 ∉ N
/-- the slots of the block's own names forgotten -/
def wipe (σ : St) : List Nat → St
  | [] => σ
  | v :: vs => (wipe σ vs).set v none
theorem wipe_length (σ : St) : ∀ vs : List Nat, (wipe σ vs).length = σ.length
  | [] => rfl
  | v :: vs => by unfold wipe; rw [List.length_set, wipe_length σ vs]
theorem wipe_some {σ : St} {i : Nat} {x : V} : ∀ {vs : List Nat}, (wipe σ vs)[i]? = some (some x) → σ[i]? = some (some x) ∧ i ∉ vs
  | [], h => ⟨h, by simp⟩
  | v :: vs, h => by
    unfold wipe at h
    by_cases hi : v = i
    · subst hi
      by_cases hv : v < (wipe σ vs).length
      · rw [List.getElem?_set_self hv] at h; cases h
      · rw [List.getElem?_eq_none (by simpa using hv)] at h; cases h
    · rw [List.getElem?_set_ne hi] at h
      obtain ⟨h1, h2⟩ := wipe_some h
      exact ⟨h1, by simp only [List.mem_cons, not_or]; exact ⟨fun e => hi e.symm, h2⟩⟩
/-- the context of a block that starts at s, its iterator's objects at fp -/
abbrev Cx.blk (X : Cx) (s : Shared) (H : Hp) (scope : Scope) (cenv : Env) (fp : List Addr) : Cx := { X with s_0 := s, H_0 := H, env := cenv, outer := X.stack, ex := fp, fn := fun x => scope.names.lookup x == some .cell, pn := [], xe := fun _ _ => False }
section
variable {X : Cx} {pins : List (Addr × Obj)} {σ : St} {H : Hp} {s : Shared}
theorem block_start {scope : Scope} {own : List (Str × Nat)} {fp : List Addr} (I : Inv X pins σ H s) (ok : BlkOk X.N X.env.scope scope own) (hN : X.N.Nodup) (hfp : ∀ b ∈ fp, FpOk X pins H b ∧ b < s.heap.objs.size) :
    Inv (X.blk s H scope (compEnvC scope (cellsFrom (s.heap.objs.size + 1) scope.names (cloFrom X.env.cells scope.names [])) s.heap.objs.size X.env) fp) [] (wipe σ (own.map (·.2))) H { s with heap := pushCells (s.heap.push { cls := .type "dict", data := .dict #[] }) scope.names } := by
  have hfree : ∀ y ∈ scope.names, y.2 = .free → ∃ c, X.env.cells.lookup y.1 = some c := fun y hy e => by
    rcases ok.free y hy e with k | k
    · exact I.ok.has _ (.inl k)
    · exact I.ok.has _ (.inr k)
  generalize hcenv : compEnvC scope (cellsFrom (s.heap.objs.size + 1) scope.names (cloFrom X.env.cells scope.names [])) s.heap.objs.size X.env = cenv
  have kp : ∀ b o, s.heap.get? b = some o → (pushCells (s.heap.push { cls := .type "dict", data := .dict #[] }) scope.names).get? b = some o := fun b o e => pushCells_keeps _ _ _ _ (Heap.get?_push_of_some _ e)
  have hL : cenv.locals = s.heap.objs.size := by rw [← hcenv]; rfl
  have hcl : cenv.cells = cellsFrom (s.heap.objs.size + 1) scope.names (cloFrom X.env.cells scope.names []) := by rw [← hcenv]; rfl
  have hsc : cenv.scope = relS scope X.env.scope := by rw [← hcenv]; rfl
  rw [← Heap.size_push s.heap { cls := .type "dict", data := .dict #[] }] at hcl
  have cm : ∀ {y c}, (y, c) ∈ cloFrom X.env.cells scope.names [] → X.env.cells.lookup y = some c ∧ c < s.heap.objs.size := fun {y c} hm => by
    rcases cloFrom_mem hm with hm | ⟨h1, rfl⟩
    · cases hm
    · obtain ⟨c, hc⟩ := hfree _ h1 rfl
      rw [hc]
      obtain ⟨w, z⟩ := I.cell _ _ hc
      exact ⟨rfl, z.lt⟩
  have mem : ∀ {y c}, cenv.cells.lookup y = some c → (X.env.cells.lookup y = some c ∧ c < s.heap.objs.size) ∨ (s.heap.objs.size + 1 ≤ c ∧ CellAt (pushCells (s.heap.push { cls := .type "dict", data := .dict #[] }) scope.names) c none) := fun {y c} e => by
    rw [hcl] at e
    rcases cells_mem (PySem.mem_of_lookup e) with hm | ⟨_, h2, h3⟩
    · exact .inl (cm hm)
    · rw [Heap.size_push] at h2; exact .inr ⟨h2, h3⟩
  have look : ∀ {y}, scope.names.lookup y = some .free → ∃ c, cenv.cells.lookup y = some c ∧ X.env.cells.lookup y = some c := fun {y} hl => by
    have hy : (y, NameKind.free) ∈ scope.names := PySem.mem_of_lookup hl
    obtain ⟨c', e'⟩ := mem_lookup (cells_acc (names := scope.names) (n := (s.heap.push { cls := .type "dict", data := .dict #[] }).objs.size) (cloFrom_has (cells := X.env.cells) (acc := []) hy))
    rw [← hcl] at e'
    refine ⟨c', e', ?_⟩
    rw [hcl] at e'
    rcases cells_mem (PySem.mem_of_lookup e') with hm | ⟨h1, _, _⟩
    · exact (cm hm).1
    · have := ok.uniq _ h1
      rw [hl] at this; cases this
  have okB : (X.blk s H scope cenv fp).Ok := by
    refine ⟨I.ok.mod, by show cenv.scope.kind = _; rw [hsc]; exact ok.kind, by show cenv.globals = _; rw [← hcenv]; exact I.ok.glob, by show cenv.builtins = _; rw [← hcenv]; exact I.ok.blt, by show s.heap.objs.size ≤ cenv.locals; rw [hL]; exact Nat.le_refl _,
      fun y z c e1 e2 => ?_, fun y hy => ?_, fun y c z e => ?_, I.ok.hd, I.ok.frames, .inl rfl, fun b hb => ⟨?_, fun y c e z => ?_⟩, I.bs, Nat.le_trans I.ok.bsz I.sz, fun b o e hb => ?_, fun b hb z => ?_, I.stack, I.stkFree⟩
    · have e1 : cenv.cells.lookup y = some c := e1
      have e2 : cenv.cells.lookup z = some c := e2
      rw [hcl] at e1 e2
      refine cells_inj (fun p hp => ?_) (fun y z c a b => I.ok.inj y z c (cm a).1 (cm b).1) (PySem.mem_of_lookup e1) (PySem.mem_of_lookup e2)
      rw [Heap.size_push]
      exact Nat.lt_succ_of_lt (cm (y := p.1) (c := p.2) hp).2
    · show ∃ c, cenv.cells.lookup y = some c
      have key : ∀ k, cenv.kindOf y = some k → (k = .cell ∨ k = .free) → ∃ c, cenv.cells.lookup y = some c := fun k hk hk' => by
        unfold Env.kindOf at hk
        rw [hsc] at hk
        obtain ⟨k', e, r⟩ := lookup_relS hk
        have : k' = .cell ∨ k' = .free := by
          rcases r with rfl | ⟨rfl, _⟩
          · exact hk'
          · exact .inr rfl
        rcases this with rfl | rfl
        · obtain ⟨c, hm⟩ := cells_has (n := (s.heap.push { cls := .type "dict", data := .dict #[] }).objs.size) (acc := cloFrom X.env.cells scope.names []) (PySem.mem_of_lookup e)
          obtain ⟨c', e'⟩ := mem_lookup hm
          exact ⟨c', by rw [hcl]; exact e'⟩
        · obtain ⟨c, h1, _⟩ := look e
          exact ⟨c, h1⟩
      rcases hy with hy | hy
      · exact key _ hy (.inl rfl)
      · exact key _ hy (.inr rfl)
    · have z : (scope.names.lookup y == some NameKind.cell) = true := z
      have z : scope.names.lookup y = some .cell := by simpa using z
      have e : cenv.cells.lookup y = some c := e
      rw [hcl] at e
      rcases cells_mem (PySem.mem_of_lookup e) with hm | ⟨_, h2, _⟩
      · rcases cloFrom_mem hm with hm | ⟨h1, _⟩
        · cases hm
        · have q := ok.uniq _ h1
          rw [z] at q; cases q
      · rw [Heap.size_push] at h2
        exact Nat.le_of_succ_le h2
    · show b ≠ cenv.locals
      rw [hL]; exact Nat.ne_of_lt (hfp b hb).2
    · have e : cenv.cells.lookup y = some c := e
      rcases mem e with ⟨h1, _⟩ | ⟨h1, _⟩
      · exact (hfp b hb).1.2.2.2.2.1 y c h1 z
      · have h2 : s.heap.objs.size + 1 ≤ b := by rw [← z]; exact h1
        exact absurd (Nat.lt_of_lt_of_le (hfp b hb).2 (Nat.le_of_succ_le h2)) (Nat.lt_irrefl _)
    · rcases (hfp b hb).1.2.2.2.1 with z | z
      · exact I.ok.noex b o e z
      · exact absurd (Nat.lt_of_lt_of_le (Heap.lt_size e) (Nat.le_trans I.ok.bsz z)) (Nat.lt_irrefl _)
    · rcases List.mem_cons.mp (I.stkSub b z) with z | z
      · exact (hfp b hb).1.2.1 z
      · exact (hfp b hb).1.2.2.1 z
  refine ⟨okB, rfl, I.bare, Un.kept kp, ⟨fun _ => none, ?_, fun i y av e1 e2 e3 => ?_⟩, fun y c e => ?_, ?_, fun y c e => ?_, fun p hp => ?_, I.hok.kept kp, by rw [wipe_length]; exact I.len⟩
  · show Heap.Ns _ cenv.locals _
    rw [hL]
    exact Heap.Ns.keeps (Heap.Ns.new ..) fun b o e => pushCells_keeps _ _ _ _ e
  · obtain ⟨e2, hne⟩ := wipe_some e2
    have hfr : scope.names.lookup y = some .free ∧ (cenv.kindOf y = some .cell ∨ cenv.kindOf y = some .free) := by
      have key : ∀ k, cenv.scope.names.lookup y = some k → k = .local ∨ k = .cell ∨ k = .free → scope.names.lookup y = some .free ∧ (cenv.kindOf y = some .cell ∨ cenv.kindOf y = some .free) := fun k hk hk' => by
        have hk0 := hk
        rw [hsc] at hk
        obtain ⟨k', e, r⟩ := lookup_relS hk
        have no : ¬ (k' = .local ∨ k' = .cell) := fun hh => by
          rcases ok.own _ (PySem.mem_of_lookup e) hh with e' | e'
          · obtain ⟨p, hp, hpy⟩ := List.mem_map.mp e'
            have e3 := ok.ix p hp
            have : p.1 = y := hpy
            rw [this] at e3
            exact hne (List.mem_map.mpr ⟨p, hp, nodup_ix hN e3 e1⟩)
          · exact e' (List.mem_of_getElem? e1)
        rcases r with rfl | ⟨rfl, rfl⟩
        · rcases hk' with rfl | rfl | rfl
          · exact absurd (.inl rfl) no
          · exact absurd (.inr rfl) no
          · exact ⟨e, .inr hk0⟩
        · exact ⟨e, .inl hk0⟩
      have e3 : Vis cenv.scope y := e3
      rcases e3 with e3 | e3 | e3
      · exact key _ e3 (.inl rfl)
      · exact key _ e3 (.inr (.inl rfl))
      · exact key _ e3 (.inr (.inr rfl))
    obtain ⟨m, hn, hl⟩ := I.loc
    have hvis : Vis X.env.scope y := (ok.free _ (PySem.mem_of_lookup hfr.1) rfl).elim (fun k => .inr (.inl k)) (fun k => .inr (.inr k))
    obtain ⟨w, r, q⟩ := hl i y av e1 e2 hvis
    refine ⟨w, r, .inr ⟨hfr.2, ?_⟩⟩
    obtain ⟨c, h1, h2⟩ := look hfr.1
    rcases q with ⟨k, _⟩ | ⟨_, c', e', z⟩
    · have k : X.env.scope.names.lookup y = some .local := k
      rcases ok.free _ (PySem.mem_of_lookup hfr.1) rfl with k' | k' <;> rw [show X.env.scope.names.lookup y = _ from k'] at k <;> cases k
    · rw [h2] at e'; cases e'
      exact ⟨c, h1, z.keeps kp⟩
  · have e : cenv.cells.lookup y = some c := e
    rcases mem e with ⟨h1, _⟩ | ⟨_, z⟩
    · obtain ⟨w, z⟩ := I.cell y c h1
      exact ⟨w, z.keeps kp⟩
    · exact ⟨_, z⟩
  · show H cenv.locals = none
    rw [hL]; exact I.hok.fresh (Nat.le_refl _)
  · have e : cenv.cells.lookup y = some c := e
    rcases mem e with ⟨h1, _⟩ | ⟨h1, _⟩
    · exact I.freeC y c h1
    · exact I.hok.fresh (Nat.le_of_succ_le h1)
  · exact absurd (show p ∈ ([] : List (Addr × Obj)) ++ [] from hp) (by simp)
/-- an item appended to a tracked list -/
theorem app_ok {E : Value → Shared → Prop} {D : Addr} {xs : List V} {y : V} {v : Value} {Q : Value → Shared → Prop} (I : Inv X pins σ H s) (hD : H D = some (.lst xs)) (hz : xs.length < sizeLine) (r : RelV y v)
    (h : ∀ s', Inv X pins σ (upd H D (.lst (xs ++ [y]))) s' → Q .none s') : wpAny (model X.prog X.w) X.A (call (.builtin "list.append") [.ref D, v]) Q E s := by
  obtain ⟨hz', its, n, ri, e⟩ := I.hok D _ hD
  have hl := ri.length
  refine append_at (hsz := by rw [List.size_toArray]; omega) e fun h' sb ho' => ?_
  refine h { s with heap := h' } (I.write (t' := s.toks) (by rw [hD]; trivial) (.inl rfl) (fun b u hb q => (sb.2 b hb).trans q) ⟨_, ho'⟩ ⟨by rw [List.length_append]; exact hz, its ++ [v], n + 1, ri.append (.cons r .nil), ?_⟩)
  rw [ho']
  simp
/-- a clause's tests -/
def PTs (X : Cx) (ifs : List Expr) (t : TT) : Prop :=
  ∀ (pins : List (Addr × Obj)) (s : Shared) (σ : St) (H : Hp) (Q : Bool → Hp → Prop), Inv X pins σ H s → t σ H Q →
    wpAny (model X.prog X.w) X.A (forIn ifs true fun c r => if r = true then do let ok ← isTrue c X.env (eval c X.env); pure (ForInStep.yield ok) else pure (ForInStep.yield r)) (TP X pins σ Q) X.xe s
def tYes : TT := fun _ H Q => Q true H
theorem pts_nil : PTs X [] tYes := fun _ _ _ H _ I h => wpAny_tests_nil ⟨H, I, h⟩
theorem pts_one {c : Expr} {t : TT} (h : PT X c t) : PTs X [c] t := fun pins s σ H Q I hw => wpAny_tests_one (h pins s σ H Q I hw)
end
theorem thnF {α : Type} {t : Sem α} {Q Q' : α → Shared → Prop} {M : Model} {A : Around} {E : Value → Shared → Prop} {s : Shared} (h : wpAny M A t Q (fun _ _ => False) s) (hQ : ∀ a s, Q a s → Q' a s) : wpAny M A t Q' E s := wpAny_mono h hQ fun _ _ z => False.elim z
/-- the loop of a list comprehension's block, the target of any form (codeAny_compLoop_tests asks a target that no tuple goes to; statement and proof follow it, PyProof/CompMap.lean:41-61, with the step letOwnedTupleGo kept) -/
theorem compLoop_any {prog : Program} {w : World} {A : Around} {R : Result → Shared → Prop} {s : Shared} {elt target iter : Expr} {ifs : List Expr} {scope : Scope} {pos : Pos} {it acc : Value} {env : Env} (I : Nat → Shared → Prop)
    (turn : ∀ n s, I n s → wpAny (model prog w) A (pyNext it) (fun r s₁ => match r with
      | none => R (.ok .next) s₁
      | some v => wpAny (model prog w) A (letOwnedTupleGo target it v) (fun _ s₁' => wpAny (model prog w) A (assign target env v) (fun _ s₂ =>
          wpAny (model prog w) A (forIn ifs true fun c r => if r = true then do let ok ← isTrue c env (eval c env); pure (ForInStep.yield ok) else pure (ForInStep.yield r)) (fun ok s₃ =>
            if ok = true then wpAny (model prog w) A (eval elt env) (fun x s₄ =>
              wpAny (model prog w) A (call (.builtin "list.append") [acc, x]) (fun _ s₅ => ∃ m, m < n ∧ I m s₅) (notedBy (model prog w) A env fun e s' => R (.error e) s') s₄) (notedBy (model prog w) A env fun e s' => R (.error e) s') s₃
            else ∃ m, m < n ∧ I m s₃) (notedBy (model prog w) A env fun e s' => R (.error e) s') s₂) (notedBy (model prog w) A env fun e s' => R (.error e) s') s₁') (notedBy (model prog w) A env fun e s' => R (.error e) s') s₁) (notedBy (model prog w) A env fun e s' => R (.error e) s') s)
    (n : Nat) (h : I n s) :
    codeAny (model prog w) A (.compLoop (.ListComp elt [⟨target, iter, ifs, 0⟩] scope pos) 0 it acc env) R s := by
  refine codeAny_loop rfl I (fun n s hI => ?_) n h
  show wpAny _ A ((compTurn (.ListComp elt [⟨target, iter, ifs, 0⟩] scope pos) 0 it acc env).onRaise (fun x => do noteFrame x env; theTreesLotGoes x)) _ _ s
  refine wpAny_noted ?_
  rw [compTurn_list]
  refine wpAny_bind (wpAny_standAt (wpAny_bind (wpAny_mono (turn n s hI) (fun r s₁ h₁ => ?_) fun _ _ h' => h')))
  cases r with
  | none => exact wpAny_pure h₁
  | some v =>
    refine wpAny_bind (wpAny_mono h₁ (fun _ s₁' h₁' => ?_) fun _ _ h' => h')
    refine wpAny_bind (wpAny_mono h₁' (fun _ s₂ h₂ => wpAny_bind (wpAny_mono h₂ (fun ok s₃ h₃ => ?_) fun _ _ h' => h')) fun _ _ h' => h')
    cases ok with
    | false => exact wpAny_pure ⟨rfl, h₃⟩
    | true =>
      exact wpAny_bind (wpAny_bind (wpAny_mono h₃ (fun x s₄ h₄ => wpAny_bind (wpAny_mono h₄ (fun _ s₅ h₅ => wpAny_pure (wpAny_pure ⟨rfl, h₅⟩)) fun _ _ h' => h')) fun _ _ h' => h'))
section
variable {X : Cx}
/-- [elt for target in iter if ..]: D the new list; W by the turn and a measure, Nx what a turn is to reach -/
def tLc (wi : TI) (g : TG) (tt : TT) (te : TE) (vs : List Nat) : TE := fun σ H Q => wi σ H fun J H1 => ∀ D, H1 D = none → ∃ W : Nat → Nat → Hp → Prop, (∃ m, W 0 m (upd H1 D (.lst []))) ∧ ∀ i m H, W i m H →
  (J.stop i H ∧ Q (.ref D) H) ∨ (J.go i H ∧ ∃ Nx : Hp → Prop, (∀ H', Nx H' → ∃ m', m' < m ∧ W (i + 1) m' H') ∧ ∀ x H', J.yld i H x H' → g x (wipe σ vs) H' fun σ2 H2 => wipe σ2 vs = wipe σ vs ∧ tt σ2 H2 fun b H3 =>
    if b = true then te σ2 H3 fun y H4 => ∃ acc, H4 D = some (.lst acc) ∧ acc.length < sizeLine ∧ Nx (upd H4 D (.lst (acc ++ [y]))) else Nx H3)
theorem lc_core {pins : List (Addr × Obj)} {s : Shared} {σ : St} {H : Hp} {Q : VK} {elt tg iter : Expr} {ifs : List Expr} {scope : Scope} {own : List (Str × Nat)} {pos pos' : Pos} {wi : TI} {g : TG} {tt : TT} {te : TE} {use : Option (Value → Sem Unit)} {Qf : Value → Shared → Prop}
    (hc : X.calm = true) (hN : X.N.Nodup) (I : Inv X pins σ H s) (hi : PI X tg iter wi) (ok : BlkOk X.N X.env.scope scope own)
    (hg : ∀ (s : Shared) (H : Hp) (C : Addr) (cl : List (Str × Addr)) (fp : List Addr), PG (X.blk s H scope (compEnvC scope cl C X.env) fp) tg g) (ht : ∀ (s : Shared) (H : Hp) (C : Addr) (cl : List (Str × Addr)) (fp : List Addr), PTs (X.blk s H scope (compEnvC scope cl C X.env) fp) ifs tt)
    (he : ∀ (s : Shared) (H : Hp) (C : Addr) (cl : List (Str × Addr)) (fp : List Addr), PE (X.blk s H scope (compEnvC scope cl C X.env) fp) elt te) (hs : ∀ x, foldedSetIterable iter X.env x = pure x)
    (h : tLc wi g tt te (own.map (·.2)) σ H Q)
    (hRR : ∀ D C s' m H', Inv X pins σ H' s' → Q (.ref D) H' → s'.heap.Ns C m → FpOk X pins H' C → compPost (model X.prog X.w) X.A X.xe use Qf (.ref D) C (.ok .next) s') :
    wpAny (model X.prog X.w) X.A (comprehension (.ListComp elt [⟨tg, iter, ifs, 0⟩] scope pos) scope X.env pos' (newList []) false (eval iter X.env) use) Qf X.xe s := by
  have hfree : ∀ y ∈ scope.names, y.2 = .free → ∃ c, X.env.cells.lookup y.1 = some c := fun y hy e => by
    rcases ok.free y hy e with k | k
    · exact I.ok.has _ (.inl k)
    · exact I.ok.has _ (.inr k)
  refine wpAny_comprehension_free (use := use) rfl hs (closure_ok hfree) ok.kind (fun y hy e => by rw [ok.uniq y hy, e])
    (thn (hi pins s σ H _ I h) fun xv s1 hx => thn hx fun itv s2 h2 => ?_)
  obtain ⟨it, fp, tn, J, H2, e, I2, T, st2, f2, q⟩ := h2
  subst e
  refine wpAny_newObj_type (newEnv_comp ?_) (by show 0 ≤ sizeLine; decide)
  generalize hD : s2.heap.objs.size = D
  have hDn : H2 D = none := I2.hok.fresh (Nat.le_of_eq hD)
  obtain ⟨W, ⟨m0, w0⟩, turn⟩ := q D hDn
  -- the new list
  generalize hs3 : ({ s2 with heap := s2.heap.push { cls := .type "list", data := .seq ([] : List Value).toArray } } : Shared) = s3
  have I3 : Inv X pins σ (upd H2 D (.lst [])) s3 := by
    rw [← hs3]
    refine I2.laid (t' := s2.toks) (fun b o e => Heap.get?_push_of_some _ e) (Nat.le_of_eq hD) ⟨Nat.zero_le _, [], 0, .nil, ?_⟩
    rw [← hD]
    exact Heap.get?_push_size _ rfl
  have h3 : s3.heap = s2.heap.push { cls := .type "list", data := .seq ([] : List Value).toArray } := by rw [← hs3]
  have sz : ∀ b ∈ fp, b < s2.heap.objs.size := fun b hb => by
    obtain ⟨o, e, _⟩ := T.obj _ _ st2 b hb
    exact Heap.lt_size e
  have f3 : ∀ b ∈ fp, FpOk X pins (upd H2 D (.lst [])) b ∧ b < s3.heap.objs.size := fun b hb => by
    have hlt := sz b hb
    refine ⟨⟨?_, (f2 b hb).2⟩, by rw [h3, Heap.size_push]; exact Nat.lt_succ_of_lt hlt⟩
    rw [upd_ne (by rw [← hD]; exact Nat.ne_of_lt hlt)]
    exact (f2 b hb).1
  have st3 : tn 0 s3.heap := T.keep _ _ _ st2 fun b _ o e => by rw [h3]; exact Heap.get?_push_of_some _ e
  have I4 := block_start I3 ok hN f3
  have pg := hg s3 (upd H2 D (.lst [])) s3.heap.objs.size (cellsFrom (s3.heap.objs.size + 1) scope.names (cloFrom X.env.cells scope.names [])) fp
  have pt := ht s3 (upd H2 D (.lst [])) s3.heap.objs.size (cellsFrom (s3.heap.objs.size + 1) scope.names (cloFrom X.env.cells scope.names [])) fp
  have pe := he s3 (upd H2 D (.lst [])) s3.heap.objs.size (cellsFrom (s3.heap.objs.size + 1) scope.names (cloFrom X.env.cells scope.names [])) fp
  show codeAny _ _ (.compStart (.ListComp elt [⟨tg, iter, ifs, 0⟩] scope pos) 0 (.ref it) (.ref D) (compEnvC scope (cellsFrom (s3.heap.objs.size + 1) scope.names (cloFrom X.env.cells scope.names [])) s3.heap.objs.size X.env)) (compPost (model X.prog X.w) X.A X.xe use Qf (.ref D) s3.heap.objs.size) { s3 with heap := pushCells (s3.heap.push { cls := .type "dict", data := .dict #[] }) scope.names }
  have nfp : ∀ b ∈ fp, (upd H2 D (.lst [])) b = none := fun b hb => (f3 b hb).1.1
  generalize hce : compEnvC scope (cellsFrom (s3.heap.objs.size + 1) scope.names (cloFrom X.env.cells scope.names [])) s3.heap.objs.size X.env = ce at I4 pg pt pe ⊢
  have cL : ce.locals = s3.heap.objs.size := by subst hce; rfl
  generalize hH3 : upd H2 D (.lst []) = H3 at I3 I4 pg pt pe w0 nfp f3
  generalize hs4 : ({ s3 with heap := pushCells (s3.heap.push { cls := .type "dict", data := .dict #[] }) scope.names } : Shared) = s4 at I4 ⊢
  have st4 : tn 0 s4.heap := T.keep _ _ _ st3 fun b _ o e => by rw [← hs4]; exact pushCells_keeps _ _ _ _ (Heap.get?_push_of_some _ e)
  have stat : ∀ {σ' : St} {H' : Hp} {s' : Shared}, Inv (X.blk s3 H3 scope ce fp) [] σ' H' s' → (∀ b ∈ fp, H' b = none) → ∀ b ∈ fp, FpOk (X.blk s3 H3 scope ce fp) [] H' b := fun {σ' H' s'} I' hn b hb =>
    ⟨hn b hb, (I'.ok.exf b hb).1, I'.ok.exfs b hb, .inl hb, fun x c e => (I'.ok.exf b hb).2 x c e, fun p hp => absurd (show p ∈ ([] : List (Addr × Obj)) ++ [] from hp) (by simp)⟩
  have loop : codeAny (model X.prog X.w) X.A (.compLoop (.ListComp elt [⟨tg, iter, ifs, 0⟩] scope pos) 0 (.ref it) (.ref D) ce) (compPost (model X.prog X.w) X.A X.xe use Qf (.ref D) s3.heap.objs.size) s4 := by
    refine compLoop_any (fun n s' => ∃ i H', Inv (X.blk s3 H3 scope ce fp) [] (wipe σ (own.map (·.2))) H' s' ∧ tn i s'.heap ∧ (∀ b ∈ fp, H' b = none) ∧ W i n H') ?_ m0 ⟨0, H3, I4, st4, nfp, w0⟩
    rintro n s5 ⟨i, H5, I5, st5, n5, w5⟩
    rcases turn i n H5 w5 with ⟨stop, qq⟩ | ⟨go, Nx, hNx, step⟩
    · have td := T.done (X.blk s3 H3 scope ce fp) rfl rfl rfl hc i [] s5 _ H5 (fun _ _ => False) I5 (stat I5 n5) st5 stop
      refine thnF td fun r s6 ⟨hr, I6⟩ => ?_
      subst hr
      -- back in the def's context
      have I7 : Inv X pins σ H5 s6 := I3.call' (ch := fp) I6.os I6.base I6.hok I6.bare fun b hb => ⟨(f3 b hb).1.2.2.2.1, (f3 b hb).1.2.1, (f3 b hb).1.2.2.2.2.1, (f3 b hb).1.2.2.2.2.2⟩
      have nC : H5 s3.heap.objs.size = none := by
        have z : H5 ce.locals = none := I6.free
        rw [cL] at z
        exact z
      obtain ⟨m, hn, _⟩ := I6.loc
      have hn : s6.heap.Ns ce.locals m := hn
      rw [cL] at hn
      exact hRR D s3.heap.objs.size s6 m H5 I7 qq hn (I3.fpOk (Nat.le_refl _) nC)
    · have ti := T.item (X.blk s3 H3 scope ce fp) rfl rfl rfl hc i [] s5 _ H5 (fun _ _ => False) I5 (stat I5 n5) st5 go
      refine thnF ti fun r s6 ⟨u, hr, h6⟩ => ?_
      subst hr
      refine thnF h6 fun _ s7 ⟨x, H7, I7, r7, y7, st7, n7⟩ => ?_
      have I7' := I7.pinned (stat I7 n7) (T.obj _ _ st7)
      refine thnF (pg _ s7 _ H7 x u _ I7' r7 (step x H7 y7)) fun _ s8 ⟨σ8, H8, I8, hw8, q8⟩ => ?_
      refine thnF (pt _ s8 σ8 H8 _ I8 q8) fun b s9 ⟨H9, I9, q9⟩ => ?_
      -- the turn's end
      have fin : ∀ {s' : Shared} {H' : Hp}, Inv (X.blk s3 H3 scope ce fp) ([] ++ pinsAt fp s7.heap) σ8 H' s' → Nx H' → ∃ m, m < n ∧ ∃ i H', Inv (X.blk s3 H3 scope ce fp) [] (wipe σ (own.map (·.2))) H' s' ∧ tn i s'.heap ∧ (∀ b ∈ fp, H' b = none) ∧ W i m H' := fun {s' H'} I' nx => by
        obtain ⟨m', hm, w'⟩ := hNx H' nx
        have pin' : ∀ b ∈ fp, ∀ o, s7.heap.get? b = some o → s'.heap.get? b = some o ∧ H' b = none := fun b hb o e =>
          let z := I'.pin (b, o) (List.mem_append_right _ (List.mem_append_right _ (mem_pinsAt hb e)))
          ⟨z.1, z.2.1⟩
        have hl : (wipe σ (own.map (·.2))).length = σ8.length := by rw [← hw8, wipe_length]
        refine ⟨m', hm, i + 1, H', (I'.unpinned (pins := [])).weak hl (fun j v e => ?_), T.keep _ _ _ st7 fun b hb o e => (pin' b hb o e).1, fun b hb => ?_, w'⟩
        · rw [← hw8] at e
          exact (wipe_some e).1
        · obtain ⟨o, e, _⟩ := T.obj _ _ st7 b hb
          exact (pin' b hb o e).2
      cases b with
      | false =>
        simp only [Bool.false_eq_true, if_false] at q9 ⊢
        exact fin I9 q9
      | true =>
        simp only [if_true] at q9 ⊢
        refine thnF (pe _ s9 σ8 H9 _ I9 q9) fun z s10 ⟨yv, H10, I10, r10, acc, hD10, hz10, nx⟩ => ?_
        exact app_ok (X := X.blk s3 H3 scope ce fp) I10 hD10 hz10 r10 fun s11 I11 => fin I11 nx
  exact codeAny_compStart_list loop (T.self X.A 0 _ _ _ st4 loop)
/-- as a value -/
theorem pe_lc {elt tg iter : Expr} {ifs : List Expr} {scope : Scope} {own : List (Str × Nat)} {pos : Pos} {wi : TI} {g : TG} {tt : TT} {te : TE} (hc : X.calm = true) (hN : X.N.Nodup) (hi : PI X tg iter wi) (ok : BlkOk X.N X.env.scope scope own)
    (hg : ∀ (s : Shared) (H : Hp) (C : Addr) (cl : List (Str × Addr)) (fp : List Addr), PG (X.blk s H scope (compEnvC scope cl C X.env) fp) tg g) (ht : ∀ (s : Shared) (H : Hp) (C : Addr) (cl : List (Str × Addr)) (fp : List Addr), PTs (X.blk s H scope (compEnvC scope cl C X.env) fp) ifs tt)
    (he : ∀ (s : Shared) (H : Hp) (C : Addr) (cl : List (Str × Addr)) (fp : List Addr), PE (X.blk s H scope (compEnvC scope cl C X.env) fp) elt te) (hs : ∀ x, foldedSetIterable iter X.env x = pure x := by intro _; rfl) :
    PE X (.ListComp elt [⟨tg, iter, ifs, 0⟩] scope pos) (tLc wi g tt te (own.map (·.2))) := by
  intro pins s σ H Q I h
  rw [eval_ListComp]
  refine lc_core hc hN I hi ok hg ht he hs h fun D C s' m H' I' q hn f => ⟨m, hn, fun h'' sb => ?_⟩
  obtain ⟨f0, f1, f2, f3, f4, f5⟩ := f
  exact ⟨.ref D, H', I'.turned (t' := s'.toks) (fun b o hb e => (sb.2 b hb).trans e) f0 f1 f3 f4 f5, rfl, q⟩
/-- name = [..] on one line, the name a local -/
theorem ps_setLc {i : Nat} {y : Str} {py : Pos} {elt tg iter : Expr} {ifs : List Expr} {scope : Scope} {own : List (Str × Nat)} {pos spos : Pos} {wi : TI} {g : TG} {tt : TT} {te : TE} (hc : X.calm = true) (hN : X.N.Nodup) (hy : X.N[i]? = some y) (hyl : X.env.scope.names.lookup y = some .local)
    (hsw : swapsWith (.ListComp elt [⟨tg, iter, ifs, 0⟩] scope pos) (some (.Name y py)) spos.line X.env = pure true) (hi : PI X tg iter wi) (ok : BlkOk X.N X.env.scope scope own)
    (hg : ∀ (s : Shared) (H : Hp) (C : Addr) (cl : List (Str × Addr)) (fp : List Addr), PG (X.blk s H scope (compEnvC scope cl C X.env) fp) tg g) (ht : ∀ (s : Shared) (H : Hp) (C : Addr) (cl : List (Str × Addr)) (fp : List Addr), PTs (X.blk s H scope (compEnvC scope cl C X.env) fp) ifs tt)
    (he : ∀ (s : Shared) (H : Hp) (C : Addr) (cl : List (Str × Addr)) (fp : List Addr), PE (X.blk s H scope (compEnvC scope cl C X.env) fp) elt te) (hs : ∀ x, foldedSetIterable iter X.env x = pure x := by intro _; rfl) :
    PS X (.Assign [.Name y py] (.ListComp elt [⟨tg, iter, ifs, 0⟩] scope pos) spos) (tAsg (tLc wi g tt te (own.map (·.2))) (gName i)) := by
  intro pins s σ H D I h
  rw [exec_Assign_Name_used _ _ _ _ hsw]
  refine wpAny_bind (wpAny_standAt (wpAny_bind ?_))
  show wpAny _ X.A (do let _ ← comprehension (.ListComp elt [⟨tg, iter, ifs, 0⟩] scope pos) scope X.env (firstIterPos [⟨tg, iter, ifs, 0⟩] pos) (newList []) false (eval iter X.env) (some (assign (.Name y py) X.env))) _ _ s
  have h : tLc wi g tt te (own.map (·.2)) σ H (fun x H1 => gName i x σ H1 D.nx) := h
  refine wpAny_bind (thn (lc_core (Qf := fun _ s' => SP X pins D .next s') hc hN I hi ok hg ht he hs h fun L C s' m H' I' q hn f => ?_) fun _ s' hq => wpAny_pure (wpAny_pure hq))
  show wpAny _ _ (assign (.Name y py) X.env (.ref L)) _ _ _
  refine wpAny_assign_Name (store_ok2 (v := V.ref L) I' hN hy (.inl hyl) rfl (fun s2 I2 ⟨a, sb, ha⟩ => ?_) (.inr hyl))
  obtain ⟨f0, f1, f2, f3, f4, f5⟩ := f
  have haC : C ≠ a := by
    rcases ha with z | z
    · rw [z]; exact f1
    · exact fun e => f4 y a z e.symm
  refine ⟨m, hn.sameBut sb haC, fun h3 sb3 => ?_⟩
  exact ⟨_, H', I2.turned (t' := s2.toks) (fun b o hb e => (sb3.2 b hb).trans e) f0 f1 f3 f4 f5, q⟩
theorem sw_true {elt : Expr} {gs : List Comprehension} {scope : Scope} {pos py : Pos} {y : Str} {l : Nat} {env : Env} (hk : env.scope.kind = .function) (hy : env.scope.names.lookup y = some .local) (hl : (py.line == pos.line) = true)
    (ha : (scope.names.any fun (n, k) => n == y && (k == .local || k == .cell)) = false) : swapsWith (.ListComp elt gs scope pos) (some (.Name y py)) l env = pure true := by
  have ky : env.kindOf y = some .local := hy
  have hb : env.blockKind = .function := by unfold Env.blockKind; rw [hk]; rfl
  unfold swapsWith
  simp only [hb, ky, ha, Expr.pos, hl]
  rfl
end
/-- over a range: Pv by the turn and the heap (the new list at D within) -/
theorem lc_range {lo : Int} {n : Nat} {g : TG} {tt : TT} {te : TE} {vs : List Nat} {σ : St} {H1 : Hp} {D : Addr} {Qd : Hp → Prop} (Pv : Nat → Hp → Prop) (h0 : Pv 0 (upd H1 D (.lst [])))
    (hs : ∀ i H, i < n → Pv i H → g (.int (lo + i)) (wipe σ vs) H fun σ2 H2 => wipe σ2 vs = wipe σ vs ∧ tt σ2 H2 fun b H3 =>
      if b = true then te σ2 H3 fun y H4 => ∃ acc, H4 D = some (.lst acc) ∧ acc.length < sizeLine ∧ Pv (i + 1) (upd H4 D (.lst (acc ++ [y]))) else Pv (i + 1) H3) (hd : ∀ H, Pv n H → Qd H) :
    ∃ W : Nat → Nat → Hp → Prop, (∃ m, W 0 m (upd H1 D (.lst []))) ∧ ∀ i m H, W i m H →
      ((Itr lo n).stop i H ∧ Qd H) ∨ ((Itr lo n).go i H ∧ ∃ Nx : Hp → Prop, (∀ H', Nx H' → ∃ m', m' < m ∧ W (i + 1) m' H') ∧ ∀ x H', (Itr lo n).yld i H x H' → g x (wipe σ vs) H' fun σ2 H2 => wipe σ2 vs = wipe σ vs ∧ tt σ2 H2 fun b H3 =>
        if b = true then te σ2 H3 fun y H4 => ∃ acc, H4 D = some (.lst acc) ∧ acc.length < sizeLine ∧ Nx (upd H4 D (.lst (acc ++ [y]))) else Nx H3) := by
  refine ⟨fun i m H => m = n - i ∧ i ≤ n ∧ Pv i H, ⟨n, by simp, Nat.zero_le _, h0⟩, ?_⟩
  rintro i m H ⟨rfl, hi, p⟩
  by_cases hlt : i < n
  · refine .inr ⟨hlt, Pv (i + 1), fun H' p' => ⟨n - (i + 1), by omega, rfl, hlt, p'⟩, fun x H' y => ?_⟩
    obtain ⟨e, y⟩ := y
    subst e y
    exact hs i _ hlt p
  · have e : i = n := by omega
    subst e
    exact .inl ⟨Nat.le_refl _, hd H p⟩
/-- over a list that the block leaves as it is -/
theorem lc_list {K : PySem.W.Frag} {a : Addr} {xs : List V} {g : TG} {tt : TT} {te : TE} {vs : List Nat} {σ : St} {H1 : Hp} {D : Addr} {Qd : Hp → Prop} (Pv : Nat → Hp → Prop) (h0 : Pv 0 (upd H1 D (.lst []))) (hl : ∀ i H, i ≤ xs.length → Pv i H → SqL K H a xs)
    (hs : ∀ i x H, xs[i]? = some x → Pv i H → g x (wipe σ vs) H fun σ2 H2 => wipe σ2 vs = wipe σ vs ∧ tt σ2 H2 fun b H3 =>
      if b = true then te σ2 H3 fun y H4 => ∃ acc, H4 D = some (.lst acc) ∧ acc.length < sizeLine ∧ Pv (i + 1) (upd H4 D (.lst (acc ++ [y]))) else Pv (i + 1) H3) (hd : ∀ H, Pv xs.length H → Qd H) :
    ∃ W : Nat → Nat → Hp → Prop, (∃ m, W 0 m (upd H1 D (.lst []))) ∧ ∀ i m H, W i m H →
      ((Itl K a).stop i H ∧ Qd H) ∨ ((Itl K a).go i H ∧ ∃ Nx : Hp → Prop, (∀ H', Nx H' → ∃ m', m' < m ∧ W (i + 1) m' H') ∧ ∀ x H', (Itl K a).yld i H x H' → g x (wipe σ vs) H' fun σ2 H2 => wipe σ2 vs = wipe σ vs ∧ tt σ2 H2 fun b H3 =>
        if b = true then te σ2 H3 fun y H4 => ∃ acc, H4 D = some (.lst acc) ∧ acc.length < sizeLine ∧ Nx (upd H4 D (.lst (acc ++ [y]))) else Nx H3) := by
  refine ⟨fun i m H => m = xs.length - i ∧ i ≤ xs.length ∧ Pv i H, ⟨xs.length, by simp, Nat.zero_le _, h0⟩, ?_⟩
  rintro i m H ⟨rfl, hi, p⟩
  have q := hl i H hi p
  by_cases hlt : i < xs.length
  · refine .inr ⟨⟨xs, xs[i], q, by simp [hlt]⟩, Pv (i + 1), fun H' p' => ⟨xs.length - (i + 1), by omega, rfl, hlt, p'⟩, fun x H' y => ?_⟩
    obtain ⟨e, y⟩ := y
    subst e
    exact hs i x _ (y xs q) p
  · have e : i = xs.length := by omega
    subst e
    exact .inl ⟨⟨xs, q, Nat.le_refl _⟩, hd H p⟩
def blkC (N : List Str) (sc scope : Scope) (own : List (Str × Nat)) : Bool :=
  (match scope.kind with | .function => true | _ => false) && (scope.names.all fun y => decide (scope.names.lookup y.1 = some y.2)) && (own.all fun p => decide (N[p.2]? = some p.1)) &&
    (scope.names.all fun y => match y.2 with
      | .free => (match sc.names.lookup y.1 with | some .cell => true | some .free => true | _ => false)
      | .local => decide (y.1 ∈ own.map (·.1)) || decide (y.1 ∉ N)
      | .cell => decide (y.1 ∈ own.map (·.1)) || decide (y.1 ∉ N)
      | _ => true)
theorem blkOk_by {N : List Str} {sc scope : Scope} {own : List (Str × Nat)} (h : blkC N sc scope own = true) : BlkOk N sc scope own := by
  unfold blkC at h
  simp only [Bool.and_eq_true, List.all_eq_true, decide_eq_true_eq] at h
  obtain ⟨⟨⟨h1, h2⟩, h3⟩, h4⟩ := h
  refine ⟨?_, h2, h3, fun y hy e => ?_, fun y hy e => ?_⟩
  · split at h1
    · assumption
    · cases h1
  · have q := h4 y hy
    simp only [e] at q
    split at q <;> first | exact .inl (by assumption) | exact .inr (by assumption) | cases q
  · have q := h4 y hy
    rcases e with e | e <;> (simp only [e, Bool.or_eq_true, decide_eq_true_eq] at q; exact q)
end L2
namespace L2
open PySem PySem.Spec PyProof.Rows
section
variable {prog : Program} {w : World} {A : Around} {R : Result → Shared → Prop} {s : Shared} {elt t0 i0 t1 i1 : Expr} {ifs0 ifs1 : List Expr} {scope : Scope} {pos : Pos} {it acc : Value} {env : Env}
end
section
variable {X : Cx}
end
end L2
namespace L2
open PySem PySem.Spec PyProof.Rows
section
variable {κ : Type} [DecidableEq κ]
def valV (kvs : List (κ × V)) (k : κ) : Option V := (kvs.find? fun kv => decide (kv.1 = k)).map (·.2)
/-- in its place, or at the end -/
def putK (kvs : List (κ × V)) (k : κ) (v : V) : List (κ × V) :=
  if (kvs.any fun kv => decide (kv.1 = k)) = true then kvs.map (fun kv => if kv.1 = k then (kv.1, v) else kv) else kvs ++ [(k, v)]
def dropK (kvs : List (κ × V)) (k : κ) : List (κ × V) := kvs.filter fun kv => decide (kv.1 ≠ k)
theorem valV_pos {p : κ × V} {r : List (κ × V)} {k : κ} (e : p.1 = k) : valV (p :: r) k = some p.2 := by simp [valV, List.find?_cons, e]
theorem valV_neg {p : κ × V} {r : List (κ × V)} {k : κ} (e : ¬ p.1 = k) : valV (p :: r) k = valV r k := by simp [valV, List.find?_cons, e]
theorem valV_any (k : κ) : ∀ kvs : List (κ × V), (kvs.any fun kv => decide (kv.1 = k)) = (valV kvs k).isSome
  | [] => rfl
  | p :: r => by
    rw [List.any_cons]
    by_cases e : p.1 = k
    · simp only [valV_pos e, decide_eq_true e, Bool.true_or, Option.isSome_some]
    · rw [valV_neg e, decide_eq_false e, Bool.false_or]; exact valV_any k r
theorem length_putK (kvs : List (κ × V)) (k : κ) (v : V) : (putK kvs k v).length ≤ kvs.length + 1 := by
  unfold putK
  split
  · rw [List.length_map]; omega
  · rw [List.length_append, List.length_cons, List.length_nil]; omega
theorem RelO.isSome_eq {o : Option V} {u : Option Value} (r : RelO o u) : o.isSome = u.isSome := by
  cases o with
  | none => cases u with
    | none => rfl
    | some _ => exact (show False from r).elim
  | some _ => cases u with
    | none => exact (show False from r).elim
    | some _ => rfl
theorem RelO.getD {o : Option V} {u : Option Value} {d : V} {d' : Value} (r : RelO o u) (rd : RelV d d') : RelV (o.getD d) (u.getD d') := by
  cases o with
  | none => cases u with
    | none => exact rd
    | some _ => exact (show False from r).elim
  | some _ => cases u with
    | none => exact (show False from r).elim
    | some _ => exact r
/-- raw tables of the same keys -/
theorem KV.val {kvs : List (κ × V)} {vs : List (κ × Value)} (r : KV kvs vs) (k : κ) : RelO (valV kvs k) (valueAt vs k) := by
  unfold KV at r
  induction r with
  | nil => exact True.intro
  | @cons p q ps qs h t ih =>
    obtain ⟨h1, h2⟩ := h
    by_cases e : p.1 = k
    · have e' : q.1 = k := h1.symm.trans e
      have b : valueAt (q :: qs) k = some q.2 := by simp [valueAt, List.find?_cons, e']
      rw [valV_pos e, b]; exact h2
    · have e' : ¬ q.1 = k := fun z => e (h1.trans z)
      have b : valueAt (q :: qs) k = valueAt qs k := by simp [valueAt, List.find?_cons, e']
      rw [valV_neg e, b]; exact ih
theorem KV.any {kvs : List (κ × V)} {vs : List (κ × Value)} (r : KV kvs vs) (k : κ) : (kvs.any fun kv => decide (kv.1 = k)) = vs.any fun kv => decide (kv.1 = k) := by
  unfold KV at r
  induction r with
  | nil => rfl
  | cons h t ih => rw [List.any_cons, List.any_cons, ih, h.1]
theorem KV.repl {kvs : List (κ × V)} {vs : List (κ × Value)} (r : KV kvs vs) (k : κ) {y : V} {u : Value} (ry : RelV y u) :
    KV (kvs.map fun kv => if kv.1 = k then (kv.1, y) else kv) (vs.map fun kv => if kv.1 = k then (kv.1, u) else kv) := by
  unfold KV at r ⊢
  induction r with
  | nil => exact .nil
  | @cons p q ps qs h t ih =>
    rw [List.map_cons, List.map_cons]
    refine .cons ?_ ih
    obtain ⟨h1, h2⟩ := h
    by_cases e : p.1 = k
    · rw [if_pos e, if_pos (h1.symm.trans e)]; exact ⟨h1, ry⟩
    · rw [if_neg e, if_neg (fun z => e (h1.trans z))]; exact ⟨h1, h2⟩
theorem KV.put {kvs : List (κ × V)} {vs : List (κ × Value)} (r : KV kvs vs) (k : κ) {y : V} {u : Value} (ry : RelV y u) : KV (putK kvs k y) (stored vs k u) := by
  unfold putK stored
  rw [r.any k]
  by_cases e : (vs.any fun kv => decide (kv.1 = k)) = true
  · rw [if_pos e, if_pos e]; exact r.repl k ry
  · rw [if_neg e, if_neg e]; exact Paired.snoc r ⟨rfl, ry⟩
theorem KV.drop {kvs : List (κ × V)} {vs : List (κ × Value)} (r : KV kvs vs) (k : κ) : KV (dropK kvs k) (without vs k) := by
  unfold KV at r ⊢
  unfold dropK without
  induction r with
  | nil => exact .nil
  | @cons p q ps qs h t ih =>
    obtain ⟨h1, h2⟩ := h
    rw [List.filter_cons, List.filter_cons]
    by_cases e : p.1 = k
    · have a : ¬ decide (p.1 ≠ k) = true := by simp [e]
      have b : ¬ decide (q.1 ≠ k) = true := by simp [h1.symm.trans e]
      rw [if_neg a, if_neg b]; exact ih
    · have e' : ¬ q.1 = k := fun z => e (h1.trans z)
      have a : decide (p.1 ≠ k) = true := by simp [e]
      have b : decide (q.1 ≠ k) = true := by simp [e']
      rw [if_pos a, if_pos b]; exact .cons ⟨h1, h2⟩ ih
theorem KV.keys {kvs : List (κ × V)} {vs : List (κ × Value)} (r : KV kvs vs) : kvs.map (·.1) = vs.map (·.1) := by
  unfold KV at r
  induction r with
  | nil => rfl
  | cons h t ih => rw [List.map_cons, List.map_cons, ih, h.1]
theorem KV.length {kvs : List (κ × V)} {vs : List (κ × Value)} (r : KV kvs vs) : kvs.length = vs.length := Paired.length r
end
theorem kV_is {P : Program} {w : World} {k : Key} {u : Value} (r : RelV (kV k) u) : (mixKind P w).is k u = true := by
  cases k with
  | inl i => obtain ⟨t, e⟩ := (show ∃ t, u = Value.int i t from r); subst e; exact mixKind_int P w i t
  | inr x => obtain ⟨t, e⟩ := (show ∃ t, u = Value.str x t from r); subst e; exact mixKind_str P w x t
theorem items_are {P : Program} {w : World} : ∀ {ks : List Key} {us : List Value}, Vals (ks.map kV) us → ItemsAre (mixKind P w) ks us
  | [], _, r => by rw [List.map_nil] at r; cases r; exact .nil
  | k :: ks, _, r => by
    rw [List.map_cons] at r
    cases r with
    | cons h t => exact .cons (kV_is h) (items_are t)
/-- raw entries of a dict with tuple keys -/
abbrev KT (H : Hp) : List (List Key × V) → List (List Key × Addr × Value) → Prop := Paired fun p q => p.1 = q.1 ∧ H q.2.1 = some (.tup (p.1.map kV)) ∧ RelV p.2 q.2.2
theorem KT.val {H : Hp} {kvs : List (List Key × V)} {xs : List (List Key × Addr × Value)} (r : KT H kvs xs) (k : List Key) : RelO (valV kvs k) ((atKey xs k).map (·.2)) := by
  induction r with
  | nil => exact True.intro
  | @cons p q ps qs h t ih =>
    obtain ⟨h1, _, h2⟩ := h
    by_cases e : p.1 = k
    · have e' : q.1 = k := h1.symm.trans e
      have b : atKey (q :: qs) k = some q.2 := by simp [atKey, List.find?_cons, e']
      rw [valV_pos e, b]; exact h2
    · have e' : ¬ q.1 = k := fun z => e (h1.trans z)
      have b : atKey (q :: qs) k = atKey qs k := by simp [atKey, List.find?_cons, e']
      rw [valV_neg e, b]; exact ih
theorem KT.repl {H : Hp} {kvs : List (List Key × V)} {xs : List (List Key × Addr × Value)} (r : KT H kvs xs) (k : List Key) {y : V} {u : Value} (ry : RelV y u) :
    KT H (kvs.map fun kv => if kv.1 = k then (kv.1, y) else kv) (xs.map (putAt k u)) := by
  induction r with
  | nil => exact .nil
  | @cons p q ps qs h t ih =>
    rw [List.map_cons, List.map_cons]
    refine .cons ?_ ih
    obtain ⟨h1, h2, h3⟩ := h
    unfold putAt
    by_cases e : p.1 = k
    · rw [if_pos e, if_pos (h1.symm.trans e)]; exact ⟨h1, h2, ry⟩
    · rw [if_neg e, if_neg (fun z => e (h1.trans z))]; exact ⟨h1, h2, h3⟩
theorem KT.put {H : Hp} {kvs : List (List Key × V)} {xs : List (List Key × Addr × Value)} (r : KT H kvs xs) (k : List Key) {b : Addr} {y : V} {u : Value} (hb : H b = some (.tup (k.map kV))) (ry : RelV y u) :
    KT H (putK kvs k y) (storedH xs k b u) := by
  have e : (kvs.any fun kv => decide (kv.1 = k)) = (atKey xs k).isSome := by
    rw [valV_any, (r.val k).isSome_eq, Option.isSome_map]
  unfold putK storedH
  rw [e]
  by_cases q : (atKey xs k).isSome = true
  · rw [if_pos q, if_pos q]; exact r.repl k ry
  · rw [if_neg q, if_neg q]; exact Paired.snoc r ⟨rfl, hb, ry⟩
theorem KT.keeps {H H' : Hp} {kvs : List (List Key × V)} {xs : List (List Key × Addr × Value)} (r : KT H kvs xs) (ht : ∀ b ys, H b = some (.tup ys) → H' b = some (.tup ys)) : KT H' kvs xs :=
  Paired.mapP r fun _ _ z => ⟨z.1, ht _ _ z.2.1, z.2.2⟩
section
variable {P : Program} {w : World} {H : Hp} {h : Heap} {a : Addr}
theorem rd_of {u : HO} (ok : HOk P w H h) (e : Rd H a u) : ObjOk P w H h a u := e.ok ok
theorem dk_rd {kvs : List (Key × V)} (ok : HOk P w H h) (e : Rd H a (.dK kvs)) : kvs.length ≤ sizeLine ∧ (a == sysModules) = false ∧ ∃ vs, KV kvs vs ∧ h.DictOf (mixKind P w) a vs :=
  show ObjOk P w H h a (.dK kvs) from rd_of ok e
theorem dk_of {kvs : List (Key × V)} (ok : HOk P w H h) (e : H a = some (.dK kvs)) : kvs.length ≤ sizeLine ∧ (a == sysModules) = false ∧ ∃ vs, KV kvs vs ∧ h.DictOf (mixKind P w) a vs := dk_rd ok (.inl e)
/-- a tracked tuple of ints and texts is a key -/
theorem key_of {ks : List Key} (ok : HOk P w H h) (e : H a = some (.tup (ks.map kV))) : (tupleKind (mixKind P w)).is h ks a := by
  obtain ⟨_, its, r, o, h1, h2, n, h3⟩ := (show ObjOk P w H h a (.tup (ks.map kV)) from ok a _ e)
  exact ⟨o, its.toArray, n, h1, h2, h3, by simpa using items_are r⟩
theorem dt_rd {kvs : List (List Key × V)} (ok : HOk P w H h) (e : Rd H a (.dT kvs)) : kvs.length ≤ sizeLine ∧ (a == sysModules) = false ∧
    ∃ xs, KT H kvs xs ∧ h.DictOfH (tupleKind (mixKind P w)) a xs := by
  obtain ⟨z, y, xs, r, o, es, ep, h1, h2, h3, h4, h5⟩ := (show ObjOk P w H h a (.dT kvs) from rd_of ok e)
  refine ⟨z, y, xs, r, o, es, ep, h1, h2, h3, h4, fun x hx => ?_, h5⟩
  have all : ∀ {l : List (List Key × V)} {m : List (List Key × Addr × Value)}, KT H l m → ∀ x ∈ m, (tupleKind (mixKind P w)).is h x.1 x.2.1 := by
    intro l m q
    induction q with
    | nil => intro x hx; exact nomatch hx
    | @cons p q ps qs hq t ih =>
      intro x hx
      rcases List.mem_cons.mp hx with e | hx
      · subst e
        exact key_of ok (by rw [← hq.1]; exact hq.2.1)
      · exact ih x hx
  exact all r x hx
theorem dt_of {kvs : List (List Key × V)} (ok : HOk P w H h) (e : H a = some (.dT kvs)) : kvs.length ≤ sizeLine ∧ (a == sysModules) = false ∧
    ∃ xs, KT H kvs xs ∧ h.DictOfH (tupleKind (mixKind P w)) a xs := dt_rd ok (.inl e)
end
/-- what the dict at a holds at the key y -/
def DGet (H : Hp) (a : Addr) (y : V) (r : Option V) : Prop :=
  (∃ kvs k, Rd H a (.dK kvs) ∧ y = kV k ∧ r = valV kvs k) ∨ ∃ kvs k b, Rd H a (.dT kvs) ∧ y = .ref b ∧ H b = some (.tup (k.map kV)) ∧ r = valV kvs k
/-- the heap behind a[y] = v -/
def DPut (H : Hp) (a : Addr) (y v : V) (H' : Hp) : Prop :=
  (∃ kvs k, H a = some (.dK kvs) ∧ y = kV k ∧ kvs.length < sizeLine ∧ H' = upd H a (.dK (putK kvs k v))) ∨
  ∃ kvs k b, H a = some (.dT kvs) ∧ y = .ref b ∧ H b = some (.tup (k.map kV)) ∧ kvs.length < sizeLine ∧ H' = upd H a (.dT (putK kvs k v))
theorem DGet.k {H : Hp} {a : Addr} {kvs : List (Key × V)} {k : Key} (e : H a = some (.dK kvs)) : DGet H a (kV k) (valV kvs k) := .inl ⟨kvs, k, .inl e, rfl, rfl⟩
theorem DGet.t {H : Hp} {a b : Addr} {kvs : List (List Key × V)} {k : List Key} (e : H a = some (.dT kvs)) (eb : H b = some (.tup (k.map kV))) : DGet H a (.ref b) (valV kvs k) := .inr ⟨kvs, k, b, .inl e, rfl, eb, rfl⟩
theorem DPut.k {H : Hp} {a : Addr} {kvs : List (Key × V)} {k : Key} {v : V} (e : H a = some (.dK kvs)) (hl : kvs.length < sizeLine) : DPut H a (kV k) v (upd H a (.dK (putK kvs k v))) := .inl ⟨kvs, k, e, rfl, hl, rfl⟩
theorem DPut.t {H : Hp} {a b : Addr} {kvs : List (List Key × V)} {k : List Key} {v : V} (e : H a = some (.dT kvs)) (eb : H b = some (.tup (k.map kV))) (hl : kvs.length < sizeLine) :
    DPut H a (.ref b) v (upd H a (.dT (putK kvs k v))) := .inr ⟨kvs, k, b, e, rfl, eb, hl, rfl⟩
section
variable {X : Cx} {pins : List (Addr × Obj)} {σ : St} {H : Hp} {s : Shared} {a : Addr} {y v : V} {u r : Value} {o : Option V} {A : Around} {E : Value → Shared → Prop}
theorem Inv.big (I : Inv X pins σ H s) : sysModules < s.heap.objs.size := by
  have h : mainGlobals < s.heap.objs.size := (I.mod.glob.keeps I.bk).lt
  exact Nat.lt_trans (by decide) h
/-- d[y], there -/
theorem d_getItem {Q : Value → Shared → Prop} (hu : A.units + 1 < cLine) (I : Inv X pins σ H s) (g : DGet H a y (some v)) (ry : RelV y u) (h : ∀ w' s', Inv X pins σ H s' → RelV v w' → Q w' s') :
    wpAny (model X.prog X.w) A (getItem (.ref a) u) Q E s := by
  rcases g with ⟨kvs, k, e, ey, l⟩ | ⟨kvs, k, b, e, ey, eb, l⟩
  · subst ey
    obtain ⟨z, hd, vs, rel, dd⟩ := dk_rd I.hok e
    obtain ⟨w', hw, rw'⟩ := RelO.some_of (v := v) (o := valueAt vs k) (by rw [l]; exact rel.val k)
    exact wpAny_getItem_of (kV_is ry) dd.mapOf hw (h w' _ (I.tok _) rw')
  · subst ey
    cases (show u = Value.ref b from ry)
    obtain ⟨z, hd, xs, rel, dd⟩ := dt_rd I.hok e
    obtain ⟨w', hw, rw'⟩ := RelO.some_of (v := v) (o := (atKey xs k).map (·.2)) (by rw [l]; exact rel.val k)
    obtain ⟨p, hp, hp2⟩ := Option.map_eq_some_iff.mp hw
    refine wpAny_getItem_heap (tupleKind_room_in1 hu) (key_of I.hok eb) dd hp ?_
    rw [hp2]
    exact h w' _ (I.tok _) rw'
/-- a dict's object is replaced -/
theorem d_write {h' : Heap} {t' : Nat} {ob : HO} (I : Inv X pins σ H s) (mu : Mut (H a)) (hs : Heap.SameBut a s.heap h') (he : ∃ q, h'.get? a = some q) (new : ObjOk X.prog X.w (upd H a ob) h' a ob) :
    Inv X pins σ (upd H a ob) { s with heap := h', toks := t' } :=
  I.write (x := a) (e := a) mu (.inl rfl) (fun b q hb z => (hs.2 b hb).trans z) he new
theorem dk_new {P : Program} {w : World} {H' : Hp} {h' : Heap} {kvs : List (Key × V)} {vs : List (Key × Value)} (z : kvs.length ≤ sizeLine) (hd : (a == sysModules) = false) (rel : KV kvs vs) (dd : h'.DictOf (mixKind P w) a vs) :
    ObjOk P w H' h' a (.dK kvs) := ⟨z, hd, vs, rel, dd⟩
/-- d[y] = v -/
theorem d_setItem {H' : Hp} {Q : Unit → Shared → Prop} (hu : A.units + 1 < cLine) (I : Inv X pins σ H s) (g : DPut H a y v H') (ry : RelV y u) (rv : RelV v r) (h : ∀ s', Inv X pins σ H' s' → Q () s') :
    wpAny (model X.prog X.w) A (setItem (.ref a) u r) Q E s := by
  rcases g with ⟨kvs, k, e, ey, l, eH⟩ | ⟨kvs, k, b, e, ey, eb, l, eH⟩
  · subst ey eH
    obtain ⟨z, hd, vs, rel, dd⟩ := dk_of I.hok e
    have hz : vs.length ≤ sizeLine := by rw [← rel.length]; exact z
    have hl : (putK kvs k v).length ≤ sizeLine := by have := length_putK kvs k v; omega
    refine wpAny_setItem_pairs (hsz := hz) (kV_is ry) dd fun h' dd' hs => h _ ?_
    have he : ∃ q, h'.get? a = some q := let ⟨q, _, _, hq, _⟩ := dd'; ⟨q, hq⟩
    exact d_write I (by rw [e]; exact True.intro) hs he (dk_new hl hd (rel.put k rv) dd')
  · subst ey eH
    cases (show u = Value.ref b from ry)
    obtain ⟨z, hd, xs, rel, dd⟩ := dt_of I.hok e
    have hz : xs.length ≤ sizeLine := by rw [← Paired.length rel]; exact z
    have hl : (putK kvs k v).length ≤ sizeLine := by have := length_putK kvs k v; omega
    refine wpAny_setItem_heap (hsz := hz) (tupleKind_room_in1 hu) (key_of I.hok eb) dd fun h' dd' hs => h _ ?_
    obtain ⟨q, es, ep, hq, h2, h3, h4, _, h5⟩ := dd'
    refine d_write I (by rw [e]; exact True.intro) hs ⟨q, hq⟩ ⟨hl, hd, _, (rel.put k eb rv).keeps fun c ys ec => ?_, q, es, ep, hq, h2, h3, h4, h5⟩
    rw [upd_ne (ne_of ec e (fun z => nomatch z))]
    exact ec
end
section
variable {X : Cx} {pins : List (Addr × Obj)} {σ : St} {H : Hp} {s : Shared} {a : Addr} {kvs : List (Key × V)} {k : Key} {u : Value} {A : Around} {E : Value → Shared → Prop}
end
/-- the element of a subscription, not a slice -/
def NoSl (i : Expr) : Prop := ∀ ov iv, subscripted i false ov iv = operate [ov, iv] (getItem ov iv)
theorem subD_of {prog : Program} {w : World} {A : Around} {E : Value → Shared → Prop} {s : Shared} {env : Env} {value slice : Expr} {pos : Pos} {T id : String} {Q : Value → Shared → Prop}
    (hl : typeLookup (.type T) "__getitem__" = pure (some (.builtin id))) (hs : NoSl slice)
    (h : wpAny (model prog w) A (eval value env) (fun o s₁ => wpAny (model prog w) A (eval slice env) (fun i s₂ => s₂.TypeIs o T ∧ wpAny (model prog w) A (getItem o i) Q E s₂) E s₁) E s) :
    wpAny (model prog w) A (eval (.Subscript value slice pos) env) Q E s := by
  refine Subscript_ (wpAny_mono h (fun o s₁ h₁ => wpAny_mono h₁ (fun i s₂ h₂ => ?_) fun _ _ x => x) fun _ _ x => x)
  obtain ⟨hT, h₂⟩ := h₂
  unfold subscriptTail
  refine wpAny_bind ?_
  rw [getitemInPython_of_ne hT.not_modules]
  refine wpAny_bind (wpAny_specialOf hT hl ?_)
  have fin : wpAny (model prog w) A (subscripted slice false o i) (fun r s₃ => wpAny (model prog w) A (letTemporaryGo value o r >>= fun _ => pure r) Q E s₃) E s₂ := by
    rw [hs o i]
    exact wpAny_operating (wpAny_mono h₂ (fun r s₃ h₃ => wpAny_bind (wpAny_letTemporaryGo (wpAny_pure h₃))) fun _ _ x => x)
  first
    | exact wpAny_pure (wpAny_bind fin)
    | exact wpAny_bind (wpAny_pure (wpAny_bind fin))
    | exact wpAny_bind fin
theorem dict_typeIs {X : Cx} {pins : List (Addr × Obj)} {σ : St} {H : Hp} {s : Shared} {a : Addr} {y : V} {o : Option V} (I : Inv X pins σ H s) (g : DGet H a y o) : s.TypeIs (.ref a) "dict" := by
  rcases g with ⟨kvs, k, e, _, _⟩ | ⟨kvs, k, b, e, _, _, _⟩
  · obtain ⟨_, _, vs, _, dd⟩ := dk_rd I.hok e
    exact dd.typeIs
  · obtain ⟨_, _, xs, _, dd⟩ := dt_rd I.hok e
    exact dd.typeIs
/-- d[y] -/
def tDGet (td ty : TE) : TE := fun σ H Q => td σ H fun x H1 => ty σ H1 fun y H2 => ∃ a v, x = .ref a ∧ DGet H2 a y (some v) ∧ Q v H2
/-- d[y] = v -/
def sDPut (td ty tv : TE) : TS := fun D σ H => tv σ H fun v H1 => td σ H1 fun x H2 => ty σ H2 fun y H3 => ∃ a H4, x = .ref a ∧ DPut H3 a y v H4 ∧ D.nx σ H4
section
variable {X : Cx} {o i e value : Expr} {pos pos' tpos : Pos} {td ty tv : TE}
theorem pe_dget (hu : X.A.units + 1 < cLine) (ho : PE X o td) (hi : PE X i ty) (hs : NoSl i) : PE X (.Subscript o i pos) (tDGet td ty) := by
  intro pins s σ H Q I h
  refine subD_of PySem.F.slot_dict_getitem.lookup hs (thn (ho pins s σ H _ I h) fun u s1 ⟨x, H1, I1, rx, q1⟩ => thn (hi pins s1 σ H1 _ I1 q1) fun iv s2 ⟨y, H2, I2, ry, a, v, ex, g, q2⟩ => ?_)
  subst ex
  obtain rfl : u = Value.ref a := rx
  exact ⟨dict_typeIs I2 g, d_getItem hu I2 g ry fun w' s3 I3 rw' => ⟨v, H2, I3, rw', q2⟩⟩
theorem ps_dput (hu : X.A.units + 1 < cLine) (ho : PE X o td) (hi : PE X i ty) (hv : PE X value tv) (hs : swapsWith value (some (.Subscript o i pos')) pos.line X.env = pure false) :
    PS X (.Assign [.Subscript o i pos'] value pos) (sDPut td ty tv) := by
  intro pins s σ H D I h
  refine wpAny_Assign_Subscript (thn (hv pins s σ H _ I h) fun r s1 ⟨v, H1, I1, rv, q1⟩ => thn (ho pins s1 σ H1 _ I1 q1) fun u s2 ⟨x, H2, I2, rx, q2⟩ => thn (hi pins s2 σ H2 _ I2 q2) fun iv s3 ⟨y, H3, I3, ry, a, H4, ex, g, q3⟩ => ?_) hs
  subst ex
  obtain rfl : u = Value.ref a := rx
  exact d_setItem hu I3 g ry rv fun s4 I4 => ⟨σ, H4, I4, q3⟩
end
theorem dk_empty {P : Program} {w : World} {H : Hp} (h : Heap) (hb : sysModules < h.objs.size) : ObjOk P w H (h.push { cls := .type "dict", data := .dict #[] }) h.objs.size (.dK []) :=
  ⟨Nat.zero_le _, beq_eq_false_iff_ne.mpr (Ne.symm (Nat.ne_of_lt hb)), [], .nil, Heap.DictOf.new h⟩
section
variable {X : Cx} {pos : Pos}
end
/-- the pairs of a display, from the left -/
def tPairs : List (TE × TE) → St → Hp → (List (V × V) → Hp → Prop) → Prop
  | [], _, H, Q => Q [] H
  | (tk, tv) :: r, σ, H, Q => tk σ H fun x H1 => tv σ H1 fun y H2 => tPairs r σ H2 fun ps H3 => Q ((x, y) :: ps) H3
abbrev VV : List (V × V) → List (Value × Value) → Prop := Paired fun p q => RelV p.1 q.1 ∧ RelV p.2 q.2
def PPs (X : Cx) (pos : Pos) (keys : List (Option Expr)) (values : List Expr) (trs : List (TE × TE)) : Prop :=
  ∀ (pins : List (Addr × Obj)) (s : Shared) (σ : St) (H : Hp) (Q : List (V × V) → Hp → Prop), Inv X pins σ H s → tPairs trs σ H Q →
    wpAny (model X.prog X.w) X.A (evalPairs (pairTrees keys values X.env pos)) (fun vs s' => ∃ ps H', Inv X pins σ H' s' ∧ VV ps vs ∧ Q ps H') X.xe s
theorem pps_nil {X : Cx} {pos : Pos} : PPs X pos [] [] [] := fun pins s σ H Q I h => pairTrees_nil_walk ⟨[], H, I, .nil, h⟩
theorem pps_cons {X : Cx} {pos : Pos} {k v : Expr} {ks : List (Option Expr)} {vs : List Expr} {tk tv : TE} {trs : List (TE × TE)} (hk : PE X k tk) (hv : PE X v tv) (hr : PPs X pos ks vs trs) :
    PPs X pos (some k :: ks) (v :: vs) ((tk, tv) :: trs) := fun pins s σ H Q I h =>
  pairTrees_cons_walk (thn (hk pins s σ H _ I h) fun u s1 ⟨x, H1, I1, rx, q1⟩ => thn (hv pins s1 σ H1 _ I1 q1) fun w2 s2 ⟨y, H2, I2, ry, q2⟩ =>
    thn (hr pins s2 σ H2 _ I2 q2) fun ws s3 ⟨ps, H3, I3, rel, q3⟩ => ⟨(x, y) :: ps, H3, I3, .cons ⟨rx, ry⟩ rel, q3⟩)
def mergeK (kvs more : List (Key × V)) : List (Key × V) := more.foldl (fun acc kv => putK acc kv.1 kv.2) kvs
theorem KV.merge : ∀ {more : List (Key × V)} {rs : List (Key × Value)} {kvs : List (Key × V)} {vs : List (Key × Value)}, KV more rs → KV kvs vs → KV (mergeK kvs more) (merged vs rs) := by
  intro more rs kvs vs r
  unfold KV at r
  induction r generalizing kvs vs with
  | nil => intro q; exact q
  | @cons p q ps qs h t ih =>
    intro r0
    have e : KV (putK kvs p.1 p.2) (stored vs q.1 q.2) := by
      have := r0.put p.1 h.2
      rw [← h.1]; exact this
    exact ih e
theorem length_mergeK : ∀ (more kvs : List (Key × V)), (mergeK kvs more).length ≤ kvs.length + more.length
  | [], kvs => by show kvs.length ≤ kvs.length + 0; omega
  | p :: r, kvs => by
    have h1 := length_mergeK r (putK kvs p.1 p.2)
    have h2 := length_putK kvs p.1 p.2
    show (mergeK (putK kvs p.1 p.2) r).length ≤ _
    rw [List.length_cons]; omega
theorem carries_of {P : Program} {w : World} : ∀ {kvs : List (Key × V)} {ws : List (Value × Value)}, VV (kvs.map fun kv => (kV kv.1, kv.2)) ws → ∃ rs, Carries (mixKind P w) ws rs ∧ KV kvs rs
  | [], _, r => by rw [List.map_nil] at r; cases r; exact ⟨[], True.intro, .nil⟩
  | p :: kvs, _, r => by
    rw [List.map_cons] at r
    cases r with
    | @cons a b as bs h t =>
      obtain ⟨rs, c, q⟩ := carries_of (P := P) (w := w) t
      obtain ⟨b1, b2⟩ := b
      exact ⟨(p.1, b2) :: rs, ⟨kV_is h.1, rfl, c⟩, .cons ⟨rfl, h.2⟩ q⟩
/-- {k: v, ..} with keys ints and texts; the new dict stands empty while the pairs are made -/
def tDisp (trs : List (TE × TE)) : TE := fun σ H Q => ∀ p, H p = none → tPairs trs σ (upd H p (.dK [])) fun ps H2 => H2 p = some (.dK []) ∧ ∃ kvs : List (Key × V), ps = kvs.map (fun kv => (kV kv.1, kv.2)) ∧ kvs.length ≤ 15 ∧ Q (.ref p) (upd H2 p (.dK (mergeK [] kvs)))
theorem pe_disp {X : Cx} {pos : Pos} {keys : List (Option Expr)} {values : List Expr} {trs : List (TE × TE)} (h : PPs X pos keys values trs) (hall : keys.all (·.isSome) = true) (hl : keys.length = values.length) (h0 : keys ≠ [])
    (h15 : keys.length ≤ 15) : PE X (.Dict keys values pos) (tDisp trs) := by
  intro pins s σ H Q I q
  have hn := I.hok.fresh (Nat.le_refl s.heap.objs.size)
  have I1 := I.laid (a := s.heap.objs.size) (o := .dK []) (h' := s.heap.push { cls := .type "dict", data := .dict #[] }) (t' := s.toks) (fun _ _ q => Heap.get?_push_of_some _ q) (Nat.le_refl _) (dk_empty s.heap I.big)
  refine wpAny_Dict_walk (knd := mixKind X.prog X.w) hall hl h0 h15 (thn (h pins _ σ _ _ I1 (q _ hn)) fun ws s2 ⟨ps, H2, I2, rel, e, kvs, ep, lk, q2⟩ => ?_)
  subst ep
  obtain ⟨rs, c, rk⟩ := carries_of (P := X.prog) (w := X.w) rel
  obtain ⟨z, hd, vs0, r0, dd⟩ := dk_of I2.hok e
  cases r0
  refine ⟨rs, c, dd, fun h' dd' hs => ⟨.ref s.heap.objs.size, _, ?_, rfl, q2⟩⟩
  have hz : (mergeK [] kvs).length ≤ sizeLine := by
    have h1 := length_mergeK kvs []
    rw [List.length_nil] at h1
    rw [sizeLine_eq]; omega
  have he : ∃ q, h'.get? s.heap.objs.size = some q := let ⟨q, _, _, hq, _⟩ := dd'; ⟨q, hq⟩
  exact d_write I2 (by rw [e]; exact True.intro) hs he (dk_new hz hd (rk.merge .nil) dd')
section
variable {X : Cx} {pins : List (Addr × Obj)} {σ : St} {H : Hp} {s : Shared} {a : Addr} {y d : V} {u r : Value} {o : Option V} {A : Around} {E : Value → Shared → Prop}
end
section
variable {X : Cx} {o e f : Expr} {apos cpos : Pos} {td ty tx : TE}
end
section
variable {X : Cx} {pins : List (Addr × Obj)} {σ : St} {H : Hp} {s : Shared} {a : Addr} {kvs : List (Key × V)} {A : Around} {E : Value → Shared → Prop}
end
section
variable {X : Cx} {pins : List (Addr × Obj)} {σ : St} {H : Hp} {s : Shared} {a : Addr} {y : V} {u : Value} {A : Around} {E : Value → Shared → Prop}
end
end L2
namespace L2
open PySem PySem.Spec PyProof.Rows
section
variable {prog : Program} {w : World} {A : Around} {E : Value → Shared → Prop}
end
section
variable {X : Cx}
end
end L2
namespace L2
open PySem PySem.Spec PyProof.Rows
theorem boot_reversed5 : bootBuiltins "reversed" = some (.type "reversed") := by decide +kernel
section
variable {X : Cx} {pins : List (Addr × Obj)} {σ : St} {H : Hp} {s : Shared} {h' : Heap}
/-- .. and one new object is laid -/
theorem Inv.turnedNew {t' : Nat} {ch : List Addr} {T : Addr} {ob : HO} (I : Inv X pins σ H s) (k : ∀ b o, b ∉ ch → s.heap.get? b = some o → h'.get? b = some o) (hf : ∀ b ∈ ch, FpOk X pins H b) (hT : s.heap.objs.size ≤ T)
    (new : ObjOk X.prog X.w (upd H T ob) h' T ob) : Inv X pins σ (upd H T ob) { s with heap := h', toks := t' } := by
  have hn : H T = none := I.hok.fresh hT
  have nit : ∀ b u, H b = some u → b ∉ ch := fun b u e z => by
    have q := (hf b z).1
    rw [q] at e; cases e
  refine I.step (g' := s.gens) (d' := s.drawn) (ch := ch) (fun b hb => ⟨(hf b hb).2.2.2.1, (hf b hb).2.1, (hf b hb).2.2.2.2.1, (hf b hb).2.2.2.2.2⟩) (fun b o _ _ hc e _ => k b o hc e) (fun b o _ _ hc e _ => ⟨o.slots, k b o hc e⟩)
    (fun b o _ e n => ?_) (fun b o hc e => ⟨o, k b o hc e⟩) (fun b xs e => ?_) (fun b o u e => ?_) (fun b ps e => ⟨#[], ?_⟩) (fun m hm => ?_) (fun b u e => ?_) I.bare
  · rw [upd_ne (Nat.ne_of_lt (Nat.lt_of_lt_of_le (Heap.lt_size e) hT))]; exact n
  · rw [upd_ne (ne_of_none e hn)]; exact e
  · rw [upd_ne (ne_of_none e hn)]; exact e
  · rw [upd_ne (ne_of_none e hn), e]; simp
  · obtain ⟨o, es, ep, ho, r⟩ := hm
    exact ⟨o, es, ep, k _ o (fun z => (hf _ z).2.1 rfl) ho, r⟩
  · by_cases hb : b = T
    · subst hb
      rw [upd_same] at e
      cases e
      exact new
    · rw [upd_ne hb] at e
      refine (I.hok b u e).stay (fun c v hc q => k c v ?_ q) (fun c q => by rw [upd_ne (ne_of_none q hn)]; exact q) fun c xs q => by rw [upd_ne (ne_of_none q hn)]; exact q
      rcases hc with z | z
      · rw [z]; exact nit b u e
      · exact nit c _ z
end
section
variable {X : Cx}
end
/-- range(i, j, c): small bounds, n items -/
def RgC (i j c : Int) (n : Nat) : Prop := c ≠ 0 ∧ c.natAbs < 1073741824 ∧ Builtin.Range.small i j c = true ∧ Builtin.Range.rangeSize i j c = n
theorem RgC.neg {i j : Int} (ha : -(2 ^ 62) ≤ i) (ha' : i < 2 ^ 62) (hb : -(2 ^ 62) ≤ j) (hb' : j < 2 ^ 62) : RgC i j (-1) (i - j).toNat :=
  ⟨by decide, by decide, PySem.W.small_down ha ha' hb hb', PySem.W.rangeSize_downNat i j⟩
section
variable {X : Cx} {tg : Expr}
end
section
variable {X : Cx} {tg : Expr}
end
section
variable {prog : Program} {w : World} {A : Around} {E : Value → Shared → Prop} {s : Shared}
end
section
variable {X : Cx} {pins : List (Addr × Obj)} {σ : St} {H : Hp} {s : Shared} {d : Addr} {o : Obj}
end
section
variable {P : Program} {w : World} {K : PySem.W.Frag} {tg : Expr} {d : Addr} {o : Obj} {es : Array DictEntry} {ep : Nat}
end
section
variable {X : Cx} {tg e : Expr} {td : TE} {apos cpos : Pos}
end
/-- the list at a as it stands at each turn, each item in a new pair -/
def Ite (K : PySem.W.Frag) (a : Addr) : It :=
  ⟨fun i H => ∃ (xs : List V) (x : V), SqL K H a xs ∧ xs[i]? = some x, fun i H v H' => ∃ T x, v = .ref T ∧ H T = none ∧ H' = upd H T (.tup [.int (i : Nat), x]) ∧ ∀ xs, SqL K H a xs → xs[i]? = some x, fun i H => ∃ xs : List V, SqL K H a xs ∧ xs.length ≤ i⟩
theorem turn_enum {P : Program} {w : World} {K : PySem.W.Frag} {elts : List Expr} {kk : Nat} {tpos : Pos} (a e it : Addr) :
    Turn P w K (.Tuple elts kk tpos) (Ite K a) [e, it] e (fun i h => (∃ old, IsEnum h e it ((i : Nat) : Int) old) ∧ h.IsListIter it a i ∧ e ≠ it) where
  mem := by simp
  obj := fun i h st b hb => by
    obtain ⟨⟨old, he⟩, ⟨o, ho, hc, hd⟩, _⟩ := st
    have e' : b = e ∨ b = it := by simpa using hb
    rcases e' with z | z
    · rw [z]; exact ⟨_, he, fun v q => nomatch q⟩
    · rw [z]; exact ⟨o, ho, fun v q => by rw [hd] at q; cases q⟩
  keep := fun i h h' st k => let ⟨⟨old, he⟩, hi, hne⟩ := st; ⟨⟨old, k e (by simp) _ he⟩, hi.at fun o q => k it (by simp) o q, hne⟩
  item := by
    intro X hP hw hK hc i pins s σ H E I hf st hg
    subst hP hw hK
    obtain ⟨⟨old, he⟩, hit, hne⟩ := st
    obtain ⟨xs, x, hq, hx⟩ := hg
    obtain ⟨its, rv, p, hz⟩ := I.list hq
    obtain ⟨u, hu, ru⟩ := rv.get hx
    have hel : e < s.heap.objs.size := Heap.lt_size he
    have hil : it < s.heap.objs.size := by obtain ⟨_, q, _⟩ := hit; exact Heap.lt_size q
    refine wpAny_pyNext_enum_item he hit p.isList (x := u) (by simpa using hu) hne fun h' ho hit' hT hsz hk => ?_
    refine ⟨_, rfl, wpAny_letOwnedTupleGo_enum (s := { s with heap := h', toks := s.toks + 1 }) ho fun h'' he' sb => ?_⟩
    have hT2 : h''.get? s.heap.objs.size = some { cls := .type "tuple", data := .seq #[.int i s.toks, u] } := (sb.2 _ (Nat.ne_of_gt hel)).trans hT
    have new : ObjOk X.prog X.w (upd H s.heap.objs.size (.tup [.int (i : Nat), x])) h'' s.heap.objs.size (.tup [.int (i : Nat), x]) :=
      ⟨by show 2 ≤ sizeLine; decide, [.int i s.toks, u], .cons ⟨_, rfl⟩ (.cons ru .nil), ⟨_, hT2, rfl, _, rfl⟩⟩
    have I1 : Inv X pins σ (upd H s.heap.objs.size (.tup [.int (i : Nat), x])) { s with heap := h'', toks := s.toks + 1 } :=
      I.turnedNew (ch := [e, it]) (fun b ob hb q => (sb.2 b (fun z => hb (by simp [z]))).trans (hk b ob (fun z => hb (by simp [z])) (fun z => hb (by simp [z])) q)) hf (Nat.le_refl _) new
    refine ⟨.ref s.heap.objs.size, _, I1, rfl, ⟨_, x, rfl, I.hok.fresh (Nat.le_refl _), rfl, fun ys hy => by rw [I.list_inj hy hq]; exact hx⟩, ⟨⟨u, ?_⟩, hit'.at fun o q => (sb.2 it (Ne.symm hne)).trans q, hne⟩, fun b hb => ?_⟩
    · have e1 : ((i + 1 : Nat) : Int) = (i : Int) + 1 := by omega
      rw [e1]; exact he'
    · have hb' : b < s.heap.objs.size := by
        have e' : b = e ∨ b = it := by simpa using hb
        rcases e' with z | z
        · rw [z]; exact hel
        · rw [z]; exact hil
      rw [upd_ne (Nat.ne_of_lt hb')]
      exact (hf b hb).1
  done := by
    intro X hP hw hK hc i pins s σ H E I hf st hg
    subst hP hw hK
    obtain ⟨⟨old, he⟩, hit, hne⟩ := st
    obtain ⟨xs, hq, hx⟩ := hg
    obtain ⟨its, rv, p, hz⟩ := I.list hq
    obtain ⟨f0, f1, f2, f3, f4, f5⟩ := hf it (by simp)
    have hl := rv.length
    exact wpAny_pyNext_enum_end (I.ok.hd hc) he hit p.isList (by simp; omega) fun h' eb => ⟨rfl, I.turned (t' := s.toks) (fun b o hb q => eb b o hb q) f0 f1 f3 f4 f5⟩
  self := fun A i s Q E st h => let ⟨⟨_, he⟩, _⟩ := st; wpAny_pyIter_enum he h
def iEnum (K : PySem.W.Frag) (ta : TA) : TI := fun σ H R => ta σ H fun vs H1 => ∃ a xs, vs = [.ref a] ∧ SqL K H1 a xs ∧ R (Ite K a) H1
theorem pi_enum {X : Cx} {e : Expr} {ta : TA} {p pos tpos : Pos} {elts : List Expr} {kk : Nat} (hg : Gl X "enumerate") (hm : X.mg "enumerate" = none) (ha : PA X [e] ta) (hs : starEach [e] X.env = [(false, eval e X.env)] := by rfl) :
    PI X (.Tuple elts kk tpos) (.Call (.Name "enumerate" p) [e] [] pos) (iEnum X.K ta) := by
  intro pins s σ H R I h
  refine Call_ (ld_blt I hg hm boot_enumerate (PyProof.Rows.callWith_type1 (thn (ha pos pins s σ H _ I h) fun us s1 ⟨vs, H1, I1, r1, q1⟩ => ?_) hs rfl))
  obtain ⟨a, xs, ex, hq, q⟩ := q1
  subst ex
  cases r1 with
  | cons r rr =>
    cases rr
    cases r
    obtain ⟨its, rv, p', hz⟩ := I1.list hq
    refine call_enumerate_list p'.isList fun h' he hit hsz hk => wpAny_pyIter_enum he ?_
    have I2 : Inv X pins σ H1 { s1 with heap := h' } := I1.kept (t' := s1.toks) hk
    refine ⟨s1.heap.objs.size + 1, [s1.heap.objs.size + 1, s1.heap.objs.size], _, _, H1, rfl, I2, turn_enum a (s1.heap.objs.size + 1) s1.heap.objs.size, ⟨⟨.none, he⟩, hit, Nat.succ_ne_self _⟩, fun b hb => ?_, q⟩
    have e' : b = s1.heap.objs.size + 1 ∨ b = s1.heap.objs.size := by simpa using hb
    have hle : s1.heap.objs.size ≤ b := by
      rcases e' with z | z
      · rw [z]; exact Nat.le_add_right _ _
      · rw [z]; exact Nat.le_refl _
    exact I1.fpOk hle (I1.hok.fresh hle)
end L2
section 
namespace Bits
open PySem PyProof.Rows
end Bits
end 
section 
namespace TL
open PySem PySem.Builtin PySem.Builtin.Str PySem.StrLaws
abbrev tl (x : Str) : List Nat := x.cps.toList
/-- S stands at the head of l -/
def pre (S l : List Nat) : Bool := l.take S.length == S
/-- l cut at each S from the left; k signs are still to be passed over -/
def spl (S : List Nat) : Nat → List Nat → List Nat → List (List Nat)
  | _, acc, [] => [acc]
  | 0, acc, c :: r => if pre S (c :: r) = true then acc :: spl S (S.length - 1) [] r else spl S 0 (acc ++ [c]) r
  | k + 1, acc, _ :: r => spl S k acc r
/-- what stands before the first S, and behind it -/
def par (S : List Nat) : List Nat → List Nat → Option (List Nat × List Nat)
  | _, [] => none
  | acc, c :: r => if pre S (c :: r) = true then some (acc, (c :: r).drop S.length) else par S (acc ++ [c]) r
theorem join_eq (y : Str) (parts : List Str) : Txt.join y parts = Str.join y parts := glued_eq_join y parts
end TL
end 
namespace L2
open PySem PySem.Spec PyProof.Rows
/-- a list of texts, of numbered texts -/
theorem vals_strs : ∀ l : List (Str × Tok), Vals ((l.map (·.1)).map V.str) (strValues l)
  | [] => .nil
  | p :: r => .cons ⟨p.2, rfl⟩ (vals_strs r)
theorem strs_of_vals : ∀ {ys : List Str} {us : List Value}, Vals (ys.map V.str) us → StrsAre us ys
  | [], _, .nil => .nil
  | y :: ys, _, .cons r t => by
    obtain ⟨k, rfl⟩ := r
    exact .cons y k (strs_of_vals t)
/-- a new list of texts, tracked -/
def rNewStrs (ys : List Str) : Hp → VK → Prop := fun H Q => ∀ p, H p = none → Q (.ref p) (upd H p (.lst (ys.map V.str)))
section
variable {X : Cx} {pins : List (Addr × Obj)} {σ : St} {H : Hp} {s : Shared} {Q : VK}
theorem laid_strs {l : List (Str × Tok)} {ys : List Str} {k : Nat} (I : Inv X pins σ H s) (e : l.map (·.1) = ys) (hz : ys.length ≤ sizeLine) (h : rNewStrs ys H Q) :
    EP X pins σ Q (.ref s.heap.objs.size) { s with toks := k, heap := s.heap.push { cls := .type "list", data := .seq (strValues l).toArray } } := by
  have hp := I.hok.fresh (Nat.le_refl _)
  refine ⟨.ref s.heap.objs.size, upd H s.heap.objs.size (.lst (ys.map V.str)), I.laid (fun b u q => Heap.get?_push_of_some _ q) (Nat.le_refl _) ⟨by rw [List.length_map]; exact hz, strValues l, _, ?_, Heap.get?_push_size _ rfl⟩, rfl, h _ hp⟩
  rw [← e]
  exact vals_strs l
end
section
variable {X : Cx}
/-- x.split(sep) -/
theorem mt_split : MtR X "str.split" (fun x xs H Q => ∃ a b, x = .str a ∧ xs = [.str b] ∧ (b.length == 0) = false ∧ a.length + 2 ≤ sizeLine ∧ rNewStrs (Txt.split a b) H Q) := by
  intro pins s σ H x xs v us Q I rx rs h
  obtain ⟨a, b, rfl, rfl, hb, hz, h⟩ := h
  obtain ⟨t, rfl⟩ := rx
  cases rs with
  | cons r1 rs =>
    cases rs
    obtain ⟨u, rfl⟩ := r1
    have hl : (Txt.split a b).length ≤ sizeLine := Nat.le_trans (PyProof.Rows.split_le a b) hz
    have hn : (Builtin.Str.partsBetween a (Builtin.Str.occurrences a b 0 a.length (a.length + 1)) b.length).length ≤ sizeLine := by
      have e1 := StrLaws.occ_length_le a b 0 a.length (a.length + 1)
      rw [length_partsBetween]; omega
    cases h1 : (decide (a.length < b.length) || decide (Builtin.Str.strKind a < Builtin.Str.strKind b))
    · cases hf : (Builtin.Str.occurrences a b 0 a.length (a.length + 1)).isEmpty
      · refine call_meets F.slot_str_split (typeIs_str _ _ _) F.entry_str_split (F.args_str_split_2 _ _) (meets_str_split_sep a b t u h1 hb hf (by omega) hn) ?_
        show EP X pins σ Q (.ref s.heap.objs.size) { s with toks := _, heap := s.heap.push { cls := .type "list", data := .seq (strsFrom s.toks (Builtin.Str.partsBetween a (Builtin.Str.occurrences a b 0 a.length (a.length + 1)) b.length)).toArray } }
        rw [strsFrom_eq]
        exact laid_strs (ys := Txt.split a b) I ((numbered_texts _ _).trans ((if_neg (ne_true_of_eq_false h1)).trans (if_neg (ne_true_of_eq_false hf))).symm) hl h
      · refine call_meets F.slot_str_split (typeIs_str _ _ _) F.entry_str_split (F.args_str_split_2 _ _) (meets_str_split_not_found a b t u h1 hb hf) ?_
        exact laid_strs (l := [(a, t)]) (ys := Txt.split a b) (k := s.toks) I ((if_neg (ne_true_of_eq_false h1)).trans (if_pos hf)).symm hl h
    · refine call_meets F.slot_str_split (typeIs_str _ _ _) F.entry_str_split (F.args_str_split_2 _ _) (meets_str_split_cannot_occur a b t u h1) ?_
      exact laid_strs (l := [(a, t)]) (ys := Txt.split a b) (k := s.toks) I (if_pos h1).symm hl h
/-- sep.join(a list | a tuple of texts) -/
theorem mt_join : MtR X "str.join" (fun x xs H Q => ∃ a p, ∃ ys : List Str, x = .str a ∧ xs = [.ref p] ∧ (SqL X.K H p (ys.map V.str) ∨ SqT X.K H p (ys.map V.str)) ∧
    (ys.map (·.length)).sum + ys.length * a.length ≤ 16777216 ∧ Q (.str (Txt.join a ys)) H) := by
  intro pins s σ H x xs v us Q I rx rs h
  obtain ⟨a, p, ys, rfl, rfl, hp, hz, h⟩ := h
  obtain ⟨t, rfl⟩ := rx
  cases rs with
  | cons r1 rs =>
    cases rs
    cases r1
    rcases hp with hp | hp
    · obtain ⟨its, r, ⟨o, n, ho, hc, _, hd⟩, _⟩ := I.list hp
      exact PyProof.Rows.join_list (items := its.toArray) ⟨o, ho, hc, n, hd⟩ (by rw [List.toList_toArray]; exact strs_of_vals r) hz fun t' k => ⟨.str _, H, I.tok k, ⟨t', rfl⟩, h⟩
    · obtain ⟨its, r, ht, _⟩ := I.tuple hp
      exact PyProof.Rows.join_tuple (items := its.toArray) ht (by rw [List.toList_toArray]; exact strs_of_vals r) hz fun t' k => ⟨.str _, H, I.tok k, ⟨t', rfl⟩, h⟩
end
section
variable {X : Cx} {o e : Expr} {to te : TE}
def tM1 (r : V → List V → Hp → VK → Prop) (to te : TE) : TE := fun σ H Q => to σ H fun x H1 => (∃ a, x = .str a) ∧ te σ H1 fun y H2 => r x [y] H2 Q
theorem pe_m1 {id : String} {name : Str} {apos pos : Pos} {r : V → List V → Hp → VK → Prop} (slot : Slot "str" name id) (ty : typeOf (.builtin id) = pure (.type "method_descriptor")) (rule : MtR X id r) (ho : PE X o to) (he : PE X e te)
    (hs : starEach [e] X.env = [(false, eval e X.env)] := by rfl) (hbase : attributeBase o name X.env (eval o X.env) = eval o X.env := by rfl) (hline : (apos.endLine == pos.line) = true := by rfl) :
    PE X (.Call (.Attribute o name apos) [e] [] pos) (tM1 r to te) := by
  intro pins s σ H Q I h
  refine PySem.Call_method1 hbase hs hline (thn (ho pins s σ H _ I h) fun v s1 ⟨x, H1, I1, r1, q1⟩ => ?_)
  obtain ⟨⟨a, rfl⟩, q1⟩ := q1
  obtain ⟨t, rfl⟩ := _root_.id r1
  refine ⟨"str", _, F.plainAttrs_str, slot, ty, typeIs_str _ _ _, (fun _ e => nomatch e), Calls.callWith_builtin rfl (Calls.evalArgs_plain (Calls.spliced_cons ?_))⟩
  exact thn (he pins s1 σ H1 _ I1 q1) fun u s2 ⟨y, H2, I2, r2, q2⟩ => Calls.spliced_nil (rule pins s2 σ H2 _ [y] _ [u] Q I2 r1 (.cons r2 .nil) q2)
theorem pe_split {apos pos : Pos} (ho : PE X o to) (he : PE X e te) (hs : starEach [e] X.env = [(false, eval e X.env)] := by rfl) (hbase : attributeBase o "split" X.env (eval o X.env) = eval o X.env := by rfl) (hline : (apos.endLine == pos.line) = true := by rfl) :
    PE X (.Call (.Attribute o "split" apos) [e] [] pos) (tM1 (fun x xs H Q => ∃ a b, x = .str a ∧ xs = [.str b] ∧ (b.length == 0) = false ∧ a.length + 2 ≤ sizeLine ∧ rNewStrs (Txt.split a b) H Q) to te) :=
  pe_m1 F.slot_str_split F.type_str_split mt_split ho he hs hbase hline
theorem pe_join {apos pos : Pos} (ho : PE X o to) (he : PE X e te) (hs : starEach [e] X.env = [(false, eval e X.env)] := by rfl) (hbase : attributeBase o "join" X.env (eval o X.env) = eval o X.env := by rfl) (hline : (apos.endLine == pos.line) = true := by rfl) :
    PE X (.Call (.Attribute o "join" apos) [e] [] pos) (tM1 (fun x xs H Q => ∃ a p, ∃ ys : List Str, x = .str a ∧ xs = [.ref p] ∧ (SqL X.K H p (ys.map V.str) ∨ SqT X.K H p (ys.map V.str)) ∧
      (ys.map (·.length)).sum + ys.length * a.length ≤ 16777216 ∧ Q (.str (Txt.join a ys)) H) to te) :=
  pe_m1 F.slot_str_join F.type_str_join mt_join ho he hs hbase hline
end
end L2
namespace L2
open PySem PySem.Spec PyProof.Rows
section
variable {X : Cx}
end
theorem IsPart.raw {v : Value} {o : Option Int} (p : IsPart v o) : ∃ l : Option (Int × Tok), v = partValue l ∧ l.map (·.1) = o := by
  cases p with
  | none => exact ⟨none, rfl, rfl⟩
  | int i t => exact ⟨some (i, t), rfl, rfl⟩
/-- a part, clipped, as the text's slice reckons it -/
def clipS (n d : Nat) : Option Int → Int
  | none => (d : Int)
  | some i => max 0 (min (if i < 0 then i + (n : Int) else i) (n : Int))
theorem clipS_eq (n d : Nat) (o : Option Int) : clipS n d o = ((HT.sIx n d o : Nat) : Int) := by
  cases o with
  | none => rfl
  | some v =>
    show max (0 : Int) (min (if v < 0 then v + (n : Int) else v) (n : Int)) = (((if v < 0 then (v + (n : Int)).toNat else min v.toNat n) : Nat) : Int)
    by_cases hv : v < 0
    · simp only [if_pos hv]
      omega
    · simp only [if_neg hv]
      omega
theorem sidx_clip (a b : Option Int) (n : Nat) : Builtin.Str.strSliceIndices a b 1 n = sliceRange (clipS n 0 a) (clipS n n b) 1 := by
  have h1 : ((1 : Int) > 0) = True := by simp
  cases a <;> cases b <;> first
    | rfl
    | (simp only [Builtin.Str.strSliceIndices, clipS, h1, if_true]; rfl)
    | simp [Builtin.Str.strSliceIndices, clipS]
theorem sidx (a b : Option Int) (n : Nat) : Builtin.Str.strSliceIndices a b 1 n = (List.range (HT.sIx n n b - HT.sIx n 0 a)).map (fun k => HT.sIx n 0 a + k) := by
  rw [sidx_clip, clipS_eq, clipS_eq]
  generalize HT.sIx n 0 a = p
  generalize HT.sIx n n b = q
  simp only [sliceRange, show ((1 : Int) > 0) = True from by simp, if_true]
  by_cases hlt : (p : Int) < q
  · have e3 : (((q : Int) - p + 1 - 1) / 1).toNat = q - p := by first | omega | (simp; done) | (simp; omega)
    simp only [hlt, if_true, e3]
    refine List.map_congr_left fun k _ => ?_
    omega
  · have : q - p = 0 := by omega
    simp [hlt, this]
/-- z[lo:hi] -/
def cutS (z : Str) (lo hi : Option Int) : Str :=
  ⟨((z.cps.toList.drop (HT.sIx z.length 0 lo)).take (HT.sIx z.length z.length hi - HT.sIx z.length 0 lo)).toArray⟩
theorem sliceText_cut (z : Str) (lo hi : Option Int) : PySem.StrLaws.sliceText z lo hi = cutS z lo hi := by
  have h1 : HT.sIx z.length 0 lo ≤ z.length := HT.sIx_le _ _ (Nat.zero_le _) _
  have h2 : HT.sIx z.length z.length hi ≤ z.length := HT.sIx_le _ _ (Nat.le_refl _) _
  have hp : HT.sIx z.length 0 lo ≤ max (HT.sIx z.length 0 lo) (HT.sIx z.length z.length hi) := Nat.le_max_left _ _
  have hq : max (HT.sIx z.length 0 lo) (HT.sIx z.length z.length hi) ≤ z.length := Nat.max_le.mpr ⟨h1, h2⟩
  have hd : max (HT.sIx z.length 0 lo) (HT.sIx z.length z.length hi) - HT.sIx z.length 0 lo = HT.sIx z.length z.length hi - HT.sIx z.length 0 lo := by omega
  have e : Builtin.Str.strSliceIndices lo hi 1 z.length =
      Builtin.Str.strSliceIndices (some ((HT.sIx z.length 0 lo : Nat) : Int)) (some ((max (HT.sIx z.length 0 lo) (HT.sIx z.length z.length hi) : Nat) : Int)) 1 z.length := by
    rw [PySem.StrLaws.strSliceIndices_plain hp hq, hd, sidx]
  have e2 : PySem.StrLaws.sliceText z lo hi =
      PySem.StrLaws.sliceText z (some ((HT.sIx z.length 0 lo : Nat) : Int)) (some ((max (HT.sIx z.length 0 lo) (HT.sIx z.length z.length hi) : Nat) : Int)) := by
    unfold PySem.StrLaws.sliceText
    rw [e]
  rw [e2, PySem.StrLaws.sliceText_nat z hp hq, hd]
  rfl
theorem cutS_length (z : Str) (lo hi : Option Int) : (cutS z lo hi).length ≤ z.length := by
  show (((z.cps.toList.drop (HT.sIx z.length 0 lo)).take (HT.sIx z.length z.length hi - HT.sIx z.length 0 lo)).toArray).size ≤ z.cps.size
  rw [List.size_toArray, List.length_take, List.length_drop, Array.length_toList]
  omega
def rSlS : V → Option Int → Option Int → Hp → VK → Prop := fun x lo hi H Q => ∃ z, x = .str z ∧ z.length ≤ sizeLine ∧ Q (.str (cutS z lo hi)) H
theorem sl_str {X : Cx} : SlR X rSlS := by
  intro pins s σ H x v vl vu lo hi sl Q I rx hs pl pu h
  obtain ⟨z, rfl, hz, q⟩ := h
  obtain ⟨t, rfl⟩ := rx
  obtain ⟨os, hos, hcs, hds⟩ := hs
  obtain ⟨l, rfl, rfl⟩ := IsPart.raw pl
  obtain ⟨u, rfl, rfl⟩ := IsPart.raw pu
  refine ⟨"str", _, F.slot_str_getitem.lookup, typeIs_str _ _ _, ?_⟩
  refine wpAny_getItem_str_slice (l := l) (u := u) (st := none) ⟨os, hos, hcs, hds⟩ rfl ?_
  have hl : (PySem.StrLaws.sliceText z (l.map (·.1)) (u.map (·.1))).length ≤ sizeLine := by
    rw [sliceText_cut]
    exact Nat.le_trans (cutS_length z _ _) hz
  rw [← sliceText_cut] at q
  unfold PySem.StrLaws.sliceText at q hl
  show Made.post (if ((1 : Int) == 1 && (Builtin.Str.strSliceIndices (l.map (·.1)) (u.map (·.1)) 1 z.length).length == z.length) = true then Made.val (.str z t)
    else Made.str ⟨((Builtin.Str.strSliceIndices (l.map (·.1)) (u.map (·.1)) 1 z.length).filterMap (z.cps[·]?)).toArray⟩) (EP X pins σ Q) s
  by_cases c : ((1 : Int) == 1 && (Builtin.Str.strSliceIndices (l.map (·.1)) (u.map (·.1)) 1 z.length).length == z.length) = true
  · rw [if_pos c] at q ⊢
    exact ⟨.str z, H, I, ⟨t, rfl⟩, q⟩
  · rw [if_neg c] at q hl ⊢
    exact ⟨hl, .str _, H, I.tok _, ⟨_, rfl⟩, q⟩
end L2
namespace Att
open PySem PySem.W PySem.Calls PyProof.Rows
theorem ints_of_wellAll {P : Params} {h : Heap} : ∀ (ns : List Int) (vs : List Value), WellAll P h vs (ns.map WData.int) → IntsAre vs ns := by
  intro ns
  induction ns with
  | nil =>
    intro vs w
    rw [List.map_nil] at w
    cases w
    exact .nil
  | cons n ns ih =>
    intro vs w
    rw [List.map_cons] at w
    cases w with
    | cons a b =>
      cases a
      exact .cons _ _ (ih _ b)
theorem script_of {l : OpenLaw} {n : Nat} (hn : l.most = some n) {P : Params} {h : Heap} {args : List WData} {vals : List Value}
    (hpre : l.row.toRowW.claim.pre args = true) (hwl : WellAll P h vals args) :
    ∃ a vs ns, vals = [Value.ref a] ∧ args = [WData.list (ns.map WData.int)] ∧ h.get? a = some { cls := .type "list", data := .seq vs.toArray } ∧ IntsAre vs ns ∧ ns.length ≤ n := by
  have hsh : WShape.hasAll [] args [.list .int] = true := (pre_splitW hpre).1
  have hc : l.pre.holds [] { args := args } = true := (pre_splitW hpre).2
  obtain ⟨d, r, rfl, h1, h2⟩ := hasAllW_cons hsh
  obtain rfl := hasAllW_nil h2
  obtain ⟨xs, rfl, h3⟩ := hasW_list h1
  obtain ⟨ns, rfl⟩ := items_int h3
  have hlen : ns.length ≤ n := by
    unfold OpenLaw.pre at hc
    have h4 : (WTm.not (.lt (.lit (.int (n : Int))) (.len (.arg 0)))).holds [] { args := [.list (ns.map .int)] } = true := by
      have h4 := (holds_andW hc).1
      rw [hn] at h4
      exact h4
    have h5 := condW_of h4 (w_not (w_lt w_lit (w_len_list (w_arg rfl))))
    rw [List.length_map] at h5
    refine Nat.le_of_not_lt fun q => ?_
    have q' : (n : Int) < ((ns.length : Nat) : Int) := by omega
    first
      | (rw [decide_eq_true q'] at h5; exact absurd h5 (by decide))
      | (simp at h5; omega)
  cases hwl with
  | cons w1 w2 =>
    cases w2
    cases w1 with
    | list ho hall => exact ⟨_, _, ns, rfl, rfl, ho, ints_of_wellAll ns _ hall, hlen⟩
theorem post_true (l : OpenLaw) (args : List WData) : l.row.toRowW.claim.post args (.bool true) args = true :=
  postW_of (r := l.row.toRowW) (X := (true == true))
    (show WShape.has [] (.bool true) .bool = true by first | rfl | decide | simp [WShape.has, WShape.arms, WShape.armsAll])
    (show (WTm.eq .res (.lit (.bool true))).value [] { args := args, res := some (.bool true), after := args } = some (.bool (true == true)) from w_eq_bool (w_res rfl) w_lit) rfl
/-- the same from a codeAny of the CALL (for a layer whose function contracts speak of calls) -/
theorem attach_call {l : OpenLaw} {n : Nat} {q : Program} {loose : List Str} {XP : (Str → Option Value) → Heap → Prop} {YP : World → Heap → Prop} {d : DefRec}
    (hn : l.most = some n) (hdf : d.params.defaults = [])
    (call : ∀ (w : World) (s₀ s₁ : Shared) (mg mb : Str → Option Value) (fa : Addr) (o : Obj) (pm cd doc : Value) (a : Addr) (vs : List Value) (ns : List Int),
      Ground q loose [] XP w s₀ mg mb s₁.heap → YP w s₁.heap →
      s₁.heap.get? fa = some o → o.data = .func (docDef d.name d.params d.body d.scope pm cd doc) → s₁.heap.CodeRec cd d.name → mg d.name = some (.ref fa) →
      s₁.heap.get? a = some { cls := .type "list", data := .seq vs.toArray } → IntsAre vs ns → ns.length ≤ n → s₁.gens = #[] →
      codeAny (model l.prog w) callerA (.call (.ref fa) ⟨[.ref a], []⟩) (fun r s' => r = .ok (.ret (.bool true)) ∧ OldK s₁.heap s'.heap ∧ s'.os = s₁.os ∧ AllBare s'.gens) s₁) :
    WalkO q loose XP YP l.row.toRowW d [] (fun f vs => PySem.call f vs) := by
  intro w s₀ s₁ mg mb G Y fa o pm cd doc dV kV ho hd hcd hD hmg hg args vals as hpre hlay hrd hwl hlo
  obtain rfl : dV = .none := Dflts.none hD hdf
  obtain rfl : kV = .none := Dflts.noKw hD
  obtain ⟨a, vs, ns, rfl, rfl, hobj, hints, hlen⟩ := script_of hn hpre hwl
  refine enter_call (codeAny_mono (call w s₀ s₁ mg mb fa o pm cd doc a vs ns G Y ho (fd_plain hd) hcd hmg hobj hints hlen hg) fun r s' hq => ?_)
  obtain ⟨rfl, h2, h3, h4⟩ := hq
  exact ⟨.inl ⟨.bool true, .bool true, [], rfl, fun _ => rfl, .bool true, post_true l _, fun _ => ⟨List.Pairwise.nil, fun _ hm => (nomatch hm)⟩⟩, h2, h3, h4⟩
section
variable {prog : Program} {w : World} {A : Around} {E : Value → Shared → Prop} {s : Shared} {K : Frag}
end
end Att
namespace L2
open PySem PySem.Spec PyProof.Rows
theorem vals_ints : ∀ {vs : List Value} {ns : List Int}, IntsAre vs ns → Vals (ns.map V.int) vs
  | _, _, .nil => .nil
  | _, _, .cons n t h => .cons ⟨t, rfl⟩ (vals_ints h)
/-- nothing is tracked but the script, known to the object (or it is an object of the module) -/
def Only (H : Hp) : Prop := ∀ b, H b = none ∨ ∃ o xs, H b = some (.frz o (.lst xs))
/-- THE HEAD: the law's promise, at the heap behind the top. F, the promise of the law's def, may use that base is part of the heap (so K.In base, base.Ns mainGlobals mg stand in Mod) -/
theorem law_call {P : Program} {w : World} {K : PySem.W.Frag} {mg mb : Str → Option Value} {CX : CXT} {k : Nat} {fa a : Addr} {fd : FuncData} {x : Str} {sp : Sp} {s₁ : Shared} {vs : List Value} {ns : List Int}
    (KX : K.In s₁.heap) (hns : s₁.heap.Ns mainGlobals mg) (hb : s₁.heap.Ns builtinsNs mb) (hbb : ∀ x : Str, x ≠ "__name__" → mb x = bootBuiltins x) (hlim : s₁.heap.NoLimit) (hdig : s₁.heap.NoDigits) (hsee : s₁.heap.NoSeer) (hg : s₁.gens = #[])
    (ha : s₁.heap.get? a = some { cls := .type "list", data := .seq vs.toArray }) (hi : IntsAre vs ns) (hl : ns.length ≤ sizeLine) (hr : Room k callerA)
    (F : ∀ base : Heap, K.In base → base.Ns mainGlobals mg → FnOk P w K mg base CX k fa fd [x] sp) (hbind : ∀ (s : Shared) (u : Value), BindsTo s fd ⟨[u], []⟩ [(x, u)])
    (hsp : ∀ H : Hp, Only H → SqL K H a (ns.map V.int) → sp [.ref a] H (fun v _ => v = .bl true) fun _ _ _ => False)
    (hCX : ∀ H e s', CX [] H s₁ (fun _ _ _ => False) e s' → False) :
    codeAny (model P w) callerA (.call (.ref fa) ⟨[.ref a], []⟩) (fun r s' => r = .ok (.ret (.bool true)) ∧ OldK s₁.heap s'.heap ∧ s'.os = s₁.os ∧ AllBare s'.gens) s₁ := by
  have rv := vals_ints hi
  have lenV := hi.length
  -- from an abstract heap in which nothing but the script may be tracked
  have core : ∀ H : Hp, Only H → SqL K H a (ns.map V.int) → HOk P w H s₁.heap → (∀ b, H b ≠ none → b = a) → (H a ≠ none → K.lookup a = none) →
      codeAny (model P w) callerA (.call (.ref fa) ⟨[.ref a], []⟩) (fun r s' => r = .ok (.ret (.bool true)) ∧ OldK s₁.heap s'.heap ∧ s'.os = s₁.os ∧ AllBare s'.gens) s₁ := by
    intro H hO hS hok hA hK
    have base_of : ∀ {b : Addr} {o : Obj}, s₁.heap.get? b = some o → H b = none → (hidT s₁.heap H).get? b = some o := fun e n => hidT_get e n
    have noA : ∀ {b : Addr} {o : Obj} {es : Array DictEntry} {ep : Nat}, s₁.heap.get? b = some o → o.data = .dict es ep → H b = none := fun {b o es ep} e d => by
      cases q : H b with
      | none => rfl
      | some u =>
        have e' : b = a := hA b (by rw [q]; simp)
        subst e'
        rw [ha] at e; cases e
        have d' : Data.seq vs.toArray _ = Data.dict es ep := d
        cases d'
    have nsK : ∀ {b : Addr} {m : Str → Option Value}, s₁.heap.Ns b m → (hidT s₁.heap H).Ns b m := fun {b m} ⟨o, es, ep, e, d, r⟩ => ⟨o, es, ep, base_of e (noA e d), d, r⟩
    have hKb : K.In (hidT s₁.heap H) := fun b o e => base_of (KX b o e) (by
      cases q : H b with
      | none => rfl
      | some u =>
        have e' : b = a := hA b (by rw [q]; simp)
        subst e'
        rw [hK (by rw [q]; simp)] at e; cases e)
    have hM : Mod K mg (hidT s₁.heap H) := ⟨hKb, nsK hns, ⟨mb, nsK hb, hbb⟩, let ⟨mc, h1, h2⟩ := hlim; ⟨mc, nsK h1, h2⟩, let ⟨mc, h1, h2⟩ := hdig; ⟨mc, nsK h1, h2⟩, ⟨let ⟨mc, h1, h2⟩ := hsee.statics; ⟨mc, nsK h1, h2⟩, let ⟨mc, h1, h2⟩ := hsee.mods; ⟨mc, nsK h1, h2⟩, let ⟨mc, h1, h2⟩ := hsee.imp; ⟨mc, nsK h1, h2⟩, let ⟨mg', bm, ob, h1, h2, h3, h4, h5⟩ := hsee.main; ⟨mg', bm, ob, nsK h1, h2, base_of h3 (by
      cases q : H bm with
      | none => rfl
      | some u =>
        have e' : bm = a := hA bm (by rw [q]; simp)
        subst e'
        rw [ha] at h3; cases h3
        exact absurd (Value.type.inj h4) (by decide)), h4, h5⟩⟩⟩
    have e0 : Env0 P w K mg (hidT s₁.heap H) callerA [] s₁ H := ⟨rfl, hM, fun b o e => of_hidT e, Nat.le_of_eq (hidT_size _ _), trivial, fun b hb => absurd (show b ∈ ([] : List Addr) from hb) (by simp), hok, .of_eq hg⟩
    refine codeAny_mono ((F _ hKb (nsK hns)).run callerA [] s₁ H ⟨[.ref a], []⟩ [.ref a] [.ref a] _ _ hr e0 (hbind s₁ (.ref a)) (.cons rfl .nil) (hsp H hO hS)) fun r s' h => ?_
    cases r with
    | error e => exact (hCX H e s' h).elim
    | ok fl =>
      cases fl with
      | next => exact False.elim h
      | brk => exact False.elim h
      | cont => exact False.elim h
      | ret u =>
        obtain ⟨v, H', os, bare, un, hok', r', q⟩ := h
        have q' : v = .bl true := q
        subst q'
        obtain rfl : u = Value.bool true := r'
        refine ⟨rfl, OldK.of_keep fun b o e => ?_, os, bare⟩
        cases q : H b with
        | none => exact un.keep b o e q (by intro z; exact absurd (show b ∈ ([] : List Addr) from z) (by simp)) (by simp)
        | some u =>
          rcases hO b with z | ⟨ob, xs, z⟩
          · rw [q] at z; cases z
          · have z2 := un.frzs b ob _ z
            obtain ⟨e1, _⟩ := hok b _ z
            obtain ⟨e2, _⟩ := hok' b _ z2
            rw [e] at e1; cases e1
            exact e2
  cases hk : K.lookup a with
  | some o =>
    -- the script is one of the module's own objects
    have e := KX a o hk
    rw [ha] at e
    cases e
    refine core (fun _ => none) (fun _ => .inl rfl) (.inr ⟨_, vs.toArray, _, hk, rfl, rfl, rfl, by rw [List.size_toArray, lenV]; exact hl, by simpa using rv⟩) (fun b u z => by have z' : (none : Option HO) = some u := z; cases z') (fun b z => absurd rfl z) fun z => absurd rfl z
  | none =>
    refine core (fun b => if b = a then some (.frz { cls := .type "list", data := .seq vs.toArray } (.lst (ns.map V.int))) else none) (fun b => ?_) (.inl (.inr ⟨{ cls := .type "list", data := .seq vs.toArray }, if_pos rfl⟩)) (fun b u z => ?_) (fun b z => ?_) fun _ => hk
    · by_cases hb : b = a
      · exact .inr ⟨_, _, if_pos hb⟩
      · exact .inl (if_neg hb)
    · by_cases hb : b = a
      · have z' := (if_pos hb).symm.trans z
        cases z'
        subst hb
        exact ⟨ha, by rw [List.length_map]; exact hl, vs, _, rv, ha⟩
      · have z' := (if_neg hb).symm.trans z
        cases z'
    · by_cases hb : b = a
      · exact hb
      · exact absurd (if_neg hb) z
end L2
namespace L2
open PySem PySem.Spec PyProof.Rows
/-- the goal that k_head leaves (case hc), from the law's promise. F gives the function object fd (K's own) once, then the promise over every base -/
theorem walk_of {l : PySem.W.OpenLaw} {n k : Nat} {q : Program} {loose : List Str} {XP : (Str → Option Value) → Heap → Prop} {YP : World → Heap → Prop} {d : DefRec} {K : Params → PySem.W.Frag} {CX : World → CXT} {sp : World → Sp} {x : Str}
    (hn : l.most = some n) (hn2 : n ≤ sizeLine) (hdf : d.params.defaults = []) (hI : importsNone q = true) (hr : Room k callerA)
    (hY : ∀ (w : World) (h : Heap), YP w h → (K w.params).In h)
    (F : ∀ (w : World) (mg : Str → Option Value) (fa : Addr) (h : Heap), (K w.params).In h → h.Ns mainGlobals mg → mg d.name = some (.ref fa) →
      ∃ fd : FuncData, (∀ (s : Shared) (u : Value), BindsTo s fd ⟨[u], []⟩ [(x, u)]) ∧
        ∀ base : Heap, (K w.params).In base → base.Ns mainGlobals mg → FnOk l.prog w (K w.params) mg base (CX w) k fa fd [x] (sp w))
    (hsp : ∀ (w : World) (H : Hp) (a : Addr) (ns : List Int), ns.length ≤ n → Only H → SqL (K w.params) H a (ns.map V.int) → sp w [.ref a] H (fun v _ => v = .bl true) fun _ _ _ => False)
    (hCX : ∀ (w : World) (H : Hp) (s : Shared) (e : Value) (s' : Shared), CX w [] H s (fun _ _ _ => False) e s' → False) :
    PySem.W.WalkO q loose XP YP l.row.toRowW d [] (fun f vs => PySem.call f vs) := by
  refine Att.attach_call hn hdf fun w s₀ s₁ mg mb fa o pm cd doc a vs ns G Y ho hd hcd hmg hobj hints hlen hg => ?_
  have KX := hY w _ Y
  obtain ⟨fd, hb, hF⟩ := F w mg fa _ KX G.T.g hmg
  exact law_call KX G.T.g G.T.b G.T.builtins G.T.nolimit G.T.nodigits (G.T.seer hI) hg hobj hints (Nat.le_trans hlen hn2) hr hF hb (fun H hO hS => hsp w H a ns hlen hO hS) fun H e s' => hCX w H s₁ e s'
end L2
namespace L2
open PySem PySem.Spec PyProof.Rows
def defArgs (s : Stmt) : Arguments := match s with
  | .FunctionDef _ a _ _ _ _ _ _ _ _ => a
  | _ => { posonlyargs := [], args := [], vararg := none, kwonlyargs := [], kw_defaults := [], kwarg := none, defaults := [] }
def defBody (s : Stmt) : List Stmt := match s with
  | .FunctionDef _ _ b _ _ _ _ _ _ _ => b
  | _ => []
def defScope (s : Stmt) : Scope := match s with
  | .FunctionDef _ _ _ _ _ _ sc _ _ _ => sc
  | _ => { kind := .function, names := [], isGenerator := false, isCoroutine := false }
abbrev CX0 : CXT := fun _ _ _ _ _ _ => False
abbrev E0 : XK := fun _ _ _ => False
theorem pass0 {X : Cx} : Passes CX0 X E0 := fun _ _ _ _ _ _ _ h => h.elim
structure Fun (K : PySem.W.Frag) (x qual : Str) (st : Stmt) (f : Addr) (fd : FuncData) : Prop where
  ex : ∃ (oc : Value) (od : Option Addr) (kV doc pm : Value) (an : Option Addr) (cdv ct : Value) (osl : Array (Option Value)),
    fd = PySem.W.fnOf x qual (defArgs st) (defBody st) (defScope st) .none kV doc pm an cdv ct ∧ K.lookup f = some ⟨oc, od, .func fd, osl⟩ ∧ PySem.W.codeIn K cdv qual = true
  kp : PySem.W.keepIn K (.ref f) = true
section
variable {P : Program} {w : World} {K : PySem.W.Frag} {mg : Str → Option Value} {base : Heap}
/-- THE RULE for a def: its body as a term of rules, and the reading of that term -/
theorem Fun.ok {x qual : Str} {st : Stmt} {f : Addr} {fd : FuncData} {N ps : List Str} {k : Nat} {sp : Sp} (F : Fun K x qual st f fd) (S : FnScope N ps (defScope st)) (len : ∀ vs H Q E, sp vs H Q E → vs.length = ps.length)
    (hbody : ∀ (cdv : Value) (A : Around) (outer : List Env) (s : Shared) (H : Hp) (vs : List V) (Q : VK) (E : XK), Room k (A.deeper (envOfC qual (defScope st) s.heap.objs.size f cdv)) → sp vs H Q E →
      ∃ t, PSs (cxOf CX0 P w K mg base N qual (defScope st) f cdv A outer s H E).nox (defBody st) t ∧ t { nx := fun _ H' => Q .non H', rt := Q } (start N vs) H) : FnOk P w K mg base CX0 (k + 1) f fd ps sp := by
  obtain ⟨oc, od, kV, doc, pm, an, cdv, ct, osl, rfl, lk, hcd⟩ := F.ex
  refine fn_of lk hcd S len fun A outer s H vs Q E hr hsp => ?_
  obtain ⟨t, h, q⟩ := hbody cdv A outer s H vs Q E hr hsp
  exact ⟨t, h.nox, q⟩
/-- how its arguments bind (no defaults): h is «fun _ _ _ _ _ _ us hl => match us, hl with | [_, _], _ => rfl», one _ a parameter -/
theorem Fun.binds {x qual : Str} {st : Stmt} {f : Addr} {fd : FuncData} {ps : List Str} (F : Fun K x qual st f fd)
    (h : ∀ (kV doc pm : Value) (an : Option Addr) (cdv ct : Value) (us : List Value), us.length = ps.length → bindArgs (PySem.W.fnOf x qual (defArgs st) (defBody st) (defScope st) .none kV doc pm an cdv ct) ⟨us, []⟩ = pure (ps.zip us)) : Binds K fd ps [] := by
  obtain ⟨oc, od, kV, doc, pm, an, cdv, ct, osl, rfl, lk, hcd⟩ := F.ex
  exact .all (h kV doc pm an cdv ct)
theorem fun_mk {x qual : Str} {st : Stmt} {f : Addr} {oc : Value} {od an : Option Addr} {osl : Array (Option Value)} {kV doc pm cdv ct : Value} (l : K.lookup f = some ⟨oc, od, .func (PySem.W.fnOf x qual (defArgs st) (defBody st) (defScope st) .none kV doc pm an cdv ct), osl⟩)
    (c : PySem.W.codeIn K cdv qual = true) (k : PySem.W.keepIn K (.ref f) = true) : Fun K x qual st f (PySem.W.fnOf x qual (defArgs st) (defBody st) (defScope st) .none kV doc pm an cdv ct) := ⟨⟨oc, od, kV, doc, pm, an, cdv, ct, osl, rfl, l, c⟩, k⟩
end
theorem hu_of {A : Around} {k : Nat} (hr : Room k A) : A.units + 1 < cLine := Nat.lt_of_le_of_lt (Nat.add_le_add_left (by decide : 1 ≤ 64) _) hr.units
section
variable {X : Cx}
theorem pv (i : Nat) {x : Str} {pos : Pos} (hN : X.N[i]? = some x := by rfl) (hv : Vis X.env.scope x := by first | exact Or.inl rfl | exact Or.inr (Or.inl rfl) | exact Or.inr (Or.inr rfl)) (hd : (x == ("__debug__" : Str)) = false := by decide)
    (hcd : (x == ("__classdict__" : Str)) = false := by decide) : PE X (.Name x pos) (tVar i) := pe_var hN hv hd hcd
end
theorem iteF {A B : Prop} (h : B) : if false = true then A else B := by
  rw [if_neg Bool.false_ne_true]
  exact h
theorem iteT {A B : Prop} (h : A) : if true = true then A else B := by
  rw [if_pos rfl]
  exact h
theorem ite2 {c A B : Prop} [Decidable c] (h1 : c → A) (h2 : ¬ c → B) : if c then A else B := by
  by_cases h : c
  · rw [if_pos h]
    exact h1 h
  · rw [if_neg h]
    exact h2 h
/-- all that was tracked is as it was -/
def Same (H H' : Hp) : Prop := ∀ b o, H b = some o → H' b = some o
theorem Same.refl (H : Hp) : Same H H := fun _ _ h => h
theorem Same.trans {H H1 H2 : Hp} (a : Same H H1) (b : Same H1 H2) : Same H H2 := fun c o h => b c o (a c o h)
theorem Same.free {H H' : Hp} (e : Same H H') {l : Addr} (h : H' l = Option.none) : H l = Option.none := by
  cases q : H l with
  | none => rfl
  | some o =>
    rw [e l o q] at h
    cases h
theorem Same.seq {K : PySem.W.Frag} {H H' : Hp} {a : Addr} {xs : List V} (e : Same H H') (h : SqL K H a xs) : SqL K H' a xs := by
  rcases h with (h | ⟨o, h⟩) | h
  · exact .inl (.inl (e _ _ h))
  · exact .inl (.inr ⟨o, e _ _ h⟩)
  · exact .inr h
section
variable {κ : Type} [DecidableEq κ]
end
/-- a new instance and its __init__ leave all that was tracked as it was -/
theorem Same.made {H H1 : Hp} {x dx C : Addr} (nx : H x = Option.none) (nd : H dx = Option.none) (k : ∀ b o, (upd (upd H dx (.own x)) x (.ins C dx [])) b = some o → b ≠ x → H1 b = some o) : Same H H1 := fun b o e =>
  k b o (by rw [upd_ne (ne_of_none e nx), upd_ne (ne_of_none e nd)]; exact e) (ne_of_none e nx)
end L2
set_option Elab.async false
set_option maxRecDepth 100000
namespace PySem
open Sem (wp)
namespace F
theorem lri_no_len : typeLookup (.type "list_reverseiterator") "__len__" = pure none := by rw [typeLookup_type, builtinLookup_eq_fast]; kernel_rfl
theorem slot_lri_hint : Slot "list_reverseiterator" "__length_hint__" "list_reverseiterator.__length_hint__" :=
  .of (owner := "list_reverseiterator") (n := "__length_hint__") (by rw [typeLookup_type, builtinLookup_eq_fast]; kernel_rfl) (by decide +kernel) (by decide +kernel) (by decide +kernel)
    (by first | exact .inl (by decide +kernel) | exact .inr (by decide +kernel)) (by rw [isSubtype_type]; kernel_rfl)
end F
section
variable {prog : Program} {w : World} {A : Around} {E : Value → Shared → Prop} {s : Shared}
theorem wpAny_hint_rev {r l : Addr} {i : Int} {Q : Bool → Shared → Prop} (hr : s.heap.IsRevIter r l i)
    (h : Q false s) : wpAny (model prog w) A (Builtin.List.listLengthHint (.ref r)) Q E s := by
  unfold Builtin.List.listLengthHint
  refine wpAny_bind (wpAny_specialOf hr.typeIs F.lri_no_len ?_)
  show wpAny _ A (specialOf (Value.ref r) (Str.ofString "__length_hint__") >>= _) _ _ _
  refine wpAny_bind (wpAny_specialOf hr.typeIs F.slot_lri_hint.lookup ?_)
  generalize hid : ("list_reverseiterator.__length_hint__" : String) = id0
  wp_delta
  rw [show splitId id0 = some ("list_reverseiterator", "__length_hint__") from by subst hid; decide +kernel]
  subst hid
  refine wpAny_bind (wpAny_isInstance (T := "list_reverseiterator") (b := true) hr.typeIs (by rw [isSubtype_type]; kernel_rfl) ?_)
  refine wpAny_ite_split (fun hab => absurd hab (by decide)) (fun _ => ?_)
  refine wpAny_ite_split (fun _ => ?_) (fun hab => absurd (by decide +kernel) hab)
  refine wpAny_ite_split (fun hab => absurd hab (by decide +kernel)) (fun _ => ?_)
  exact wpAny_pure h
end
end PySem
namespace PySem
section
variable {prog : Program} {w : World} {A : Around} {E : Value → Shared → Prop} {s : Shared}
theorem wpAny_extend_rev {R : Result → Shared → Prop} {r l : Addr} {items : Array Value} (hh : A.handled = none) (hr : s.heap.IsRevIter r l ((items.size : Int) - 1)) (hl : s.heap.IsList l items) (hne : l ≠ r)
    (hlen : items.size ≤ sizeLine) (S : Addr) (hSl : S ≠ l) (res : Value) (c₀ : Nat) (hS : s.heap.get? S = some { cls := .type "list", data := .seq #[] c₀ })
    (hR : ∀ h' tk acc' c', (∀ b o, b ≠ S → b ≠ r → s.heap.get? b = some o → h'.get? b = some o) → h'.get? S = some { cls := .type "list", dict := none, data := .seq acc' c', slots := #[] } →
      ItemsOf (fun i v => items[items.size - 1 - i]? = some v) acc' items.size → R (.ok (.ret res)) { s with heap := h', toks := tk }) :
    wpAny (model prog w) A.in1 (Builtin.List.listExtendWith (.ref S) (.ref r) res)
      (fun fin s' => match fin with | .done f => R (.ok f) s' | .again c' => c'.quiet = true ∧ codeAny (model prog w) A c' R s') (fun e s' => R (.error e) s') s := by
  have hSr : S ≠ r := fun e => by
    obtain ⟨o, ho, hc, _⟩ := hr
    rw [← e, hS] at ho
    cases ho
    exact absurd (show Value.type "list" = Value.type "list_reverseiterator" from hc) (by decide)
  have hSf : S ∉ [r, l] := fun hm => by
    rcases List.mem_cons.mp hm with z | z
    · exact hSr z
    · exact hSl (List.mem_singleton.mp z)
  have W := (Walks.listRev (prog := prog) (w := w) (A := A.in1) hh r l hne items).toS
  unfold Builtin.List.listExtendWith
  refine wpAny_bind (wpAny_typeOf (T := "list_reverseiterator") hr.typeIs ?_)
  have h1 : Builtin.List.listSameRef (.ref S) (.ref r) = false := by simp [Builtin.List.listSameRef, hSr]
  have h2 : (Value.type "list_reverseiterator" == Value.type "list") = false := by decide
  have h3 : (Value.type "list_reverseiterator" == Value.type "tuple") = false := by decide
  simp only [h1, h2, h3, Bool.or_false, Bool.false_eq_true, if_false]
  refine wpAny_bind (wpAny_pyIter_revIter hr ?_)
  refine wpAny_bind (wpAny_holding (wpAny_hint_rev hr ?_))
  refine wpAny_ite_split (fun hab => absurd hab (by decide +kernel)) (fun _ => ?_)
  have hr0 : s.heap.IsRevIter r l ((items.size : Int) - 1 - ((0 : Nat) : Int)) := by simpa using hr
  refine wpAny_pure ⟨plainId_quiet F.plain_extend_loop _, codeAny_extend_loopS W hlen S hSf res items.size 0 _ #[] c₀ rfl (Nat.zero_le _) ⟨Nat.zero_le _, hr0, hl⟩ hS (ItemsOf.nil _) fun s' acc' c' hm hS' hacc => ?_⟩
  rw [Moved.eq_with hm]
  refine hR s'.heap s'.toks acc' c' (fun b o hb hb2 e => hm.heap b o (fun hmem => ?_) e) hS' hacc
  rcases List.mem_cons.mp hmem with e' | hmem
  · exact hb e'
  · exact hb2 (List.mem_singleton.mp hmem)
theorem wpAny_list_init_rev {R : Result → Shared → Prop} {r l : Addr} {items : Array Value} (hh : A.handled = none) (hr : s.heap.IsRevIter r l ((items.size : Int) - 1)) (hl : s.heap.IsList l items) (hne : l ≠ r)
    (hlen : items.size ≤ sizeLine) (S : Addr) (hSl : S ≠ l) (hSr : S ≠ r) (hS : s.heap.get? S = some { cls := .type "list", data := .seq #[] })
    (hR : ∀ h' tk acc' c', (∀ b o, b ≠ S → b ≠ r → s.heap.get? b = some o → h'.get? b = some o) → h'.get? S = some { cls := .type "list", dict := none, data := .seq acc' c', slots := #[] } →
      ItemsOf (fun i v => items[items.size - 1 - i]? = some v) acc' items.size → R (.ok (.ret .none)) { s with heap := h', toks := tk }) :
    wpAny (model prog w) A.in1 (Builtin.«list.__init__» ⟨[.ref S, .ref r], []⟩)
      (fun fin s' => match fin with | .done f => R (.ok f) s' | .again c' => c'.quiet = true ∧ codeAny (model prog w) A c' R s') (fun e s' => R (.error e) s') s := by
  show wpAny _ _ (do let old ← Builtin.List.listItems (.ref S); Builtin.List.listUpdate (.ref S) (fun _ => #[]); letGo old.toList.reverse; Builtin.List.listExtendWith (.ref S) (.ref r) .none) _ _ s
  refine wpAny_bind ?_
  unfold Builtin.List.listItems
  refine wpAny_bind (wpAny_seqItems hS rfl (wpAny_pure ?_))
  show wpAny _ _ (updateSeq S (fun _ => #[]) >>= fun _ => letGo (#[] : Array Value).toList.reverse >>= fun _ => Builtin.List.listExtendWith (.ref S) (.ref r) .none) _ _ s
  refine wpAny_bind (wpAny_updateSeq hS rfl ?_)
  have hS₂ := Heap.get?_update_self (Obj.mapSeq (fun _ => (#[] : Array Value))) hS rfl
  have oth : ∀ b o, b ≠ S → s.heap.get? b = some o → (s.heap.update S (Obj.mapSeq (fun _ => (#[] : Array Value)))).get? b = some o :=
    fun b o hb e => (Heap.get?_update_other _ _ (Ne.symm hb)).trans e
  refine wpAny_bind (wpAny_letGo ?_)
  refine wpAny_extend_rev hh (hr.at fun o e => oth r o (Ne.symm hSr) e) (hl.at fun o e => oth l o (Ne.symm hSl) e) hne hlen S hSl .none _ hS₂ fun h' tk acc' c' hk hS' hacc => ?_
  exact hR h' tk acc' c' (fun b o hb hb2 e => hk b o hb hb2 (oth b o hb e)) hS' hacc
theorem call_list_rev {Q : Value → Shared → Prop} {r l : Addr} {items : Array Value} (hh : A.handled = none) (hr : s.heap.IsRevIter r l ((items.size : Int) - 1)) (hl : s.heap.IsList l items) (hne : l ≠ r)
    (hlen : items.size ≤ sizeLine)
    (hQ : ∀ h' tk acc' c', (∀ b o, b ≠ r → s.heap.get? b = some o → h'.get? b = some o) →
      h'.get? s.heap.objs.size = some { cls := .type "list", dict := none, data := .seq acc' c', slots := #[] } → ItemsOf (fun i v => items[items.size - 1 - i]? = some v) acc' items.size → Q (.ref s.heap.objs.size) { s with heap := h', toks := tk }) :
    wpAny (model prog w) A (call (.type "list") [.ref r]) Q E s := by
  refine callType_codes (Q₁ := fun obj s₁ => obj = .ref s.heap.objs.size ∧ s₁ = { s with heap := s.heap.push { cls := .type "list", data := .seq #[] } }) F.called_list (F.typeCall_list_1 _) F.entry_list_init
    (code_list_new _ ⟨rfl, rfl⟩) fun obj s₁ h₁ => ?_
  obtain ⟨rfl, rfl⟩ := h₁
  have hS : (s.heap.push { cls := .type "list", data := .seq #[] }).get? s.heap.objs.size = some { cls := .type "list", data := .seq #[] } := Heap.get?_push_size _ rfl
  obtain ⟨o1, e1, _⟩ := id hr
  obtain ⟨o2, e2, _⟩ := id hl
  refine ⟨⟨_, hS, rfl⟩, F.args_list_init_2 _ _, wpAny_list_init_rev (A := A.in1) hh (hr.at fun o e => Heap.get?_push_of_some _ e) (hl.at fun o e => Heap.get?_push_of_some _ e) hne hlen _ (Nat.ne_of_gt (Heap.lt_size e2)) (Nat.ne_of_gt (Heap.lt_size e1)) hS fun h' tk acc' c' hk hS' hacc => ?_⟩
  exact ⟨rfl, hQ h' tk acc' c' (fun b o hb e => hk b o (Nat.ne_of_lt (Heap.lt_size e)) hb (Heap.get?_push_of_some _ e)) hS' hacc⟩
end
end PySem
namespace L2
open PySem PySem.Spec PyProof.Rows
def tLR (K : PySem.W.Frag) (ta : TA) : TE := fun σ H Q => ta σ H fun vs H1 => ∃ (a : Addr) (xs : List V), vs = [.ref a] ∧ SqL K H1 a xs ∧ ∀ l, H1 l = none → Q (.ref l) (upd H1 l (.lst xs.reverse))
theorem vals_rev {xs : List V} {its : List Value} {acc : Array Value} (r : Vals xs its) (h : ItemsOf (fun i v => its.toArray[its.toArray.size - 1 - i]? = some v) acc its.toArray.size) : Vals xs.reverse acc.toList := by
  have e : acc.toList = its.reverse := by
    obtain ⟨h1, h2⟩ := h
    apply List.ext_getElem?
    intro i
    by_cases hi : i < acc.size
    · have q := h2 i acc[i] (by simp [hi])
      rw [List.getElem?_reverse (by simp at h1; omega)]
      simp at q h1 ⊢
      rw [q]
      simp [hi]
    · rw [List.getElem?_eq_none (by simp; omega), List.getElem?_eq_none (by simp at h1 ⊢; omega)]
  rw [e]
  clear h e
  have key : ∀ {xs : List V} {its : List Value} {ys : List V} {us : List Value}, Vals xs its → Vals ys us → Vals (xs.reverse ++ ys) (its.reverse ++ us) := by
    intro xs its ys us r
    induction r generalizing ys us with
    | nil => intro q; exact q
    | cons p _ ih =>
      intro q
      simp only [List.reverse_cons, List.append_assoc, List.singleton_append]
      exact ih (.cons p q)
  have := key r (.nil)
  simpa using this
section
variable {X : Cx}
theorem pe_listrev {e : Expr} {ta : TA} {p p2 pos pos2 : Pos} (hc : X.calm = true) (hg : Gl X "list") (hm : X.mg "list" = none) (hg2 : Gl X "reversed") (hm2 : X.mg "reversed" = none) (ha : PA X [e] ta)
    (hs : starEach [e] X.env = [(false, eval e X.env)] := by rfl) :
    PE X (.Call (.Name "list" p) [.Call (.Name "reversed" p2) [e] [] pos2] [] pos) (tLR X.K ta) := by
  intro pins s σ H Q I h
  refine wpAny_Call_Name_kw (ld_blt I hg hm (show bootBuiltins "list" = some (.type "list") by decide +kernel) ?_)
  refine PyProof.Rows.callWith_type1 ?_ rfl rfl
  refine Calls.spliced_cons ?_
  refine Call_ (ld_blt I hg2 hm2 boot_reversed5 (PyProof.Rows.callWith_type1 (thn (ha pos2 pins s σ H _ I h) fun us s1 ⟨vs, H1, I1, r1, q1⟩ => ?_) hs rfl))
  obtain ⟨a, xs, e, hq, q⟩ := q1
  subst e
  cases r1 with
  | cons r rr =>
    cases rr
    cases r
    obtain ⟨its, rv, p', hz⟩ := I1.list hq
    have hl := rv.length
    refine call_reversed_list p'.isList (Calls.spliced_nil ?_)
    obtain ⟨o, ho, _⟩ := p'.isList
    refine call_list_rev (items := its.toArray) (l := a) (r := s1.heap.objs.size) (I.ok.hd hc) ⟨_, Heap.get?_push_size _ rfl, rfl, rfl⟩ (p'.isList.at fun o e => Heap.get?_push_of_some _ e) (Nat.ne_of_lt (Heap.lt_size ho)) (by simp only [List.size_toArray]; omega) fun h' tk acc' c' hk hS hacc => ?_
    have hsz : s1.heap.objs.size ≤ (s1.heap.push (revObj a ((its.toArray.size : Int) - 1))).objs.size := by simp [Heap.size_push]
    refine ⟨V.ref (s1.heap.push (revObj a ((its.toArray.size : Int) - 1))).objs.size, _, I1.laid (t' := tk) (a := (s1.heap.push (revObj a ((its.toArray.size : Int) - 1))).objs.size) (o := .lst xs.reverse) (fun b u e => hk b u (Nat.ne_of_lt (Heap.lt_size e)) (Heap.get?_push_of_some _ e)) hsz ⟨by simpa using hz, acc'.toList, c', vals_rev rv hacc, by simpa using hS⟩, rfl, q _ (I1.hok.fresh hsz)⟩
end
end L2
set_option Elab.async false
set_option maxRecDepth 100000
namespace L2
open PySem PySem.Spec PyProof.Rows
section
variable {X : Cx} {P : Program} {w : World} {K : PySem.W.Frag} {mg : Str → Option Value} {base : Heap}
/-- a def of the module that keeps its promise, and is called by its name -/
structure FnIn (P : Program) (w : World) (K : PySem.W.Frag) (mg : Str → Option Value) (base : Heap) (k : Nat) (x : Str) (ps : List Str) (sp : Sp) : Prop where
  ex : ∃ f fd, FnOk P w K mg base CX0 k f fd ps sp ∧ mg x = some (.ref f) ∧ PySem.W.keepIn K (.ref f) = true ∧ Binds K fd ps []
theorem FnIn.mono {j k : Nat} {x : Str} {ps : List Str} {sp : Sp} (F : FnIn P w K mg base j x ps sp) (h : j ≤ k) : FnIn P w K mg base k x ps sp :=
  let ⟨f, fd, a, b, c, d⟩ := F.ex; ⟨f, fd, a.mono h, b, c, d⟩
theorem FnIn.imp {k : Nat} {x : Str} {ps : List Str} {sp sp' : Sp} (F : FnIn P w K mg base k x ps sp) (h : ∀ vs H Q E, sp' vs H Q E → sp vs H Q E) : FnIn P w K mg base k x ps sp' :=
  let ⟨f, fd, a, b, c, d⟩ := F.ex; ⟨f, fd, a.imp h, b, c, d⟩
theorem pe_fn {x : Str} {ps : List Str} {sp : Sp} {j k : Nat} {e : Expr} {es : List Expr} {t : TA} {p pos : Pos} (F : FnIn X.prog X.w X.K X.mg X.base j x ps sp) (hr : Room k X.A) (hg : Gl X x) (ha : PA X (e :: es) t) (hjk : j ≤ k := by first | decide | omega)
    (hdb : (x == ("__debug__" : Str)) = false := by decide) (he : starEach (e :: es) X.env = (false, eval e X.env) :: starEach es X.env := by rfl) (hpl : (backTo pos (starEach es X.env)).any (·.1) = false := by rfl) :
    PE X (.Call (.Name x p) (e :: es) [] pos) (tCall sp [] E0 t) := by
  obtain ⟨f, fd, a, b, c, d⟩ := F.ex
  exact pe_call (a.mono hjk) hr hg b c d .nil pass0 ha hdb he hpl
theorem pe_gref {x : Str} {a : Addr} {pos : Pos} (hg : Gl X x) (h : X.mg x = some (.ref a)) (hd : (x == ("__debug__" : Str)) = false := by decide) : PE X (.Name x pos) (tC (.ref a)) := pe_glob hg h rfl hd
def repS (x : Str) (n : Int) : Str := if n < 1 then Str.empty else if (n == 1 || x.length == 0) = true then x else ⟨(List.replicate n.toNat x.cps).foldl (· ++ ·) #[]⟩
theorem fold_app (l : List (Array Nat)) : ∀ a : Array Nat, (l.foldl (· ++ ·) a).toList = a.toList ++ (l.map Array.toList).flatten := by
  induction l with
  | nil => intro a; simp
  | cons x r ih => intro a; rw [List.foldl_cons, ih]; simp
theorem repS_toList (z : Str) (n : Int) : (repS z n).cps.toList = (List.replicate n.toNat z.cps.toList).flatten := by
  unfold repS
  by_cases hn : n < 1
  · rw [if_pos hn, show n.toNat = 0 by omega]; rfl
  · rw [if_neg hn]
    by_cases h : (n == 1 || z.length == 0) = true
    · rw [if_pos h]
      simp only [Bool.or_eq_true, beq_iff_eq] at h
      rcases h with h | h
      · subst h; simp
      · have e : z.cps.toList = [] := by
          have : z.cps.size = 0 := h
          simpa using this
        rw [e]; simp
    · rw [if_neg h, fold_app]; simp
theorem repS_len {z : Str} {n : Int} : (repS z n).length = z.length * n.toNat := by
  show (repS z n).cps.size = z.cps.size * n.toNat
  rw [← Array.length_toList, repS_toList, List.length_flatten]
  simp [Nat.mul_comm]
theorem op_mul_str : OpR X (binaryOp .Mult) (fun x y H Q => ∃ z n, x = .str z ∧ y = .int n ∧ -(2 ^ 63) ≤ n ∧ n < 2 ^ 63 ∧ z.length * n.toNat ≤ sizeLine ∧ z.length ≤ sizeLine ∧ Q (.str (repS z n)) H) := by
  intro pins s σ H x y v u Q I rx ry h
  obtain ⟨z, n, rfl, rfl, h0, h1, h2, h3, q⟩ := h
  obtain ⟨t, rfl⟩ := rx
  obtain ⟨t', rfl⟩ := ry
  have hz : sizeLine = 16777216 := sizeLine_eq
  refine PySem.P.mul_str (by rw [decide_eq_false (by omega), decide_eq_false (by omega)]; rfl) (fun hn _ => ?_) (fun hn _ => ?_) ?_
  · intro hgt
    have h4 : (2 ^ 63 - 1 : Int) / n < z.length := hgt
    have h5 : (2 ^ 63 - 1 : Int) < z.length * n := (Int.ediv_lt_iff_lt_mul (by omega)).mp h4
    have h6 : (z.length : Int) * n = ((z.length * n.toNat : Nat) : Int) := by
      rw [Int.natCast_mul, Int.toNat_of_nonneg (by omega)]
    omega
  · simp [PySem.Builtin.Str.tooLong]; omega
  · unfold repS at q
    by_cases hn : n < 1
    · rw [if_pos hn] at q ⊢
      exact ⟨by decide, ⟨.str Str.empty, H, I.tok _, ⟨_, rfl⟩, q⟩⟩
    · rw [if_neg hn] at q ⊢
      by_cases h7 : (n == 1 || z.length == 0) = true
      · rw [if_pos h7] at q ⊢
        exact ⟨.str z, H, I, ⟨_, rfl⟩, q⟩
      · rw [if_neg h7] at q ⊢
        refine ⟨?_, ⟨.str _, H, I.tok _, ⟨_, rfl⟩, q⟩⟩
        have e := repS_len (z := z) (n := n)
        unfold repS at e
        rw [if_neg hn, if_neg h7] at e
        rw [e]
        omega
def tPar3 (i j k : Nat) (ta : TA) : TS := fun D σ H => ta σ H fun vs H1 => ∃ v w z, vs = [v, w, z] ∧ D.nx (((σ.set i (some v)).set j (some w)).set k (some z)) H1
theorem ps_par3 {i j k : Nat} {x y z : Str} {a b c : Expr} {ta : TA} {px py pz pt pos : Pos} {kt k2 pt2} (hc : X.calm = true) (hN : X.N.Nodup) (hi : X.N[i]? = some x) (hj : X.N[j]? = some y) (hk : X.N[k]? = some z) (hij : i ≠ j) (hik : i ≠ k) (hjk : j ≠ k)
    (hx : X.env.scope.names.lookup x = some .local) (hy : X.env.scope.names.lookup y = some .local) (hz : X.env.scope.names.lookup z = some .local) (ha : PA X [a, b, c] ta)
    (hw : swappedStores [.Tuple [.Name x px, .Name y py, .Name z pz] kt pt] (.Tuple [a, b, c] k2 pt2) X.env = pure (some [x, y, z]))
    (hs : swapsWithSole [.Tuple [.Name x px, .Name y py, .Name z pz] kt pt] (.Tuple [a, b, c] k2 pt2) pos.line X.env = pure false := by rfl) :
    PS X (.Assign [.Tuple [.Name x px, .Name y py, .Name z pz] kt pt] (.Tuple [a, b, c] k2 pt2) pos) (tPar3 i j k ta) := by
  intro pins s σ H D I h
  rw [exec_Assign_arm]
  refine wpAny_bind (wpAny_standAt ?_)
  rw [hs]
  refine wpAny_bind (wpAny_pure ?_)
  rw [if_neg (by decide)]
  refine wpAny_bind (Tuple_ (thn (ha _ pins s σ H _ I h) fun us s1 ⟨vs, H1, I1, r1, q1⟩ => ?_))
  obtain ⟨v, w, v3, e1, q1⟩ := q1
  subst e1
  obtain ⟨u1, u2, u3, rfl, rv, rw', r3⟩ : ∃ u1 u2 u3, us = [u1, u2, u3] ∧ RelV v u1 ∧ RelV w u2 ∧ RelV v3 u3 := by
    cases r1 with
    | cons p q =>
      cases q with
      | cons p' q' =>
        cases q' with
        | cons p'' q'' =>
          cases q''
          exact ⟨_, _, _, rfl, p, p', p''⟩
  refine wpAny_newObj_type ?_ (by show 3 ≤ sizeLine; decide)
  have I2 : Inv X pins σ H1 { s1 with heap := s1.heap.push { cls := .type "tuple", data := .seq [u1, u2, u3].toArray } } := I1.kept (t' := s1.toks) fun b o e => Heap.get?_push_of_some _ e
  rw [hw]
  refine wpAny_bind (wpAny_pure ?_)
  show wpAny (model X.prog X.w) X.A (do rule "assign.swapped-stores"; let items ← unpackItems (.ref s1.heap.objs.size) 3 none; assignInOrder [fun v => bindName X.env z v, fun v => bindName X.env y v, fun v => bindName X.env x v] items.reverse; pure Flow.next) _ _ _
  refine wpAny_bind (wpAny_rule (wpAny_bind (unpackItems_tuple (items := #[u1, u2, u3]) (I.ok.hd hc) (IsTup.new s1.heap _) fun h' hx' => ?_)))
  have I3 := I2.kept (h' := h') (t' := s1.toks) fun b o e => hx' b o (Nat.ne_of_lt (Heap.lt_size e)) e
  show wpAny _ _ (assignInOrder [fun v => bindName X.env z v, fun v => bindName X.env y v, fun v => bindName X.env x v] [u3, u2, u1] >>= fun _ => pure Flow.next) _ _ _
  refine wpAny_bind (assignInOrder_cons (wpAny_bindName (store_ok I3 hN hk (.inl hz) r3 (fun s2 I4 => ?_) (.inr hz))))
  refine assignInOrder_cons (wpAny_bindName (store_ok I4 hN hj (.inl hy) rw' (fun s3 I5 => ?_) (.inr hy)))
  refine assignInOrder_cons (wpAny_bindName (store_ok I5 hN hi (.inl hx) rv (fun s4 I6 => assignInOrder_nil (wpAny_pure ?_)) (.inr hx)))
  have e : ((σ.set k (some v3)).set j (some w)).set i (some v) = ((σ.set i (some v)).set j (some w)).set k (some v3) := by
    rw [List.set_comm _ _ (Ne.symm hjk), List.set_comm _ _ (Ne.symm hik), List.set_comm _ _ (Ne.symm hij)]
  rw [e] at I6
  exact ⟨_, H1, I6, q1⟩
end
end L2
set_option Elab.async false
set_option maxRecDepth 100000
set_option linter.all false
namespace HT
open PySem PyProof.Rows
section
variable {prog : Program} {w : World} {A : Around} {E : Value → Shared → Prop} {s : Shared}
theorem sliceApplied_rev {sl : Addr} {vk : Value} {n : Nat} {Q : Int × Int × Nat → Shared → Prop} (hs : s.heap.IsSliceOf sl .none .none vk) (pk : IsPart vk (some (-1)))
    (h : Q ((n : Int) - 1, -1, n) s) : wpAny (model prog w) A (Builtin.Slice.sliceApplied (.ref sl) (pure (n : Int))) Q E s := by
  obtain ⟨os, hos, hcs, hds⟩ := id hs
  unfold Builtin.Slice.sliceApplied Builtin.Slice.sliceFields
  refine wpAny_bind (wpAny_bind (wpAny_field hos hds (x := .none) rfl (wpAny_bind (wpAny_field hos hds (x := .none) rfl (wpAny_bind (wpAny_field hos hds (x := vk) rfl (wpAny_pure ?_)))))))
  refine wpAny_bind (slicePart_ pk ?_)
  show wpAny _ _ (if ((-1 : Int) == 0) = true then _ else _) _ _ s
  rw [if_neg (by decide)]
  refine wpAny_bind (slicePart_none (wpAny_bind (slicePart_none (wpAny_bind (wpAny_pure ?_)))))
  have e : Builtin.Slice.sliceAdjust none none (-1) (n : Int) = ((n : Int) - 1, -1) := by
    unfold Builtin.Slice.sliceAdjust
    simp
  show wpAny _ _ (match Builtin.Slice.sliceAdjust none none (-1) (n : Int) with | (lo, hi) => pure (lo, (-1 : Int), Builtin.Slice.slicePlaces lo hi (-1))) _ _ s
  rw [e]
  show wpAny _ _ (pure ((n : Int) - 1, (-1 : Int), Builtin.Slice.slicePlaces ((n : Int) - 1) (-1) (-1))) _ _ s
  have e2 : Builtin.Slice.slicePlaces ((n : Int) - 1) (-1) (-1) = n := by
    unfold Builtin.Slice.slicePlaces
    by_cases hn : n = 0
    · subst hn; rfl
    · rw [if_neg (by decide), if_pos (by omega), show (-(-1) : Int) = 1 by decide, Int.ediv_one]
      omega
  rw [e2]
  exact wpAny_pure h
theorem pick_rev (xs : Array Value) : ((List.range xs.size).filterMap fun (m : Nat) => xs[(((xs.size : Int) - 1) + (m : Int) * -1).toNat]?).toArray = xs.toList.reverse.toArray := by
  have e : ((List.range xs.size).filterMap fun (m : Nat) => xs[(((xs.size : Int) - 1) + (m : Int) * -1).toNat]?) = ((List.range xs.size).map fun k => xs.size - 1 - k).filterMap (xs[·]?) := by
    rw [List.filterMap_map]
    congr 1
    funext m
    have e : (((xs.size : Int) - 1) + (m : Int) * -1).toNat = xs.size - 1 - m := by omega
    rw [e]
    rfl
  rw [e, PySem.W.krv_range, List.filterMap_reverse, PySem.W.krv_all]
theorem getItem_tuple_rev {t sl : Addr} {items : Array Value} {vk : Value} {Q : Value → Shared → Prop} (ht : IsTup s.heap t items) (hs : s.heap.IsSliceOf sl .none .none vk) (pk : IsPart vk (some (-1)))
    (h : Q (.ref s.heap.objs.size) { s with heap := s.heap.push { cls := .type "tuple", data := .seq items.toList.reverse.toArray } })
    (hsz : items.size ≤ sizeLine) : wpAny (model prog w) A (getItem (.ref t) (.ref sl)) Q E s := by
  have htake : sizeOk (.seq items.toList.reverse.toArray) := by
    show items.toList.reverse.toArray.size ≤ sizeLine
    simpa using hsz
  obtain ⟨os, hos, hcs, hds⟩ := id hs
  have hTs : s.TypeIs (.ref sl) "slice" := ⟨os, hos, hcs⟩
  unfold getItem
  try with_reducible refine wpAny_holding ?_
  first | refine wpAny_bind (wpAny_pure ?_) | skip
  refine wpAny_bind (wpAny_sequenceKey ht.typeIs (by decide) ?_)
  refine wpAny_bind (wpAny_callSpecial?_slot (name := Str.ofString "__getitem__") ht.typeIs PyProof.Rows.slot_tuple_getitem
    (wpAny_call_entry PyProof.Rows.slot_tuple_getitem ht.typeIs entry_tuple_getitem ?_ (args_tuple_getitem _ _)))
  show wpAny _ _ (Builtin.Tuple.tupleItemsOf (.ref t) >>= _) _ _ s
  refine wpAny_bind (tupleItemsOf_ ht ?_)
  refine wpAny_bind (wpAny_typeOf hTs ?_)
  rw [if_pos (by decide)]
  refine wpAny_bind (sliceApplied_rev hs pk ?_)
  have hno : ¬ (((((items.size : Nat) : Int) - 1) == 0 && (-1 : Int) == 1 && items.size == items.size) = true) := by
    intro q
    rw [Bool.and_eq_true, Bool.and_eq_true] at q
    exact absurd q.1.2 (by decide)
  show wpAny _ _ (if ((((items.size : Nat) : Int) - 1) == 0 && (-1 : Int) == 1 && items.size == items.size) = true then _ else _) _ _ s
  rw [if_neg hno, pick_rev]
  first
    | exact wpAny_bind (m := Builtin.Tuple.tupleExact _) (wpAny_newObj_type (wpAny_pure ⟨_, rfl, wpAny_pure h⟩) htake)
    | exact wpAny_bind (m := Builtin.Tuple.tupleExact _) (wpAny_newObj_type (wpAny_bind (wpAny_pure (wpAny_pure ⟨_, rfl, wpAny_pure h⟩))) htake)
    | exact wpAny_bind (wpAny_bind (m := Builtin.Tuple.tupleExact _) (wpAny_newObj_type (wpAny_pure (wpAny_pure ⟨_, rfl, wpAny_pure h⟩)) htake))
    | exact wpAny_bind (wpAny_bind (m := Builtin.Tuple.tupleExact _) (wpAny_newObj_type (wpAny_pure ⟨_, rfl, wpAny_pure h⟩) htake))
end
end HT
namespace L2
open PySem PySem.Spec PyProof.Rows
theorem vals_reverse {xs : List V} {its : List Value} (r : Vals xs its) : Vals xs.reverse its.reverse := by
  have key : ∀ {xs : List V} {its : List Value} {ys : List V} {us : List Value}, Vals xs its → Vals ys us → Vals (xs.reverse ++ ys) (its.reverse ++ us) := by
    intro xs its ys us r
    induction r generalizing ys us with
    | nil => intro q; exact q
    | cons p _ ih =>
      intro q
      simp only [List.reverse_cons, List.append_assoc, List.singleton_append]
      exact ih (.cons p q)
  have := key r (.nil)
  simpa using this
section
variable {X : Cx}
theorem op_in_seqK {K : PySem.W.Frag} (h : X.K = K) : OpR X (compareOp .In) (rIn K false) := by subst h; exact op_in_seq
theorem op_notIn_seqK {K : PySem.W.Frag} (h : X.K = K) : OpR X (compareOp .NotIn) (rIn K true) := by subst h; exact op_notIn_seq
theorem ix_listK {K : PySem.W.Frag} (h : X.K = K) : IxR X (rIxL K) := by subst h; exact ix_list
theorem call_tuple_ofK {K : PySem.W.Frag} (h : X.K = K) : CallR X (.type "tuple") (fun xs H Q => ∃ p ys, xs = [.ref p] ∧ ((SqL K H p ys ∧ ∀ l, H l = none → Q (.ref l) (upd H l (.tup ys))) ∨ (SqT K H p ys ∧ Q (.ref p) H))) := by subst h; exact call_tuple_of
/-- repr of data -/
theorem call_repr_data (hg : X.A.guards = some []) (hu : X.A.units + 64 < cLine) : CallR X (.builtin "repr") (fun xs H Q => ∃ p d, xs = [.ref p] ∧ Dp X.K H (.ref p) d ∧ d.showable = true ∧ d.depth ≤ 60 ∧ d.hasDict = false ∧ d.shown.length ≤ sizeLine ∧ Q (.str d.shown) H) := by
  intro pins s σ H xs us Q I r h
  obtain ⟨p, d, rfl, hd, hs, hdp, hn, hz, q⟩ := h
  obtain ⟨u, rfl, rx⟩ := vals1 r
  obtain ⟨as, rd⟩ := Dp.reads I d (.ref p) u hd rx
  cases rx
  exact PySem.repr_of_reads' (hsz := hz) rd hs (PyData.noDict_hsm hn) hg (by omega) (fun _ _ e => e) fun h' u tk hk => ⟨.str d.shown, H, I.kept hk, ⟨u, rfl⟩, q⟩
end
end L2
set_option Elab.async false
set_option maxRecDepth 100000
set_option linter.all false
namespace L2
open PySem PySem.Spec PyProof.Rows
section
variable {X : Cx} {o : Expr} {to : TE} {lo hi : Option Expr} {tl th : TO} {pos p2 : Pos}
/-- xs[lo:hi] = ys, another list -/
def gSl (to : TE) (tl th : TO) : TG := fun v σ H Q => to σ H fun x H1 => tl σ H1 fun l H2 => th σ H2 fun u H3 => ∃ (p b : Addr) (xs ys : List V) (a c : Nat), x = .ref p ∧ v = .ref b ∧ H3 p = some (.lst xs) ∧ H3 b = some (.lst ys) ∧ p ≠ b ∧
  u = some (c : Int) ∧ (l = none ∧ a = 0 ∨ l = some (a : Int)) ∧ a ≤ c ∧ c ≤ xs.length ∧ xs.length + ys.length ≤ sizeLine ∧ Q σ (upd H3 p (.lst (xs.take a ++ ys ++ xs.drop c)))
theorem pg_slice (ho : PE X o to) (hl : PO X lo tl) (hh : PO X hi th)
    (ha : ∀ v, assign (.Subscript o (.Slice lo hi none p2) pos) X.env v = (do
      let ov ← holding [v] (eval o X.env)
      let iv ← holding [v, ov] (eval (.Slice lo hi none p2) X.env)
      standAt pos
      holding [v, ov, iv] (setItem ov iv v)
      release [iv, v, ov] []) := by intro _; rfl) : PG X (.Subscript o (.Slice lo hi none p2) pos) (gSl to tl th) := by
  intro pins s σ H v u Q I r h
  rw [ha]
  refine wpAny_bind (wpAny_holding (thn (ho pins s σ H _ I h) fun ov s1 ⟨x, H1, I1, r1, q1⟩ => ?_))
  refine wpAny_bind (wpAny_holding (wpAny_Slice (thn (hl pins s1 σ H1 _ I1 q1) fun vl s2 ⟨l, H2, I2, pl, q2⟩ => thn (hh pins s2 σ H2 _ I2 q2) fun vu s3 ⟨uu, H3, I3, pu, q3⟩ => ?_)))
  rw [evalPart_none]
  refine wpAny_pure ?_
  have I4 : Inv X pins σ H3 { s3 with heap := s3.heap.push { cls := .type "slice", data := .fields #[vl, vu, .none] } } := I3.kept (t' := s3.toks) fun b ob q => Heap.get?_push_of_some _ q
  have hs : ({ s3 with heap := s3.heap.push { cls := .type "slice", data := .fields #[vl, vu, .none] } } : Shared).heap.IsSliceOf s3.heap.objs.size vl vu .none := Heap.IsSliceOf.new ..
  obtain ⟨p, b, xs, ys, a, c, rfl, rfl, hH, hB, hne, rfl, hl', hac, hc, hz, q⟩ := q3
  cases r1
  cases r
  obtain ⟨z, its, n, rr, hll, e⟩ := I4.lstM hH
  obtain ⟨z2, its2, n2, r2, hl2, e2⟩ := I4.lstM hB
  refine wpAny_bind (wpAny_standAt (wpAny_bind (wpAny_holding ?_)))
  have fin : ∀ s', s' = { ({ s3 with heap := s3.heap.push { cls := .type "slice", data := .fields #[vl, vu, .none] } } : Shared) with heap := ({ s3 with heap := s3.heap.push { cls := .type "slice", data := .fields #[vl, vu, .none] } } : Shared).heap.update p (Obj.mapSeq fun xs => xs.extract 0 a ++ its2.toArray ++ xs.extract c xs.size) } →
      wpAny (model X.prog X.w) X.A (release [Value.ref s3.heap.objs.size, Value.ref b, Value.ref p] []) (fun _ s' => ∃ σ' H', Inv X pins σ' H' s' ∧ Q σ' H') X.xe s' := by
    rintro s' rfl
    refine wpAny_release ⟨σ, _, I4.lset (its' := its.take a ++ its2 ++ its.drop c) (t' := s3.toks) hH e ?_ (Vals.append (Vals.append (rr.take _) r2) (rr.drop _)) ?_, q⟩
    · exact splice_eq its its2 a c
    · rw [List.length_append, List.length_append, List.length_take, List.length_drop]
      omega
  rcases hl' with ⟨rfl, rfl⟩ | rfl
  · refine setItem_slice0 (c := c) e e2 hne hs pl pu (by rw [List.size_toArray]; omega) (by rw [List.size_toArray, List.size_toArray]; omega) ?_
    exact fin _ rfl
  · refine setItem_slice (a := a) (c := c) e e2 hne hs pl pu hac (by rw [List.size_toArray]; omega) (by rw [List.size_toArray, List.size_toArray]; omega) ?_
    exact fin _ rfl
end
end L2
namespace L2
open PySem PySem.Spec PyProof.Rows
section
variable {X : Cx} {tg l : Expr} {tl : TE} {K : PySem.W.Frag}
end
end L2
set_option Elab.async false
set_option maxRecDepth 100000
set_option linter.all false
namespace L2
open PySem PySem.Spec PyProof.Rows
section
variable {X : Cx}
end
end L2
namespace L2
open PySem PySem.Spec PyProof.Rows
section
variable {X : Cx}
/-- t + u of tuples, whatever they are -/
def rCatS (K : PySem.W.Frag) : R2 := fun x y H Q => ∃ a b xs ys, x = .ref a ∧ y = .ref b ∧ SqT K H a xs ∧ SqT K H b ys ∧ xs.length + ys.length ≤ sizeLine ∧ ∀ r H', Same H H' → SqT K H' r (xs ++ ys) → Q (.ref r) H'
theorem sameNew {H : Hp} {p : Addr} (h : H p = none) (o : HO) : Same H (upd H p o) := fun b u q => by rw [upd_ne (ne_of_none q h)]; exact q
theorem op_catS : OpR X (binaryOp .Add) (rCatS X.K) := by
  intro pins s σ H x y v u Q I rx ry h
  obtain ⟨a, b, xs, ys, rfl, rfl, ha, hb, hz, q⟩ := h
  by_cases hx : xs = []
  · subst hx
    cases rx
    cases ry
    obtain ⟨its, r1, p1, _⟩ := I.tuple ha
    obtain ⟨its2, r2, p2, _⟩ := I.tuple hb
    have hv : its = [] := r1.nil_iff.mpr rfl
    obtain ⟨⟨cls, dd, data, sl⟩, ho, hc, n, hd⟩ := id p1
    obtain ⟨⟨cls2, dd2, data2, sl2⟩, ho2, hc2, n2, hd2⟩ := id p2
    simp only at hc hd hc2 hd2
    subst hc hd hc2 hd2
    exact concat_meets ⟨_, ho, rfl⟩ ⟨_, ho2, rfl⟩ noFill_tuple_add seq_tuple_add PySem.F.slot_tuple_add PySem.F.entry_tuple_add (PySem.F.args_tuple_add_2 _ _)
      (tuple_addW0 a b its.toArray its2.toArray n n2 dd dd2 sl sl2 (by simp [hv])) ⟨ho, ho2, .ref b, H, I, rfl, q b H (Same.refl H) hb⟩
  · refine op_catT pins s σ H _ _ v u Q I rx ry ⟨a, b, xs, ys, rfl, rfl, ha, hb, hx, hz, fun hy => q a H (Same.refl H) (by rw [hy, List.append_nil]; exact ha), fun hy p hp => q p _ (sameNew hp _) (SqT.of upd_same)⟩
/-- t[lo:hi], the whole of it too -/
def rSlTS (K : PySem.W.Frag) : V → Option Int → Option Int → Hp → VK → Prop := fun x lo hi H Q => ∃ a xs, x = .ref a ∧ SqT K H a xs ∧ ∀ r H', Same H H' → SqT K H' r (cutV xs lo hi) → Q (.ref r) H'
end
end L2
namespace HT
open PySem PyProof.Rows
section
variable {prog : Program} {w : World} {A : Around} {E : Value → Shared → Prop} {s : Shared}
theorem getItem_tuple_all {t sl : Addr} {items : Array Value} {vl vu : Value} {lo hi : Option Int} {Q : Value → Shared → Prop} (ht : IsTup s.heap t items) (hs : s.heap.IsSliceOf sl vl vu .none) (pl : IsPart vl lo) (pu : IsPart vu hi)
    (hw : sIx items.size 0 lo = 0 ∧ sIx items.size items.size hi = items.size) (h : Q (.ref t) s) : wpAny (model prog w) A (getItem (.ref t) (.ref sl)) Q E s := by
  obtain ⟨os, hos, hcs, hds⟩ := id hs
  have hTs : s.TypeIs (.ref sl) "slice" := ⟨os, hos, hcs⟩
  unfold getItem
  try with_reducible refine wpAny_holding ?_
  first | refine wpAny_bind (wpAny_pure ?_) | skip
  refine wpAny_bind (wpAny_sequenceKey ht.typeIs (by decide) ?_)
  refine wpAny_bind (wpAny_callSpecial?_slot (name := Str.ofString "__getitem__") ht.typeIs PyProof.Rows.slot_tuple_getitem
    (wpAny_call_entry PyProof.Rows.slot_tuple_getitem ht.typeIs entry_tuple_getitem ?_ (args_tuple_getitem _ _)))
  show wpAny _ _ (Builtin.Tuple.tupleItemsOf (.ref t) >>= _) _ _ s
  refine wpAny_bind (tupleItemsOf_ ht ?_)
  refine wpAny_bind (wpAny_typeOf hTs ?_)
  rw [if_pos (by decide)]
  refine wpAny_bind (sliceApplied_gen hs pl pu ?_)
  have hyes : (((sIx items.size 0 lo : Nat) : Int) == 0 && (1 : Int) == 1 && (sIx items.size items.size hi - sIx items.size 0 lo) == items.size) = true := by
    rw [hw.1, hw.2]
    simp
  show wpAny _ _ (if (((sIx items.size 0 lo : Nat) : Int) == 0 && (1 : Int) == 1 && (sIx items.size items.size hi - sIx items.size 0 lo) == items.size) = true then _ else _) _ _ s
  rw [if_pos hyes]
  unfold Builtin.Tuple.tupleIsExact
  refine wpAny_bind (wpAny_bind (wpAny_typeOf ht.typeIs (wpAny_pure ?_)))
  rw [if_pos (by decide)]
  refine wpAny_bind (wpAny_rule ?_)
  exact wpAny_pure ⟨_, rfl, wpAny_pure h⟩
end
end HT
namespace L2
open PySem PySem.Spec PyProof.Rows
section
variable {X : Cx} {K : PySem.W.Frag}
theorem cutV_all (xs : List V) (lo hi : Option Int) (h : HT.sIx xs.length 0 lo = 0 ∧ HT.sIx xs.length xs.length hi = xs.length) : cutV xs lo hi = xs := by
  unfold cutV
  rw [h.1, h.2, List.drop_zero, Nat.sub_zero, List.take_length]
theorem sl_tupS : SlR X (rSlTS X.K) := by
  intro pins s σ H x v vl vu lo hi sl Q I rx hs pl pu h
  obtain ⟨a, xs, rfl, hx, q⟩ := h
  by_cases hw : HT.sIx xs.length 0 lo = 0 ∧ HT.sIx xs.length xs.length hi = xs.length
  · cases rx
    obtain ⟨its, r, ht, hz⟩ := I.tuple hx
    have hlen : its.toArray.size = xs.length := by rw [List.size_toArray]; exact r.length.symm
    refine ⟨"tuple", _, PyProof.Rows.slot_tuple_getitem.lookup, ht.typeIs, ?_⟩
    exact HT.getItem_tuple_all ht hs pl pu (by rw [hlen]; exact hw) ⟨.ref a, H, I, rfl, q a H (Same.refl H) (by rw [cutV_all xs lo hi hw]; exact hx)⟩
  · exact sl_tup pins s σ H _ v vl vu lo hi sl Q I rx hs pl pu ⟨a, xs, rfl, hx, hw, fun p hp => q p _ (sameNew hp _) (SqT.of upd_same)⟩
end
end L2
set_option Elab.async false
set_option maxRecDepth 100000
set_option linter.all false
namespace PySem
open Sem (wp)
open Builtin
open PyProof.Rows
theorem noFill_tuple_mul : fillsNumberSlot (.type "tuple") "mul" = pure false :=
  fillsNumberSlot_seq (id := "tuple.__mul__") (r := some (.builtin "tuple.__rmul__")) F.slot_tuple_mul.lookup (by decide +kernel) (by rw [typeLookup_type, builtinLookup_eq_fast]; kernel_rfl) (by decide +kernel)
theorem repeat_tuple : seqRepeat? (.type "tuple") = pure (some (.builtin "tuple.__mul__")) := by
  unfold seqRepeat?
  rw [seqSlot_of (T := "tuple") (name := "__mul__") (id := "tuple.__mul__") F.slot_tuple_mul.lookup (by decide +kernel), seqSlot_of (T := "tuple") (name := "__rmul__") (id := "tuple.__rmul__") (by rw [typeLookup_type, builtinLookup_eq_fast]; kernel_rfl) (by decide +kernel)]
  rfl
theorem int___rmul___int_tuple (a : Int) (t : Tok) (l : Addr) (items : Array Value) (n : Nat) (dd : Option Addr) (sl : Array (Option Value)) :
    Meets (Builtin.«int.__rmul__» ⟨[.int a t, .ref l], []⟩) (fun _ R s => s.heap.get? l = some { cls := .type "tuple", dict := dd, data := .seq items n, slots := sl } ∧ R (.ok (.ret Value.notImplemented)) s) :=
  .of_wp fun prog w A R s h => by obtain ⟨hp, g, d, tk, os⟩ := s; obtain ⟨hl, h⟩ := h; wp_walk; exact ⟨_, rfl, h⟩
theorem tuple_mul_same (l : Addr) (items : Array Value) (n : Nat) (dd : Option Addr) (sl : Array (Option Value)) (k : Int) (t : Tok) (h1 : ¬ (decide (k < -(2 ^ 63)) || decide (k ≥ 2 ^ 63)) = true) (h2 : (items.isEmpty || k == 1) = true) :
    Meets (Builtin.«tuple.__mul__» ⟨[.ref l, .int k t], []⟩) (fun _ R s => s.heap.get? l = some { cls := .type "tuple", dict := dd, data := .seq items n, slots := sl } ∧ R (.ok (.ret (Value.ref l))) s) :=
  .of_wp fun prog w A R s h => by
    obtain ⟨hp, g, d, tk, os⟩ := s
    obtain ⟨hl, h⟩ := h
    have f1 := AutoSeq1.idx_int
    have f2 := AutoSeq1.sub_tuple_tuple
    have ht : IsTup hp l items := ⟨_, hl, rfl, n, rfl⟩
    wp_walk
    rw [if_neg h1]
    refine wpAny_bind (tupleItemsOf_ ht ?_)
    show wpAny _ _ (if (items.isEmpty || k == 1) = true then _ else _) _ _ _
    rw [if_pos h2]
    unfold Builtin.Tuple.tupleIsExact
    refine wpAny_bind (wpAny_bind (wpAny_typeOf ht.typeIs (wpAny_pure ?_)))
    rw [if_pos (by decide)]
    refine wpAny_bind (wpAny_rule ?_)
    exact wpAny_pure ⟨_, rfl, h⟩
theorem tuple_mul_new (l : Addr) (items : Array Value) (n : Nat) (dd : Option Addr) (sl : Array (Option Value)) (k : Int) (t : Tok) (h1 : ¬ (decide (k < -(2 ^ 63)) || decide (k ≥ 2 ^ 63)) = true) (h2 : ¬ (items.isEmpty || k == 1) = true)
    (h3 : ¬ (decide (k ≤ 0) || items.isEmpty) = true) (h4 : ¬ ((items.size : Int) * k > (2 ^ 63 - 1) / 8)) (h5 : ¬ Builtin.Tuple.tupleTooMany ((items.size : Int) * k) = true) (h6 : (List.foldl (fun x1 x2 => x1 ++ x2) #[] (List.replicate k.toNat items)).size ≤ sizeLine) :
    Meets (Builtin.«tuple.__mul__» ⟨[.ref l, .int k t], []⟩) (fun _ R s => s.heap.get? l = some { cls := .type "tuple", dict := dd, data := .seq items n, slots := sl } ∧
      R (.ok (.ret (Value.ref s.heap.objs.size))) { s with heap := s.heap.push { cls := Value.type "tuple", data := Data.seq (List.foldl (fun x1 x2 => x1 ++ x2) #[] (List.replicate k.toNat items)) } }) :=
  .of_wp fun prog w A R s h => by
    obtain ⟨hp, g, d, tk, os⟩ := s
    obtain ⟨hl, h⟩ := h
    have f1 := AutoSeq1.idx_int
    have f2 := AutoSeq1.sub_tuple_tuple
    have ht : IsTup hp l items := ⟨_, hl, rfl, n, rfl⟩
    wp_walk
    rw [if_neg h1]
    refine wpAny_bind (tupleItemsOf_ ht ?_)
    show wpAny _ _ (if (items.isEmpty || k == 1) = true then _ else _) _ _ _
    rw [if_neg h2]
    show wpAny _ _ (if (decide (k ≤ 0) || items.isEmpty) = true then _ else _) _ _ _
    rw [if_neg h3]
    show wpAny _ _ (if (items.size : Int) * k > (2 ^ 63 - 1) / 8 then _ else _) _ _ _
    rw [if_neg h4]
    show wpAny _ _ (if Builtin.Tuple.tupleTooMany ((items.size : Int) * k) = true then _ else _) _ _ _
    rw [if_neg h5]
    exact wpAny_bind (m := Builtin.Tuple.tupleExact _) (wpAny_newObj_type (wpAny_pure ⟨_, rfl, h⟩) h6)
end PySem
namespace L2
open PySem PySem.Spec PyProof.Rows
section
variable {X : Cx} {K : PySem.W.Frag}
/-- t * k, t empty or k above nought -/
def rRepT (K : PySem.W.Frag) : R2 := fun x y H Q => ∃ a k xs, x = .ref a ∧ y = .int k ∧ SqT K H a xs ∧ 0 ≤ k ∧ k ≤ 1000 ∧ (xs = [] ∨ 1 ≤ k) ∧ xs.length ≤ 1000 ∧ ∀ r H', Same H H' → SqT K H' r (List.replicate k.toNat xs).flatten → Q (.ref r) H'
theorem op_repT : OpR X (binaryOp .Mult) (rRepT X.K) := by
  intro pins s σ H x y v u Q I rx ry h
  obtain ⟨a, k, xs, rfl, rfl, hS, k0, k1, hk, hl, q⟩ := h
  cases rx
  obtain ⟨t, rfl⟩ := ry
  obtain ⟨its, r, p, hz⟩ := I.tuple hS
  have hlen := r.length
  obtain ⟨⟨cls, dd, data, sl⟩, ho, hc, n, hd⟩ := id p
  simp only at hc hd
  subst hc hd
  have hfit : ¬ (decide (k < -(2 ^ 63)) || decide (k ≥ 2 ^ 63)) = true := by
    have e1 : ¬ k < -(2 ^ 63) := by omega
    have e2 : ¬ k ≥ 2 ^ 63 := by omega
    simp only [decide_eq_false e1, decide_eq_false e2]
    decide
  have hmul : xs.length * k.toNat ≤ 1000000 := Nat.le_trans (Nat.mul_le_mul hl (show k.toNat ≤ 1000 by omega)) (by decide)
  refine wpAny_binaryOp_repeat_ref (T := "tuple") (U := "int") (by decide) ⟨_, ho, rfl⟩ (fun s' => typeIs_int s' k t) noFill_tuple_mul F.fills_int_mul F.slot_int_rmul repeat_tuple F.slot_int_index.lookup
    (call_meets F.slot_int_rmul (typeIs_int s k t) F.entry_int_rmul (F.args_int_rmul_2 _ _) (int___rmul___int_tuple k t a its.toArray n dd sl)
      ⟨ho, rfl, ⟨_, ho, rfl⟩, ?_⟩)
  by_cases hs : (its.toArray.isEmpty || k == 1) = true
  · refine call_meets F.slot_tuple_mul ⟨_, ho, rfl⟩ F.entry_tuple_mul (F.args_tuple_mul_2 _ _) (tuple_mul_same a its.toArray n dd sl k t hfit hs) ⟨ho, .ref a, H, I, rfl, q a H (Same.refl H) ?_⟩
    have e : (List.replicate k.toNat xs).flatten = xs := by
      rw [Bool.or_eq_true] at hs
      rcases hs with hs | hs
      · have : its = [] := by simpa using hs
        have hx : xs = [] := r.nil_iff.mp this
        rw [hx]
        simp
      · have : k = 1 := eq_of_beq hs
        rw [this]
        simp
    rw [e]
    exact hS
  · have hne : ¬ its.toArray.isEmpty = true := fun z => hs (by rw [z]; rfl)
    have hxs : xs ≠ [] := fun z => hne (by rw [r.nil_iff.mpr z]; rfl)
    have k1' : 1 ≤ k := hk.resolve_left hxs
    have hf : List.foldl (fun x1 x2 => x1 ++ x2) #[] (List.replicate k.toNat its.toArray) = (List.replicate k.toNat its).flatten.toArray := by
      have := foldl_rep its k.toNat []
      rw [List.nil_append] at this
      exact this
    have hsz : ((List.replicate k.toNat its).flatten.toArray).size ≤ 1000000 := by
      rw [List.size_toArray, len_rep, ← hlen, Nat.mul_comm]
      exact hmul
    have hm : ((its.toArray.size : Int) * k) ≤ 1000000 := by
      have : ((its.toArray.size : Int) * k) = ((xs.length * k.toNat : Nat) : Int) := by
        rw [List.size_toArray, ← hlen, Int.natCast_mul, Int.toNat_of_nonneg k0]
      omega
    refine call_meets F.slot_tuple_mul ⟨_, ho, rfl⟩ F.entry_tuple_mul (F.args_tuple_mul_2 _ _) (tuple_mul_new a its.toArray n dd sl k t hfit hs ?_ ?_ ?_ ?_) ⟨ho, ?_⟩
    · intro z
      rw [Bool.or_eq_true] at z
      rcases z with z | z
      · have := of_decide_eq_true z; omega
      · exact hne z
    · intro z
      have : (1000000 : Int) ≤ (2 ^ 63 - 1) / 8 := by decide
      omega
    · unfold Builtin.Tuple.tupleTooMany
      intro z
      have z' := of_decide_eq_true z
      have : (1000000 : Int) ≤ (sizeLine : Int) := by decide
      omega
    · rw [hf]
      exact Nat.le_trans hsz (by decide)
    · rw [hf]
      have hfr := I.hok.fresh (Nat.le_refl s.heap.objs.size)
      refine ⟨.ref s.heap.objs.size, _, I.laid (t' := s.toks) (o := .tup (List.replicate k.toNat xs).flatten) (fun b ob q => Heap.get?_push_of_some _ q) (Nat.le_refl _) ?_, rfl, q _ _ (sameNew hfr _) (SqT.of upd_same)⟩
      exact ⟨by rw [len_rep, Nat.mul_comm]; exact Nat.le_trans hmul (by decide), _, r.rep k.toNat, IsTup.new _ _⟩
end
end L2
namespace L2
open PySem PySem.Spec PyProof.Rows
section
variable {X : Cx} {K : PySem.W.Frag}
end
end L2
set_option Elab.async false
set_option maxRecDepth 100000
set_option linter.all false
namespace PySem
open Sem (wp)
open PyProof.Rows
section
variable {prog : Program} {w : World} {A : Around} {E : Value → Shared → Prop} {s : Shared}
end
end PySem
namespace L2
open PySem PySem.Spec PyProof.Rows
section
variable {X : Cx} {K : PySem.W.Frag} {pos : Pos}
def kD : Key → PyData
  | .inl i => .int i
  | .inr x => .str x
mutual
inductive Dq (K : PySem.W.Frag) (H : Hp) : V → PyData → Prop
  | non : Dq K H .non .none
  | bl (b : Bool) : Dq K H (.bl b) (.bool b)
  | int (i : Int) : Dq K H (.int i) (.int i)
  | str (x : Str) : Dq K H (.str x) (.str x)
  | lst {a : Addr} {xs : List V} {ds : List PyData} : a ≠ sysModules → SqL K H a xs → DqAll K H xs ds → Dq K H (.ref a) (.list ds)
  | tup {a : Addr} {xs : List V} {ds : List PyData} : SqT K H a xs → DqAll K H xs ds → Dq K H (.ref a) (.tuple ds)
  | dict {a : Addr} {kvs : List (Key × V)} {ds : List (PyData × PyData)} : H a = some (.dK kvs) → DqAll K H (kvs.map (·.2)) (ds.map (·.2)) → ds.map (·.1) = kvs.map (fun kv => kD kv.1) → Dq K H (.ref a) (.dict ds)
inductive DqAll (K : PySem.W.Frag) (H : Hp) : List V → List PyData → Prop
  | nil : DqAll K H [] []
  | cons {v : V} {vs : List V} {d : PyData} {ds : List PyData} : Dq K H v d → DqAll K H vs ds → DqAll K H (v :: vs) (d :: ds)
end
theorem pairs_keys {P : Program} {w : World} {h : Heap} : ∀ {es : List DictEntry} {vs : List (Key × Value)}, Pairs (mixKind P w) es vs → ReadsAll h (es.map (·.key)) (vs.map fun q => kD q.1) []
  | _, _, .nil => .nil
  | _, _, .cons (e := e) (kv := kv) h1 h2 r => by
    have q := pairs_keys (h := h) r
    rcases keyIs_shape h1 with ⟨i, t, e1, e2⟩ | ⟨x, t, e1, e2⟩
    · simp only [List.map_cons, e1, e2, kD]
      exact ReadsAll.cons (as := []) (Reads.int i t) q
    · simp only [List.map_cons, e1, e2, kD]
      exact ReadsAll.cons (as := []) (Reads.str x t) q
theorem pairs_vals {P : Program} {w : World} : ∀ {es : List DictEntry} {vs : List (Key × Value)}, Pairs (mixKind P w) es vs → es.map (·.val) = vs.map (·.2)
  | _, _, .nil => rfl
  | _, _, .cons h1 h2 r => by simp [h2, pairs_vals r]
theorem kv_keys : ∀ {kvs : List (Key × V)} {vs : List (Key × Value)}, KV kvs vs → kvs.map (fun q => kD q.1) = vs.map (fun q => kD q.1)
  | _, _, .nil => rfl
  | _, _, .cons h1 r => by simp [h1.1, kv_keys r]
theorem kv_vals : ∀ {kvs : List (Key × V)} {vs : List (Key × Value)}, KV kvs vs → Vals (kvs.map (·.2)) (vs.map (·.2))
  | _, _, .nil => .nil
  | _, _, .cons h1 r => .cons h1.2 (kv_vals r)
section
variable {pins : List (Addr × Obj)} {σ : St} {H : Hp} {s : Shared}
mutual
theorem Dq.reads (I : Inv X pins σ H s) : ∀ (d : PyData) (v : V) (u : Value), Dq X.K H v d → RelV v u → ∃ as, Reads s.heap u d as ∧ sysModules ∉ as
  | .none, _, _, h, r => by
    cases h
    cases r
    exact ⟨_, Reads.none, by simp⟩
  | .bool b, _, _, h, r => by
    cases h
    cases r
    exact ⟨_, Reads.bool b, by simp⟩
  | .int i, _, _, h, r => by
    cases h
    obtain ⟨t, rfl⟩ := r
    exact ⟨_, Reads.int i t, by simp⟩
  | .str x, _, _, h, r => by
    cases h
    obtain ⟨t, rfl⟩ := r
    exact ⟨_, Reads.str x t, by simp⟩
  | .list ds, _, _, h, r => by
    cases h with
    | lst hn hs ha =>
      cases r
      obtain ⟨its, rv, ⟨o, n, ho, hc, _, hd⟩, _⟩ := I.list hs
      obtain ⟨as, hr, hm⟩ := Dq.readsAll I ds _ its ha rv
      exact ⟨_, Reads.list ho hc hd hr, fun q => by
        rcases List.mem_cons.mp q with q | q
        · exact hn q.symm
        · exact hm q⟩
  | .tuple ds, _, _, h, r => by
    cases h with
    | tup hs ha =>
      cases r
      obtain ⟨its, rv, ⟨o, ho, hc, n, hd⟩, _⟩ := I.tuple hs
      obtain ⟨as, hr, hm⟩ := Dq.readsAll I ds _ its ha rv
      exact ⟨_, Reads.tuple ho hc hd hr, hm⟩
  | .dict ds, _, _, h, r => by
    cases h with
    | dict hs ha hk =>
      cases r
      obtain ⟨_, hd, vs, rel, o, es, ep, ho, hc, hdat, _, hp, _⟩ := dk_of I.hok hs
      obtain ⟨as, hr, hm⟩ := Dq.readsSnd I ds _ _ ha (kv_vals rel)
      have q1 := pairs_keys (h := s.heap) hp
      rw [← kv_keys rel, ← hk] at q1
      refine ⟨_, Reads.dict ho hc.1 hdat q1 (by rw [pairs_vals hp]; exact hr), fun q => ?_⟩
      rcases List.mem_append.mp q with q | q
      · rcases List.mem_cons.mp q with q | q
        · exact absurd q.symm (fun e => by rw [e] at hd; simp at hd)
        · cases q
      · exact hm q
theorem Dq.readsAll (I : Inv X pins σ H s) : ∀ (ds : List PyData) (vs : List V) (us : List Value), DqAll X.K H vs ds → Vals vs us → ∃ as, ReadsAll s.heap us ds as ∧ sysModules ∉ as
  | [], _, _, h, r => by
    cases h
    cases r
    exact ⟨_, ReadsAll.nil, by simp⟩
  | d :: ds, _, _, h, r => by
    cases h with
    | cons h1 h2 =>
      cases r with
      | cons r1 r2 =>
        obtain ⟨as, q1, m1⟩ := Dq.reads I d _ _ h1 r1
        obtain ⟨bs, q2, m2⟩ := Dq.readsAll I ds _ _ h2 r2
        exact ⟨_, ReadsAll.cons q1 q2, fun q => (List.mem_append.mp q).elim m1 m2⟩
theorem Dq.readsSnd (I : Inv X pins σ H s) : ∀ (ds : List (PyData × PyData)) (vs : List V) (us : List Value), DqAll X.K H vs (ds.map (·.2)) → Vals vs us → ∃ as, ReadsAll s.heap us (ds.map (·.2)) as ∧ sysModules ∉ as
  | [], _, _, h, r => by
    cases h
    cases r
    exact ⟨_, ReadsAll.nil, by simp⟩
  | (k, d) :: ds, _, _, h, r => by
    cases h with
    | cons h1 h2 =>
      cases r with
      | cons r1 r2 =>
        obtain ⟨as, q1, m1⟩ := Dq.reads I d _ _ h1 r1
        obtain ⟨bs, q2, m2⟩ := Dq.readsSnd I ds _ _ h2 r2
        exact ⟨_, ReadsAll.cons q1 q2, fun q => (List.mem_append.mp q).elim m1 m2⟩
end
end
end
end L2
set_option Elab.async false
set_option maxRecDepth 100000
set_option linter.all false
namespace PySem.W
open PySem PySem.Calls PySem.NumText PyProof.Rows
namespace KIN
end KIN
end PySem.W
set_option Elab.async false
set_option maxRecDepth 100000
set_option linter.all false
namespace PySem.W
open PySem PySem.Calls PySem.NumText PyProof.Rows
namespace KIN
end KIN
end PySem.W
set_option Elab.async false
set_option maxRecDepth 100000
set_option linter.all false
namespace L2
open PySem PySem.Spec PyProof.Rows PySem.NumText
/-- 2 to the 13500 -/
def BIG : Nat := 2 ^ 13500
theorem big_log {i : Int} (h : i.natAbs < BIG) : i.natAbs.log2 < 13500 := by
  by_cases e : i.natAbs = 0
  · rw [e]; decide
  · exact (Nat.log2_lt e).mpr h
theorem big_bits {i : Int} (h : i.natAbs < BIG) : Builtin.Int.intBits i ≤ 13500 := by
  unfold Builtin.Int.intBits
  have := big_log h
  split <;> omega
section
variable {X : Cx} {K : PySem.W.Frag}
def CMulB (i j : Int) : Prop := i.natAbs < BIG ∧ j.natAbs < BIG
theorem CMulB.ok {i j : Int} (h : CMulB i j) : IntMulOk i j := by
  have h1 := big_bits h.1
  have h2 := big_bits h.2
  unfold IntMulOk
  intro z
  rw [Bool.and_eq_true] at z
  have z2 := of_decide_eq_true z.2
  have e : (bitsLine : Int) = 134217728 := by decide
  omega
end
section
variable {X : Cx} {P : Program} {w : World} {K : PySem.W.Frag} {mg : Str → Option Value} {base : Heap}
/-- a def of the module that is called with keywords -/
structure FnK (P : Program) (w : World) (K : PySem.W.Frag) (mg : Str → Option Value) (base : Heap) (k : Nat) (x : Str) (ps : List Str) (sp : Sp) (ks : List Str) (gV : List V → List V → List V) : Prop where
  ex : ∃ f fd g, FnOk P w K mg base CX0 k f fd ps sp ∧ mg x = some (.ref f) ∧ PySem.W.keepIn K (.ref f) = true ∧ KBinds K fd ps ks g gV
theorem pe_kfn {x : Str} {ps ks : List Str} {sp : Sp} {gV : List V → List V → List V} {j k : Nat} {e : Expr} {es : List Expr} {kws : List Keyword} {t tk : TA} {p pos : Pos} (F : FnK X.prog X.w X.K X.mg X.base j x ps sp ks gV) (hr : Room k X.A) (hg : Gl X x) (ha : PA X (e :: es) t) (hkw : PK X kws tk)
    (hall : (backToKw pos (keywordEach kws X.env)).all (·.1.isSome) = true := by rfl) (hks : (backToKw pos (keywordEach kws X.env)).filterMap (·.1) = ks := by rfl) (hjk : j ≤ k := by first | decide | omega)
    (hdb : (x == ("__debug__" : Str)) = false := by decide) (he : starEach (e :: es) X.env = (false, eval e X.env) :: starEach es X.env := by rfl)
    (hpl : ((backTo pos (starEach (e :: es) X.env)).any (·.1) || (backToKw pos (keywordEach kws X.env)).any (·.1.isNone)) = false := by rfl) :
    PE X (.Call (.Name x p) (e :: es) kws pos) (tCallK sp gV E0 t tk) := by
  obtain ⟨f, fd, g, a, b, c, d⟩ := F.ex
  exact pe_callK (a.mono hjk) hr hg b c d pass0 ha hkw hall hks hdb he hpl
theorem Fun.kbinds {x qual : Str} {st : Stmt} {f : Addr} {fd : FuncData} {ps ks : List Str} {g : List Value → List Value → List Value} {gV : List V → List V → List V} (F : Fun K x qual st f fd)
    (h : ∀ (kV doc pm : Value) (an : Option Addr) (cdv ct : Value) (us ws : List Value), (g us ws).length = ps.length → bindArgs (PySem.W.fnOf x qual (defArgs st) (defBody st) (defScope st) .none kV doc pm an cdv ct) ⟨us, ks.zip ws⟩ = pure (ps.zip (g us ws)))
    (hrel : ∀ {vs : List V} {us : List Value} {zs : List V} {ws : List Value}, Vals vs us → Vals zs ws → Vals (gV vs zs) (g us ws)) : KBinds K fd ps ks g gV := by
  obtain ⟨oc, od, kV, doc, pm, an, cdv, ct, osl, rfl, lk, hcd⟩ := F.ex
  exact ⟨fun s us ws _ hl => .of_eq (h kV doc pm an cdv ct us ws hl), hrel⟩
/-- one by place, one by name -/
def g11 {α : Type} : List α → List α → List α
  | [a], [b] => [a, b]
  | _, _ => []
theorem g11_rel : ∀ {vs : List V} {us : List Value} {zs : List V} {ws : List Value}, Vals vs us → Vals zs ws → Vals (g11 vs zs) (g11 us ws)
  | _, _, _, _, .nil, .nil => .nil
  | _, _, _, _, .nil, .cons _ .nil => .nil
  | _, _, _, _, .nil, .cons _ (.cons _ _) => .nil
  | _, _, _, _, .cons _ .nil, .nil => .nil
  | _, _, _, _, .cons a .nil, .cons b .nil => .cons a (.cons b .nil)
  | _, _, _, _, .cons _ .nil, .cons _ (.cons _ _) => .nil
  | _, _, _, _, .cons _ (.cons _ _), .nil => .nil
  | _, _, _, _, .cons _ (.cons _ _), .cons _ .nil => .nil
  | _, _, _, _, .cons _ (.cons _ _), .cons _ (.cons _ _) => .nil
end
end L2
set_option Elab.async false
set_option maxRecDepth 100000
set_option linter.all false
namespace PySem
open Sem (wp)
open PyProof.Rows
section
variable {prog : Program} {w : World} {A : Around} {E : Value → Shared → Prop} {s : Shared}
/-- the items so far: new pairs -/
structure PairsAt (h : Heap) (acc : Array Value) (n0 i : Nat) (xs ys : Array Value) : Prop where
  ex : ∃ Ts : List Addr, acc = (Ts.map Value.ref).toArray ∧ Ts.length = i ∧ Ts.Nodup ∧ ∀ (j : Nat) (T : Addr), Ts[j]? = some T → n0 ≤ T ∧ ∃ x y, xs[j]? = some x ∧ ys[j]? = some y ∧ IsPair h T x y
theorem PairsAt.sz {h : Heap} {acc : Array Value} {n0 i : Nat} {xs ys : Array Value} (p : PairsAt h acc n0 i xs ys) : acc.size = i := by
  obtain ⟨Ts, rfl, hl, _⟩ := p
  simp [hl]
end
end PySem
set_option Elab.async false
set_option maxRecDepth 100000
set_option linter.all false
namespace PySem
open Sem (wp)
open PyProof.Rows
namespace F
end F
section
variable {prog : Program} {w : World} {A : Around} {E : Value → Shared → Prop} {s : Shared}
end
end PySem
namespace L2
open PySem PySem.Spec PyProof.Rows
end L2
set_option Elab.async false
set_option maxRecDepth 100000
set_option linter.all false
namespace L2
open PySem PySem.Spec PyProof.Rows
section
variable {X : Cx}
theorem nodup_ixA {Ts : List Addr} (nd : Ts.Nodup) {i j : Nat} {x : Addr} (a : Ts[i]? = some x) (b : Ts[j]? = some x) : i = j := by
  obtain ⟨h1, e1⟩ := List.getElem?_eq_some_iff.mp a
  obtain ⟨h2, e2⟩ := List.getElem?_eq_some_iff.mp b
  exact (List.getElem_inj nd).mp (e1.trans e2.symm)
/-- *e in a display or a call: e a list or a tuple -/
def tStar (K : PySem.W.Frag) (te : TE) (t : TA) : TA := fun σ H Q => te σ H fun x H1 => ∃ a xs, x = .ref a ∧ (SqL K H1 a xs ∨ SqT K H1 a xs) ∧ t σ H1 fun ys H2 => Q (xs ++ ys) H2
theorem pa_star {e : Expr} {te : TE} {es : List Expr} {t : TA} {sp : Pos} (ha : PE X e te) (hr : PA X es t) : PA X (.Starred e sp :: es) (tStar X.K te t) := by
  intro pos pins s σ H Q I h
  show wpAny _ _ (spliced ((true, do let v ← eval e X.env; standAt pos; pure v) :: backTo pos (starEach es X.env))) _ _ s
  show wpAny _ _ ((do let v ← eval e X.env; standAt pos; pure v) >>= _) _ _ s
  refine wpAny_bind (wpAny_bind (thn (ha pins s σ H _ I h) fun u s1 ⟨x, H1, I1, r1, a, xs, ex, hx, q1⟩ => ?_))
  subst ex
  cases r1
  refine wpAny_bind (wpAny_standAt (wpAny_pure ?_))
  have fin : ∀ (its : List Value) (h' : Heap), Vals xs its → Inv X pins σ H1 { s1 with heap := h' } → wpAny (model X.prog X.w) X.A (holding its (spliced (backTo pos (starEach es X.env))) >>= fun r => pure (its ++ r)) (AP X pins σ Q) X.xe { s1 with heap := h' } := fun its h' rv I2 => by
    refine wpAny_bind (wpAny_holding (thn (hr pos pins _ σ H1 _ I2 q1) fun us s2 ⟨ys, H2, I3, r2, q2⟩ => wpAny_pure ?_))
    exact ⟨xs ++ ys, H2, I3, rv.append r2, q2⟩
  rcases hx with hx | hx
  · obtain ⟨its, rv, p, hz⟩ := I1.list hx
    obtain ⟨o, n, ho, hc, _, hd⟩ := p
    simp only [if_true]
    refine wpAny_bind (wpAny_bind (wpAny_specialOf ⟨o, ho, hc⟩ slot_list_iter.lookup ?_))
    refine wpAny_pure ?_
    simp only [Bool.false_eq_true, if_false]
    refine wpAny_bind (wpAny_collect_seq a (.inl rfl) ho hc hd (fun h' hk => ?_) (by rw [List.size_toArray, ← rv.length]; exact hz))
    exact fin its h' rv (I1.kept (t' := s1.toks) hk)
  · obtain ⟨its, rv, ⟨o, ho, hc, n, hd⟩, hz⟩ := I1.tuple hx
    simp only [if_true]
    refine wpAny_bind (wpAny_bind (wpAny_specialOf ⟨o, ho, hc⟩ PyProof.Rows.slot_tuple_iter.lookup ?_))
    refine wpAny_pure ?_
    simp only [Bool.false_eq_true, if_false]
    refine wpAny_bind (wpAny_collect_seq a (.inr rfl) ho hc hd (fun h' hk => ?_) (by rw [List.size_toArray, ← rv.length]; exact hz))
    exact fin its h' rv (I1.kept (t' := s1.toks) hk)
end
end L2
set_option Elab.async false
set_option maxRecDepth 100000
namespace PySem
namespace XC
/-- what a note of a frame leaves: all else stands; of the frames the slots; the exception's own record and the entry -/
structure Noted (h h' : Heap) (fs : List Addr) (e : Addr) (oe : Obj) (old : Option Addr) (T : Addr) (fl : Value) : Prop where
  keep : ∀ b o, h.get? b = some o → b ∉ fs → b ≠ e → old ≠ some b → h'.get? b = some o
  slot : ∀ b o, h.get? b = some o → b ∈ fs → ∃ sl, h'.get? b = some { o with slots := sl }
  exc : ∃ vs, h'.get? e = some { oe with data := .fields vs } ∧ vs.size = 6 ∧ vs[1]? = some (.ref T)
  tb : ∃ o ts, h'.get? T = some o ∧ o.data = .fields ts ∧ ts[3]? = some fl
  new : h.objs.size ≤ T
  lives : ∀ b, old = some b → ∃ o, h'.get? b = some o
/-- a record of six fields with, or without, an entry that stands in no frame -/
def Loose (h : Heap) (e : Addr) (oe : Obj) (old : Option Addr) : Prop :=
  ∃ vs, h.get? e = some oe ∧ oe.data = .fields vs ∧ vs.size = 6 ∧ ((old = none ∧ vs[1]? = some .none) ∨ ∃ T oT ts, old = some T ∧ vs[1]? = some (.ref T) ∧ T ≠ e ∧ h.get? T = some oT ∧ oT.data = .fields ts ∧ ts[3]? = some .none)
theorem mapF_eq {o : Obj} {vs : Array Value} (hd : o.data = .fields vs) (f : Array Value → Array Value) : o.mapFields f = { o with data := .fields (f vs) } := by
  obtain ⟨c, d, dt, sl⟩ := o
  subst hd
  rfl
theorem mapF_get {h : Heap} {a : Addr} {o : Obj} {vs : Array Value} (ho : h.get? a = some o) (hd : o.data = .fields vs) (f : Array Value → Array Value) : (h.update a (Obj.mapFields f)).get? a = some { o with data := .fields (f vs) } := by
  rw [Heap.get?_update_self _ ho (Obj.isFreed_of_fields (Obj.data_mapFields hd _)), mapF_eq hd]
section
variable {M : Model} {A : Around} {E : Value → Shared → Prop} {s : Shared} {base : Heap} {env : Env} {outer : List Env} {L e : Addr} {oe : Obj} {Q : Unit → Shared → Prop}
/-- noted, then in no frame -/
theorem Noted.loose {h h' : Heap} {fs : List Addr} {old : Option Addr} {T : Addr} {fl : Value} (n : Noted h h' fs e oe old T fl) (he : ∃ o, h.get? e = some o) :
    Loose (h'.update T (Obj.mapFields (·.setIfInBounds 3 Value.none))) e { oe with data := (((h'.get? e).map (·.data)).getD oe.data) } (some T) ∧ Noted h (h'.update T (Obj.mapFields (·.setIfInBounds 3 Value.none))) fs e oe old T .none := by
  obtain ⟨vs, x1, x2, x3⟩ := n.exc
  obtain ⟨oT, ts, t1, t2, t3⟩ := n.tb
  have nTe : T ≠ e := by
    obtain ⟨o, q⟩ := he
    exact Nat.ne_of_gt (Nat.lt_of_lt_of_le (Heap.lt_size q) n.new)
  have other : ∀ b, b ≠ T → (h'.update T (Obj.mapFields (·.setIfInBounds 3 Value.none))).get? b = h'.get? b := fun b q => Heap.get?_update_other _ _ (Ne.symm q)
  have lt : ∀ b o, h.get? b = some o → b ≠ T := fun b o q => Nat.ne_of_lt (Nat.lt_of_lt_of_le (Heap.lt_size q) n.new)
  have hz : 3 < ts.size := (Array.getElem?_eq_some_iff.mp t3).1
  have hT' := mapF_get t1 t2 (·.setIfInBounds 3 Value.none)
  have x1' : (h'.update T (Obj.mapFields (·.setIfInBounds 3 Value.none))).get? e = some { oe with data := .fields vs } := (other e (Ne.symm nTe)).trans x1
  refine ⟨⟨vs, ?_, ?_, x2, .inr ⟨T, _, _, rfl, x3, nTe, hT', rfl, by simp [hz]⟩⟩, ⟨fun b o q a b' c => (other b (lt b o q)).trans (n.keep b o q a b' c), fun b o q hb => ?_, ⟨vs, x1', x2, x3⟩, ⟨_, _, hT', rfl, by simp [hz]⟩, n.new, fun b hb => ?_⟩⟩
  · rw [x1']
    simp [x1]
  · simp [x1]
  · obtain ⟨sl, z⟩ := n.slot b o q hb
    exact ⟨sl, (other b (lt b o q)).trans z⟩
  · by_cases z : b = T
    · subst z
      exact ⟨_, hT'⟩
    · obtain ⟨o, q⟩ := n.lives b hb
      exact ⟨o, (other b z).trans q⟩
end
end XC
end PySem
set_option Elab.async false
set_option maxRecDepth 100000
namespace L2
open PySem PySem.Spec PyProof.Rows
def XO (e C : Addr) (dxo : Option Addr) : HO := .ext fun h => ∃ o vs, h.get? e = some o ∧ o.cls = .ref C ∧ o.dict = dxo ∧ o.data = .fields vs ∧ vs.size = 6
theorem XO.ok {P : Program} {w : World} {H : Hp} {h : Heap} {e C : Addr} {dxo : Option Addr} {o : Obj} {vs : Array Value} (ho : h.get? e = some o) (hc : o.cls = .ref C) (hd : o.dict = dxo) (hv : o.data = .fields vs) (h6 : vs.size = 6) : ObjOk P w H h e (XO e C dxo) :=
  ⟨⟨o, vs, ho, hc, hd, hv, h6⟩, ⟨o, ho⟩, fun _ _ ⟨o, vs, a, r⟩ k => ⟨o, vs, k o a, r⟩⟩
theorem XO.of {P : Program} {w : World} {H : Hp} {h : Heap} {e C : Addr} {dxo : Option Addr} (x : ObjOk P w H h e (XO e C dxo)) : ∃ o vs, h.get? e = some o ∧ o.cls = .ref C ∧ o.dict = dxo ∧ o.data = .fields vs ∧ vs.size = 6 := x.1
/-- an exception on its way: e and its entry are younger than s -/
structure Flies (P : Program) (w : World) (outer : List Env) (H : Hp) (s : Shared) (e : Addr) (H' : Hp) (s' : Shared) : Prop where
  os : s'.os = s.os
  bare : AllBare s'.gens
  un : Un (frs outer) [] H H' s.heap s'.heap
  hok : HOk P w H' s'.heap
  at_ : ∃ C dxo, H' e = some (XO e C dxo)
  new : s.heap.get? e = none
  loose : ∃ oe old, XC.Loose s'.heap e oe old ∧ ∀ T, old = some T → H' T = none ∧ s.heap.get? T = none
def CXX (P : Program) (w : World) : CXT := fun outer H s E ev s' => ∃ e H', ev = .ref e ∧ Flies P w outer H s e H' s' ∧ ∃ C dxo, H' e = some (XO e C dxo) ∧ E (.ref C) (some e) H'
theorem un_noted {fs frames : List Addr} {H H' : Hp} {h h1 h2 : Heap} {e : Addr} {oe : Obj} {old : Option Addr} {T : Addr} {fl : Value} (u : Un fs [] H H' h h1) (n : XC.Noted h1 h2 frames e oe old T fl) (hf : ∀ b ∈ frames, b ∈ fs ∨ h.objs.size ≤ b)
    (he : h.get? e = none) (ho : ∀ b, old = some b → h.get? b = none) : Un fs [] H H' h h2 where
  keep := fun b o q z nf nx => n.keep b o (u.keep b o q z nf nx) (fun m => (hf b m).elim nf fun l => absurd (Heap.lt_size q) (Nat.not_lt.mpr l)) (fun c => by rw [c, he] at q; cases q) (fun c => by rw [ho b c] at q; cases q)
  slot := fun b o q z m nx => by
    obtain ⟨sl, q1⟩ := u.slot b o q z m nx
    by_cases hb : b ∈ frames
    · obtain ⟨sl2, q2⟩ := n.slot b _ q1 hb
      exact ⟨sl2, q2⟩
    · exact ⟨sl, n.keep b _ q1 hb (fun c => by rw [c, he] at q; cases q) (fun c => by rw [ho b c] at q; cases q)⟩
  free := u.free
  there := fun b o q nx => by
    obtain ⟨o1, q1⟩ := u.there b o q nx
    by_cases hb : b ∈ frames
    · obtain ⟨sl2, q2⟩ := n.slot b _ q1 hb
      exact ⟨_, q2⟩
    · exact ⟨_, n.keep b _ q1 hb (fun c => by rw [c, he] at q; cases q) (fun c => by rw [ho b c] at q; cases q)⟩
  tups := u.tups
  frzs := u.frzs
  tbls := u.tbls
theorem hok_noted {P : Program} {w : World} {frames : List Addr} {H : Hp} {h1 h2 : Heap} {e C : Addr} {dxo : Option Addr} {oe : Obj} {old : Option Addr} {T : Addr} {fl : Value} (k : HOk P w H h1) (n : XC.Noted h1 h2 frames e oe old T fl) (hf : ∀ b ∈ frames, H b = none)
    (ho : ∀ b, old = some b → H b = none) (hx : H e = some (XO e C dxo)) (hoe : h1.get? e = some oe) : HOk P w H h2 := fun a o q => by
  have kp : ∀ b u, b ≠ e → H b ≠ none → h1.get? b = some u → h2.get? b = some u := fun b u ne nn g => n.keep b u g (fun m => nn (hf b m)) ne fun c => nn (ho b c)
  by_cases ha : a = e
  · subst ha
    rw [hx] at q
    cases q
    obtain ⟨o1, vs, g1, g2, g3, g4, g5⟩ := XO.of (k a _ hx)
    obtain ⟨vs', x1, x2, _⟩ := n.exc
    cases hoe.symm.trans g1
    exact XO.ok x1 g2 g3 rfl x2
  · refine (k a o q).stay (fun b u hb g => kp b u ?_ ?_ g) (fun _ z => z) fun _ _ z => z
    · rcases hb with rfl | hb
      · exact ha
      · rintro rfl
        rw [hx] at hb
        cases hb
    · rcases hb with rfl | hb
      · rw [q]; simp
      · rw [hb]; simp
section
variable {X : Cx} {pins : List (Addr × Obj)} {σ : St} {H H' : Hp} {s s' : Shared} {e : Addr}
theorem Flies.inv (F : Flies X.prog X.w X.stack H s e H' s') (I : Inv X pins σ H s) : Inv X pins σ H' s' := I.call' F.os F.un F.hok F.bare fun b z => absurd z (by simp)
/-- noted in the frame on top: it flies on -/
theorem Flies.noted {h2 : Heap} {oe oe2 : Obj} {old : Option Addr} {T : Addr} (F : Flies X.prog X.w X.stack H s e H' s') (I : Inv X pins σ H s) (lo : XC.Loose s'.heap e oe old) (ho : ∀ T, old = some T → H' T = none ∧ s.heap.get? T = none)
    (n : XC.Noted s'.heap h2 (frs X.stack) e oe old T .none) (l : XC.Loose h2 e oe2 (some T)) : Flies X.prog X.w X.stack H s e H' { s' with heap := h2 } := by
  have I2 := F.inv I
  obtain ⟨C, dxo, hx⟩ := F.at_
  have hoe : s'.heap.get? e = some oe := let ⟨_, q, _⟩ := lo; q
  refine ⟨F.os, F.bare, un_noted F.un n (fun b m => .inl m) F.new fun b z => (ho b z).2, hok_noted F.hok n I2.stkFree (fun b z => (ho b z).1) hx hoe, F.at_, F.new, oe2, some T, l, fun T' z => ?_⟩
  cases z
  refine ⟨F.hok.fresh n.new, ?_⟩
  cases q : s.heap.get? T with
  | none => rfl
  | some o =>
    obtain ⟨o', q'⟩ := F.un.there T o q (by simp)
    exact absurd (Heap.lt_size q') (Nat.not_lt.mpr n.new)
end
section
variable {P : Program} {w : World} {K : PySem.W.Frag} {mg : Str → Option Value} {base : Heap}
/-- a def that may raise, called by its name -/
structure FnX (P : Program) (w : World) (K : PySem.W.Frag) (mg : Str → Option Value) (base : Heap) (k : Nat) (x : Str) (ps : List Str) (sp : Sp) : Prop where
  ex : ∃ f fd, FnOk P w K mg base (CXX P w) k f fd ps sp ∧ mg x = some (.ref f) ∧ PySem.W.keepIn K (.ref f) = true ∧ Binds K fd ps []
theorem FnX.mono {j k : Nat} {x : Str} {ps : List Str} {sp : Sp} (F : FnX P w K mg base j x ps sp) (h : j ≤ k) : FnX P w K mg base k x ps sp :=
  let ⟨f, fd, a, b, c, d⟩ := F.ex; ⟨f, fd, a.mono h, b, c, d⟩
end
section
variable {X : Cx} {k : Nat} {f : Addr} {fd : FuncData} {ps : List Str} {sp : Sp} {E : St → XK} {x : Str} {p pos : Pos} {e : Expr} {es : List Expr} {t : TA}
end
end L2
set_option Elab.async false
set_option maxRecDepth 100000
namespace PySem
namespace XC
/-- what the names of its bases must be -/
structure Bases (B : String) (bm : List Value) : Prop where
  b : bm.contains (.type B) = true
  e : bm.contains (.type "BaseException") = true
  a : bm.contains (.type "AttributeError") = false
  n : bm.contains (.type "NameError") = false
section
variable {prog : Program} {w : World} {A : Around} {E : Value → Shared → Prop} {h : Heap} {g : Array GenState} {d : Drawn} {t : Nat} {os : OsState}
variable {nm q : Str} {C N : Addr} {bs bm bmB : List Value} {hdct : Bool} {sn : List Str} {sub : List Value} {ab : Bool} {col : Option Bool} {dd : Option Addr} {k0 k1 k2 k3 k5 : Option Value} {B newId initId : String}
end
end XC
end PySem
set_option Elab.async false
set_option maxRecDepth 100000
namespace PySem
namespace XC
open Builtin Builtin.ObjectAttr
section
variable {prog : Program} {w : World} {A : Around} {E : Value → Shared → Prop} {K : PySem.W.Frag} {h : Heap} {g : Array GenState} {d : Drawn} {t : Nat} {os : OsState} {x C dx : Addr} {ox : Obj} {od : Option Obj} {name : Str} {v : Value}
end
end XC
end PySem
set_option Elab.async false
set_option maxRecDepth 100000
namespace L2
open PySem PySem.Spec PyProof.Rows
def XN (e C : Addr) (dxo : Option Addr) : HO := .ext fun h => ∃ o vs, h.get? e = some o ∧ o.cls = .ref C ∧ o.dict = dxo ∧ o.data = .fields vs ∧ vs.size = 6 ∧ vs[1]? = some .none
theorem XN.ok {P : Program} {w : World} {H : Hp} {h : Heap} {e C : Addr} {dxo : Option Addr} {o : Obj} {vs : Array Value} (ho : h.get? e = some o) (hc : o.cls = .ref C) (hd : o.dict = dxo) (hv : o.data = .fields vs) (h6 : vs.size = 6) (h1 : vs[1]? = some .none) : ObjOk P w H h e (XN e C dxo) :=
  ⟨⟨o, vs, ho, hc, hd, hv, h6, h1⟩, ⟨o, ho⟩, fun _ _ ⟨o, vs, a, r⟩ k => ⟨o, vs, k o a, r⟩⟩
theorem XN.of {P : Program} {w : World} {H : Hp} {h : Heap} {e C : Addr} {dxo : Option Addr} (x : ObjOk P w H h e (XN e C dxo)) : ∃ o vs, h.get? e = some o ∧ o.cls = .ref C ∧ o.dict = dxo ∧ o.data = .fields vs ∧ vs.size = 6 ∧ vs[1]? = some .none := x.1
/-- raised or not -/
def IsX (H : Hp) (e C : Addr) (dxo : Option Addr) : Prop := H e = some (XO e C dxo) ∨ H e = some (XN e C dxo)
theorem IsX.obj {P : Program} {w : World} {H : Hp} {h : Heap} {e C : Addr} {dxo : Option Addr} (x : IsX H e C dxo) (k : HOk P w H h) : ∃ o vs, h.get? e = some o ∧ o.cls = .ref C ∧ o.dict = dxo ∧ o.data = .fields vs ∧ vs.size = 6 := by
  rcases x with x | x
  · exact XO.of (k _ _ x)
  · obtain ⟨o, vs, a, b, c, d, e, _⟩ := XN.of (k _ _ x)
    exact ⟨o, vs, a, b, c, d, e⟩
structure XCl (K : PySem.W.Frag) (C : Addr) (B newId initId : String) (bmB : List Value) : Prop where
  base : ExcBaseFacts B newId initId bmB
  ex : ∃ (nm q : Str) (N : Addr) (bs bm : List Value) (sn : List Str) (sub : List Value) (ab : Bool) (col : Option Bool) (dd : Option Addr) (k0 k1 k2 k3 k5 : Option Value), K.lookup C = some (excClassObj nm q C N bs bm true sn sub ab col dd k0 k1 k2 k3 k5 newId) ∧ XC.Bases B bm ∧ bm.contains (.type "object") = true ∧ ∀ self, refuseLoop self "__setattr__" bm = pure ()
  kp : PySem.W.keepIn K (.ref C) = true
  sa : PySem.W.findIn K (.ref C) "__setattr__" = some (some (.builtin "object.__setattr__"))
  ga : PySem.W.findIn K (.ref C) "__getattribute__" = some (some (.builtin "BaseException.__getattribute__"))
  gh : PySem.W.findIn K (.ref C) "__getattr__" = some none
theorem XCl.cd {K : PySem.W.Frag} {C : Addr} {B newId initId : String} {bmB : List Value} (x : XCl K C B newId initId bmB) : ∃ cd : ClassData, PySem.W.clsIn K C = some cd ∧ cd.mro.isEmpty = false ∧ cd.mro.contains (.type "object") = true ∧ cd.mro.contains (.type "BaseException") = true ∧ (∀ self, refuseLoop self "__setattr__" cd.mro = pure ()) ∧ cd.hasDict = true := by
  obtain ⟨nm, q, N, bs, bm, sn, sub, ab, col, dd, k0, k1, k2, k3, k5, l, b, ob, rf⟩ := x.ex
  refine ⟨_, by unfold PySem.W.clsIn; rw [l], rfl, ?_, ?_, fun self => ?_, rfl⟩
  · show (Value.ref C :: bm).contains _ = true
    rw [List.contains_cons, ob]; simp
  · show (Value.ref C :: bm).contains _ = true
    rw [List.contains_cons, b.e]; simp
  · show refuseLoop self "__setattr__" (Value.ref C :: bm) = pure ()
    rw [refuseLoop_ref]; exact rf self
section
variable {X : Cx} {pins : List (Addr × Obj)} {σ : St} {H : Hp} {s : Shared} {C : Addr} {B newId initId : String} {bmB : List Value}
/-- what C(..) leaves: younger than s, never raised -/
structure Made (X : Cx) (H : Hp) (s : Shared) (e C : Addr) (dxo : Option Addr) (H' : Hp) (s' : Shared) : Prop where
  os : s'.os = s.os
  bare : AllBare s'.gens
  un : Un (frs X.stack) [] H H' s.heap s'.heap
  hok : HOk X.prog X.w H' s'.heap
  at_ : H' e = some (XN e C dxo)
  new : s.heap.get? e = none
theorem Made.inv {e : Addr} {dxo : Option Addr} {H' : Hp} {s' : Shared} (m : Made X H s e C dxo H' s') (I : Inv X pins σ H s) : Inv X pins σ H' s' := I.call' m.os m.un m.hok m.bare fun b z => absurd z (by simp)
theorem xn_xo {P : Program} {w : World} {H : Hp} {h : Heap} {e : Addr} {dxo : Option Addr} (k : HOk P w H h) (x : H e = some (XN e C dxo)) : HOk P w (upd H e (XO e C dxo)) h := fun a o q => by
  have st : ∀ b u, b ≠ e → H b = some u → upd H e (XO e C dxo) b = some u := fun b u n z => by rw [upd_ne n]; exact z
  by_cases ha : a = e
  · subst ha
    rw [upd_same] at q
    cases q
    obtain ⟨o, vs, a1, a2, a3, a4, a5, _⟩ := XN.of (k _ _ x)
    exact XO.ok a1 a2 a3 a4 a5
  · rw [upd_ne ha] at q
    refine (k a o q).stay (fun _ _ _ z => z) (fun b z => st b _ ?_ z) fun b xs z => st b _ ?_ z
    · rintro rfl; rw [x] at z; cases z
    · rintro rfl; rw [x] at z; cases z
/-- raised, it flies -/
theorem Made.flies {e : Addr} {dxo : Option Addr} {H' : Hp} {s' : Shared} (m : Made X H s e C dxo H' s') : Flies X.prog X.w X.stack H s e (upd H' e (XO e C dxo)) s' := by
  obtain ⟨o, vs, a1, a2, a3, a4, a5, a6⟩ := XN.of (m.hok _ _ m.at_)
  have st : ∀ b u, H' b = some u → u ≠ XN e C dxo → upd H' e (XO e C dxo) b = some u := fun b u z n => by
    rw [upd_ne (fun q => n (by rw [q, m.at_] at z; exact (Option.some.inj z).symm))]
    exact z
  refine ⟨m.os, m.bare, ⟨m.un.keep, m.un.slot, fun b ob q z nx => ?_, m.un.there, fun b xs z => st b _ (m.un.tups b xs z) (by intro q; cases q), fun b ob u z => st b _ (m.un.frzs b ob u z) (by intro q; cases q), fun b ps z => ?_⟩, xn_xo m.hok m.at_, ⟨C, dxo, upd_same⟩, m.new, o, none, ⟨vs, a1, a4, a5, .inl ⟨rfl, a6⟩⟩, fun T z => by cases z⟩
  · rw [upd_ne (fun c => by rw [c, m.new] at q; cases q)]
    exact m.un.free b ob q z nx
  · obtain ⟨more, z'⟩ := m.un.tbls b ps z
    exact ⟨more, st b _ z' (by intro q; cases q)⟩
end
end L2
set_option Elab.async false
set_option maxRecDepth 100000
namespace PySem
namespace XC
section
variable {M : Model} {A : Around} {E : Value → Shared → Prop} {env : Env}
variable {nm q : Str} {C N : Addr} {bs bm : List Value} {hdct : Bool} {sn : List Str} {sub : List Value} {ab : Bool} {col : Option Bool} {dd : Option Addr} {k0 k1 k2 k3 k5 : Option Value} {newId : String}
end
end XC
end PySem
set_option Elab.async false
set_option maxRecDepth 100000
namespace PySem
namespace XC
open Builtin Builtin.ObjectAttr
section
variable {prog : Program} {w : World} {A : Around} {E : Value → Shared → Prop} {K : PySem.W.Frag} {h : Heap} {g : Array GenState} {d : Drawn} {t : Nat} {os : OsState} {x C : Addr} {ox : Obj} {od : Option Obj}
end
end XC
end PySem
set_option Elab.async false
set_option maxRecDepth 100000
namespace L2
open PySem PySem.Spec PyProof.Rows
section
variable {K : PySem.W.Frag} {C e : Addr} {B newId initId : String} {bmB : List Value}
end
/-- a class as a value -/
def ClsV : V → Value → Prop
  | .ty T, u => u = .type T
  | .ref C, u => u = .ref C
  | _, _ => False
theorem ClsV.rel {v : V} {u u' : Value} (h : ClsV v u) (r : RelV v u') : u' = u := by
  cases v with
  | ty T => exact r.trans h.symm
  | ref C => exact r.trans h.symm
  | _ => exact h.elim
section
variable {X : Cx}
end
end L2
set_option Elab.async false
set_option maxRecDepth 100000
namespace L2
open PySem PySem.Spec PyProof.Rows
section
variable {X : Cx} {C : Addr} {B newId initId : String} {bmB : List Value} {E : St → XK} {n : Str} {np cpos pos : Pos}
variable {k j : Nat} {ps : List Str} {sp : Sp} {e : Expr} {es : List Expr} {t : TA}
end
end L2
set_option Elab.async false
set_option maxRecDepth 100000
namespace L2
open PySem PySem.Spec PyProof.Rows
section
variable {X : Cx} {pins : List (Addr × Obj)} {σ : St} {H : Hp} {s : Shared}
end
end L2
set_option Elab.async false
set_option maxRecDepth 100000
set_option linter.all false
namespace PySem
open Sem (wp)
open PyProof.Rows
section
variable {prog : Program} {w : World} {A : Around} {E : Value → Shared → Prop} {s : Shared}
end
section
variable {prog : Program} {w : World} {A : Around} {E : Value → Shared → Prop} {s : Shared}
end
end PySem
namespace L2
open PySem PySem.Spec PyProof.Rows
end L2
set_option Elab.async false
set_option maxRecDepth 100000
set_option linter.all false
namespace L2
open PySem PySem.Spec PyProof.Rows
section
variable {X : Cx} {k j : Nat} {f : Addr} {fd : FuncData} {ps ks : List Str} {sp : Sp} {E : St → XK} {x : Str} {p pos : Pos} {e : Expr} {es : List Expr} {kws : List Keyword} {t tk : TA} {g : List Value → List Value → List Value} {gV : List V → List V → List V}
end
section
variable {K : PySem.W.Frag}
end
section
variable {X : Cx} {k : Nat}
end
end L2
set_option Elab.async false
set_option maxRecDepth 100000
set_option linter.all false
namespace L2
open PySem PySem.Spec PyProof.Rows
section
variable {X : Cx}
end
/-- a def that may raise, where it does not -/
theorem FnOk.plain {P : Program} {w : World} {K : PySem.W.Frag} {mg : Str → Option Value} {base : Heap} {k : Nat} {f : Addr} {fd : FuncData} {ps : List Str} {sp sp' : Sp} (F : FnOk P w K mg base (CXX P w) k f fd ps sp)
    (h : ∀ vs H Q E, sp' vs H Q E → sp vs H Q fun _ _ _ => False) : FnOk P w K mg base CX0 k f fd ps sp' := by
  refine ⟨fun vs H Q E q => F.len _ _ _ _ (h vs H Q E q), fun A outer s H args us vs Q E hr e0 hb r q => ?_⟩
  refine codeAny_mono (F.run A outer s H args us vs Q _ hr e0 hb r (h vs H Q E q)) fun r s' z => ?_
  cases r with
  | error e =>
    obtain ⟨_, _, _, _, _, _, _, z⟩ := z
    exact z.elim
  | ok fl => cases fl <;> exact z
end L2
set_option Elab.async false
set_option maxRecDepth 100000
set_option linter.all false
namespace PySem
namespace XC
section
variable {prog : Program} {w : World} {A : Around} {E : Value → Shared → Prop} {h : Heap} {g : Array GenState} {d : Drawn} {t : Nat} {os : OsState}
variable {nm q : Str} {C N : Addr} {bs bm bmB : List Value} {hdct : Bool} {sn : List Str} {sub : List Value} {ab : Bool} {col : Option Bool} {dd : Option Addr} {k0 k1 k2 k3 k5 : Option Value} {B newId initId : String} {kw : List (Str × Value)}
end
end XC
end PySem
namespace L2
open PySem PySem.Spec PyProof.Rows
section
variable {X : Cx} {pins : List (Addr × Obj)} {σ : St} {H : Hp} {s : Shared} {C : Addr} {B newId initId : String} {bmB : List Value}
variable {n : Str} {np cpos : Pos} {k j : Nat} {ps ks : List Str} {sp : Sp} {kws : List Keyword} {tk : TA} {gV : List V → List V → List V}
end
section
variable {X : Cx} {pins : List (Addr × Obj)} {σ : St} {H : Hp} {s : Shared}
end
section
variable {K : PySem.W.Frag} {C D : Addr} {nm nm' q q' : Str} {N N' : Addr} {bs bs' bm bm' : List Value} {hd hd' : Bool} {sn sn' : List Str} {sub sub' : List Value} {ab ab' : Bool} {col col' : Option Bool} {dd dd' : Option Addr} {k0 k1 k2 k3 k5 j0 j1 j2 j3 j5 : Option Value} {ni ni' : String}
end
section
variable {X : Cx} {T name : Str}
end
end L2
set_option Elab.async false
set_option maxRecDepth 100000
set_option linter.all false
namespace L2
open PySem PySem.Spec PyProof.Rows
section
variable {P : Program} {w : World} {K : PySem.W.Frag} {mg : Str → Option Value} {base : Heap}
end
section
variable {X : Cx}
end
/-- for i, x in enumerate(list) -/
theorem for_enum {K : PySem.W.Frag} {a : Addr} {xs : List V} {g : TG} {tb : TS} {D : Ends} {σ : St} {H : Hp} (Pv : Nat → St → Hp → Prop) (h0 : Pv 0 σ H) (hl : ∀ i σ H, i ≤ xs.length → Pv i σ H → SqL K H a xs)
    (hs : ∀ i x T σ H, xs[i]? = some x → Pv i σ H → H T = none → g (.ref T) σ (upd H T (.tup [.int (i : Nat), x])) fun σ2 H2 => tb { D with nx := Pv (i + 1), ct := Pv (i + 1), bk := D.nx } σ2 H2) (hd : ∀ σ H, Pv xs.length σ H → D.nx σ H) :
    ∃ W : Nat → Nat → St → Hp → Prop, (∃ m, W 0 m σ H) ∧ ∀ i m σ H, W i m σ H →
      ((Ite K a).stop i H ∧ D.nx σ H) ∨ ((Ite K a).go i H ∧ ∃ N : St → Hp → Prop, (∀ σ' H', N σ' H' → ∃ m', m' < m ∧ W (i + 1) m' σ' H') ∧ ∀ x H', (Ite K a).yld i H x H' → g x σ H' fun σ2 H2 => tb { D with nx := N, ct := N, bk := D.nx } σ2 H2) := by
  refine ⟨fun i m σ H => m = xs.length - i ∧ i ≤ xs.length ∧ Pv i σ H, ⟨xs.length, by simp, Nat.zero_le _, h0⟩, ?_⟩
  rintro i m σ H ⟨rfl, hi, p⟩
  have q := hl i σ H hi p
  by_cases hlt : i < xs.length
  · refine .inr ⟨⟨xs, xs[i], q, by simp [hlt]⟩, Pv (i + 1), fun σ' H' p' => ⟨xs.length - (i + 1), by omega, rfl, hlt, p'⟩, fun x H' y => ?_⟩
    obtain ⟨T, x, rfl, hT, rfl, y⟩ := y
    exact hs i x T σ H (y xs q) p hT
  · have e : i = xs.length := by omega
    subst e
    exact .inl ⟨⟨xs, q, Nat.le_refl _⟩, hd σ H p⟩
section
variable {X : Cx}
open Classical in
open Classical in
end
end L2
set_option Elab.async false
set_option maxRecDepth 100000
set_option linter.all false
namespace L2
open PySem PySem.Spec PyProof.Rows
section
variable {M : Model} {A : Around} {E : Value → Shared → Prop} {s : Shared}
end
def keyS : Value → Str
  | .str x _ => x
  | _ => ""
/-- a set of just these texts -/
def SetAt (w : World) (h : Heap) (a : Addr) (led : Bool) (ks : List Str) : Prop :=
  ∃ (es : Array (Int × Value)) (ep : Nat) (t : SetTable), h.get? a = some { cls := .type "set", dict := none, data := .set es ep t, slots := #[] } ∧ (∀ e ∈ es.toList, ∃ u, e.2 = .str (keyS e.2) u ∧ e.1 = hashStr w (keyS e.2)) ∧
    (es.toList.map fun e => keyS e.2).Nodup ∧ (∀ z, z ∈ (es.toList.map fun e => keyS e.2) ↔ z ∈ ks) ∧ es.size ≤ ks.length ∧ es.size < scanBound ∧ t.fits es.size = true ∧ t.led = led ∧ (es.size ≠ 0 → t.plain = false)
section
variable {prog : Program} {w : World} {A : Around} {E : Value → Shared → Prop} {s : Shared}
end
end L2
set_option Elab.async false
set_option maxRecDepth 100000
set_option linter.all false
namespace L2
open PySem PySem.Spec PyProof.Rows
section
variable {prog : Program} {w : World} {A : Around} {R : Result → Shared → Prop} {I : Addr} {fp wr : List Addr} {G : Array GenState → Array GenState → Prop} {n : Nat} {P : Nat → Value → Prop} {St : Nat → Shared → Prop}
theorem SetAt.at {h h' : Heap} {a : Addr} {led : Bool} {ks : List Str} (x : SetAt w h a led ks) (k : ∀ o, h.get? a = some o → h'.get? a = some o) : SetAt w h' a led ks := by
  obtain ⟨es, ep, t, g, r⟩ := x
  exact ⟨es, ep, t, k _ g, r⟩
end
section
variable {prog : Program} {w : World} {A : Around} {E : Value → Shared → Prop} {s : Shared}
end
end L2
set_option Elab.async false
set_option maxRecDepth 100000
set_option linter.all false
namespace L2
open PySem PySem.Spec PyProof.Rows
namespace SF
end SF
section
variable {prog : Program} {w : World} {A : Around} {E : Value → Shared → Prop} {s : Shared}
end
end L2
set_option Elab.async false
set_option maxRecDepth 100000
set_option linter.all false
namespace L2
open PySem PySem.Spec PyProof.Rows
section
variable {prog : Program} {w : World} {A : Around} {E : Value → Shared → Prop} {s : Shared}
end
end L2
set_option Elab.async false
set_option maxRecDepth 100000
set_option linter.all false
namespace L2
open PySem PySem.Spec PyProof.Rows
section
variable {prog : Program} {w : World} {A : Around} {E : Value → Shared → Prop} {s : Shared}
end
end L2
set_option Elab.async false
set_option maxRecDepth 100000
set_option linter.all false
namespace L2
open PySem PySem.Spec PyProof.Rows
section
variable {X : Cx} {pins : List (Addr × Obj)} {σ : St} {H : Hp} {s : Shared}
theorem Inv.dr (I : Inv X pins σ H s) (d : Drawn) : Inv X pins σ H { s with drawn := d } := ⟨I.ok, I.os, I.bare, I.base, I.loc, I.cell, I.free, I.freeC, I.pin, I.hok, I.len⟩
end
end L2
set_option Elab.async false
set_option maxRecDepth 100000
set_option linter.all false
namespace HT
open PySem PyProof.Rows
section
variable {prog : Program} {w : World} {A : Around} {E : Value → Shared → Prop} {s : Shared}
end
end HT
namespace L2
open PySem PySem.Spec PyProof.Rows
section
variable {X : Cx}
end
end L2
set_option Elab.async false
set_option maxRecDepth 100000
set_option linter.all false
namespace PySem
open Sem (wp)
open AutoSeq1 (wpAny_loadPart')
open PyProof.Rows
section
variable {prog : Program} {w : World} {A : Around} {E : Value → Shared → Prop} {s : Shared}
end
section
variable {prog : Program} {w : World} {A : Around} {E : Value → Shared → Prop} {s : Shared}
end
end PySem
namespace L2
open PySem PySem.Spec PyProof.Rows
end L2
set_option Elab.async false
set_option maxRecDepth 100000
set_option linter.all false
namespace L2
open PySem PySem.Spec PyProof.Rows
section
variable {X : Cx} {a b c d : Expr} {ta tb tc td : TE} {pos : Pos}
end
end L2
set_option Elab.async false
set_option maxRecDepth 100000
set_option linter.all false
namespace L2
open PySem PySem.Spec PyProof.Rows
end L2
set_option Elab.async false
set_option maxRecDepth 100000
set_option linter.all false
namespace L2
open PySem PySem.Spec PyProof.Rows
section
variable {X : Cx}
end
end L2
set_option Elab.async false
set_option maxRecDepth 100000
set_option linter.all false
namespace L2
open PySem PySem.Spec PyProof.Rows
section
variable {X : Cx}
end
end L2
set_option Elab.async false
set_option maxRecDepth 100000
set_option linter.all false
namespace L2
open PySem PySem.Spec PyProof.Rows
section
variable {X : Cx}
end
end L2
set_option Elab.async false
set_option maxRecDepth 100000
set_option linter.all false
namespace L2
open PySem PySem.Spec PyProof.Rows
def keyI : Value → Int
  | .int x _ => x
  | _ => 0
/-- the places rise, no dummies -/
def Rising (t : SetTable) : Prop := t.dummies = #[] ∧ t.place.toList.Pairwise (· < ·)
/-- a set of just these whole numbers -/
def SetIt (h : Heap) (a : Addr) (led : Bool) (ks : List Int) : Prop :=
  ∃ (es : Array (Int × Value)) (ep : Nat) (t : SetTable), h.get? a = some { cls := .type "set", dict := none, data := .set es ep t, slots := #[] } ∧ (∀ e ∈ es.toList, ∃ u, e.2 = .int (keyI e.2) u ∧ e.1 = hashInt (keyI e.2)) ∧
    (es.toList.map fun e => keyI e.2).Nodup ∧ (∀ z, z ∈ (es.toList.map fun e => keyI e.2) ↔ z ∈ ks) ∧ es.size ≤ ks.length ∧ es.size < scanBound ∧ t.fits es.size = true ∧ t.led = led ∧ Rising t
section
variable {prog : Program} {w : World} {A : Around} {E : Value → Shared → Prop} {s : Shared}
end
section
variable {prog : Program} {w : World} {A : Around} {R : Result → Shared → Prop} {I : Addr} {fp wr : List Addr} {G : Array GenState → Array GenState → Prop} {n : Nat} {P : Nat → Value → Prop} {St : Nat → Shared → Prop}
theorem SetIt.at {h h' : Heap} {a : Addr} {led : Bool} {ks : List Int} (x : SetIt h a led ks) (k : ∀ o, h.get? a = some o → h'.get? a = some o) : SetIt h' a led ks := by
  obtain ⟨es, ep, t, g, r⟩ := x
  exact ⟨es, ep, t, k _ g, r⟩
end
section
variable {prog : Program} {w : World} {A : Around} {E : Value → Shared → Prop} {s : Shared}
end
section
variable {prog : Program} {w : World} {A : Around} {E : Value → Shared → Prop} {s : Shared}
end
section
variable {prog : Program} {w : World} {A : Around} {E : Value → Shared → Prop} {s : Shared}
end
section
variable {X : Cx} {pins : List (Addr × Obj)} {σ : St} {H : Hp} {s : Shared}
end
end L2
set_option Elab.async false
set_option maxRecDepth 100000
set_option linter.all false
namespace L2
open PySem PySem.Spec PyProof.Rows
section
variable {X : Cx}
end
section
variable {X : Cx}
end
section
variable {prog : Program} {w : World} {A : Around} {R : Result → Shared → Prop} {I : Addr} {fp wr : List Addr} {n : Nat} {P : Nat → Value → Prop} {St : Nat → Heap → Prop}
end
section
variable {prog : Program} {w : World} {A : Around} {E : Value → Shared → Prop} {s : Shared}
end
section
variable {X : Cx}
end
section
variable {X : Cx}
end
end L2
set_option Elab.async false
set_option maxRecDepth 100000
set_option linter.all false
namespace L2
open PySem PySem.Spec PyProof.Rows
section
variable {X : Cx} {o e f : Expr} {apos cpos : Pos} {td ty tx : TE}
end
end L2
set_option Elab.async false
set_option maxRecDepth 100000
set_option linter.all false
namespace L2
open PySem PySem.Spec PyProof.Rows
section
variable {X : Cx}
end
end L2
set_option Elab.async false
set_option maxRecDepth 100000
set_option linter.all false
namespace HT
open PySem PyProof.Rows
section
variable {prog : Program} {w : World} {A : Around} {E : Value → Shared → Prop} {s : Shared}
theorem sliceApplied_one {sl : Addr} {vk : Value} {n : Nat} {Q : Int × Int × Nat → Shared → Prop} (hs : s.heap.IsSliceOf sl .none .none vk) (pk : IsPart vk (some 1))
    (h : Q (0, 1, n) s) : wpAny (model prog w) A (Builtin.Slice.sliceApplied (.ref sl) (pure (n : Int))) Q E s := by
  obtain ⟨os, hos, hcs, hds⟩ := id hs
  unfold Builtin.Slice.sliceApplied Builtin.Slice.sliceFields
  refine wpAny_bind (wpAny_bind (wpAny_field hos hds (x := .none) rfl (wpAny_bind (wpAny_field hos hds (x := .none) rfl (wpAny_bind (wpAny_field hos hds (x := vk) rfl (wpAny_pure ?_)))))))
  refine wpAny_bind (slicePart_ pk ?_)
  show wpAny _ _ (if ((1 : Int) == 0) = true then _ else _) _ _ s
  rw [if_neg (by decide)]
  refine wpAny_bind (slicePart_none (wpAny_bind (slicePart_none (wpAny_bind (wpAny_pure ?_)))))
  show wpAny _ _ (match Builtin.Slice.sliceAdjust none none 1 (n : Int) with | (lo, hi) => pure (lo, (1 : Int), Builtin.Slice.slicePlaces lo hi 1)) _ _ s
  rw [adjust_gen none none n]
  show wpAny _ _ (pure (((sIx n 0 none : Nat) : Int), (1 : Int), Builtin.Slice.slicePlaces ((sIx n 0 none : Nat) : Int) ((sIx n n none : Nat) : Int) 1)) _ _ s
  rw [places_gen]
  exact wpAny_pure h
theorem getItem_tuple_one {t sl : Addr} {items : Array Value} {vk : Value} {Q : Value → Shared → Prop} (ht : IsTup s.heap t items) (hs : s.heap.IsSliceOf sl .none .none vk) (pk : IsPart vk (some 1))
    (h : Q (.ref t) s) : wpAny (model prog w) A (getItem (.ref t) (.ref sl)) Q E s := by
  obtain ⟨os, hos, hcs, hds⟩ := id hs
  have hTs : s.TypeIs (.ref sl) "slice" := ⟨os, hos, hcs⟩
  unfold getItem
  try with_reducible refine wpAny_holding ?_
  first | refine wpAny_bind (wpAny_pure ?_) | skip
  refine wpAny_bind (wpAny_sequenceKey ht.typeIs (by decide) ?_)
  refine wpAny_bind (wpAny_callSpecial?_slot (name := Str.ofString "__getitem__") ht.typeIs PyProof.Rows.slot_tuple_getitem
    (wpAny_call_entry PyProof.Rows.slot_tuple_getitem ht.typeIs entry_tuple_getitem ?_ (args_tuple_getitem _ _)))
  show wpAny _ _ (Builtin.Tuple.tupleItemsOf (.ref t) >>= _) _ _ s
  refine wpAny_bind (tupleItemsOf_ ht ?_)
  refine wpAny_bind (wpAny_typeOf hTs ?_)
  rw [if_pos (by decide)]
  refine wpAny_bind (sliceApplied_one hs pk ?_)
  have hyes : ((0 : Int) == 0 && (1 : Int) == 1 && items.size == items.size) = true := by simp
  show wpAny _ _ (if ((0 : Int) == 0 && (1 : Int) == 1 && items.size == items.size) = true then _ else _) _ _ s
  rw [if_pos hyes]
  unfold Builtin.Tuple.tupleIsExact
  refine wpAny_bind (wpAny_bind (wpAny_typeOf ht.typeIs (wpAny_pure ?_)))
  rw [if_pos (by decide)]
  refine wpAny_bind (wpAny_rule ?_)
  exact wpAny_pure ⟨_, rfl, wpAny_pure h⟩
end
end HT
namespace L2
open PySem PySem.Spec PyProof.Rows
section
variable {X : Cx}
end
end L2
set_option Elab.async false
set_option maxRecDepth 100000
set_option linter.all false
namespace PySem
open Sem (wp)
open Builtin
open PyProof.Rows
theorem tuple_mul_nought (l : Addr) (items : Array Value) (n : Nat) (dd : Option Addr) (sl : Array (Option Value)) (k : Int) (t : Tok) (h1 : ¬ (decide (k < -(2 ^ 63)) || decide (k ≥ 2 ^ 63)) = true) (h2 : ¬ (items.isEmpty || k == 1) = true)
    (h3 : (decide (k ≤ 0) || items.isEmpty) = true) :
    Meets (Builtin.«tuple.__mul__» ⟨[.ref l, .int k t], []⟩) (fun _ R s => s.heap.get? l = some { cls := .type "tuple", dict := dd, data := .seq items n, slots := sl } ∧
      R (.ok (.ret (Value.ref s.heap.objs.size))) { s with heap := s.heap.push { cls := Value.type "tuple", data := Data.seq #[] } }) :=
  .of_wp fun prog w A R s h => by
    obtain ⟨hp, g, d, tk, os⟩ := s
    obtain ⟨hl, h⟩ := h
    have f1 := AutoSeq1.idx_int
    have f2 := AutoSeq1.sub_tuple_tuple
    have ht : IsTup hp l items := ⟨_, hl, rfl, n, rfl⟩
    wp_walk
    rw [if_neg h1]
    refine wpAny_bind (tupleItemsOf_ ht ?_)
    show wpAny _ _ (if (items.isEmpty || k == 1) = true then _ else _) _ _ _
    rw [if_neg h2]
    show wpAny _ _ (if (decide (k ≤ 0) || items.isEmpty) = true then _ else _) _ _ _
    rw [if_pos h3]
    exact wpAny_bind (m := Builtin.Tuple.tupleExact _) (wpAny_newObj_type (wpAny_pure ⟨_, rfl, h⟩) (by show 0 ≤ sizeLine; decide))
end PySem
namespace L2
open PySem PySem.Spec PyProof.Rows
def tStepUT (K : PySem.W.Frag) (te tk : TE) : TE := fun σ H Q => te σ H fun x H1 => tk σ H1 fun y H2 => ∃ (a : Addr) (xs : List V) (k : Int), x = .ref a ∧ y = .int k ∧ (k = 1 ∨ k = -1) ∧ SqT K H2 a xs ∧ ∀ r ys H', (ys = xs ∨ ys = xs.reverse) → Same H2 H' → SqT K H' r ys → Q (.ref r) H'
def tStepUL (K : PySem.W.Frag) (te tk : TE) : TE := fun σ H Q => te σ H fun x H1 => tk σ H1 fun y H2 => ∃ (a : Addr) (xs : List V) (k : Int), x = .ref a ∧ y = .int k ∧ (k = 1 ∨ k = -1) ∧ SqL K H2 a xs ∧ ∀ p ys, (ys = xs ∨ ys = xs.reverse) → H2 p = none → Q (.ref p) (upd H2 p (.lst ys))
section
variable {X : Cx}
/-- t * k, k nought too -/
def rRepN (K : PySem.W.Frag) : R2 := fun x y H Q => ∃ a k xs, x = .ref a ∧ y = .int k ∧ SqT K H a xs ∧ 0 ≤ k ∧ k ≤ 1000 ∧ xs.length ≤ 1000 ∧ ∀ r H', Same H H' → SqT K H' r (List.replicate k.toNat xs).flatten → Q (.ref r) H'
theorem op_repN : OpR X (binaryOp .Mult) (rRepN X.K) := by
  intro pins s σ H x y v u Q I rx ry h
  obtain ⟨a, k, xs, rfl, rfl, hS, k0, k1, hl, q⟩ := h
  by_cases hk : xs = [] ∨ 1 ≤ k
  · exact op_repT pins s σ H _ _ v u Q I rx ry ⟨a, k, xs, rfl, rfl, hS, k0, k1, hk, hl, q⟩
  have hx : xs ≠ [] := fun e => hk (.inl e)
  have ek : k = 0 := by
    by_cases c : 1 ≤ k
    · exact absurd (.inr c) hk
    · omega
  subst ek
  cases rx
  obtain ⟨t, rfl⟩ := ry
  obtain ⟨its, r, p, hz⟩ := I.tuple hS
  obtain ⟨⟨cls, dd, data, sl⟩, ho, hc, n, hd⟩ := id p
  simp only at hc hd
  subst hc hd
  refine wpAny_binaryOp_repeat_ref (T := "tuple") (U := "int") (by decide) ⟨_, ho, rfl⟩ (fun s' => typeIs_int s' 0 t) noFill_tuple_mul F.fills_int_mul F.slot_int_rmul repeat_tuple F.slot_int_index.lookup
    (call_meets F.slot_int_rmul (typeIs_int s 0 t) F.entry_int_rmul (F.args_int_rmul_2 _ _) (int___rmul___int_tuple 0 t a its.toArray n dd sl)
      ⟨ho, rfl, ⟨_, ho, rfl⟩, ?_⟩)
  have hne : ¬ its.toArray.isEmpty = true := fun z => hx (r.nil_iff.mp (by simpa using z))
  refine call_meets F.slot_tuple_mul ⟨_, ho, rfl⟩ F.entry_tuple_mul (F.args_tuple_mul_2 _ _) (tuple_mul_nought a its.toArray n dd sl 0 t (by decide) (by simpa using hne) (by simp)) ⟨ho, ?_⟩
  have hfr := I.hok.fresh (Nat.le_refl s.heap.objs.size)
  refine ⟨.ref s.heap.objs.size, _, I.laid (t' := s.toks) (o := .tup []) (fun b ob q => Heap.get?_push_of_some _ q) (Nat.le_refl _) ?_, rfl, q _ _ (sameNew hfr _) (SqT.of upd_same)⟩
  exact ⟨by decide, [], .nil, IsTup.new _ _⟩
theorem pe_stepUT {e ke : Expr} {te tk : TE} {p3 pos : Pos} (he : PE X e te) (hk : PE X ke tk) : PE X (.Subscript e (.Slice none none (some ke) p3) pos) (tStepUT X.K te tk) := by
  intro pins s σ H Q I h
  refine Subscript_ (thn (he pins s σ H _ I h) fun v s1 ⟨x, H1, I1, r1, h1⟩ => ?_)
  refine wpAny_Slice ?_
  rw [evalPart_none]
  refine wpAny_pure (wpAny_pure ?_)
  rw [evalPart_some]
  refine thn (hk pins s1 σ H1 _ I1 h1) fun u s2 ⟨y, H2, I2, r2, a, xs, k, ex, ey, hk1, hx, q⟩ => ?_
  subst ex
  cases r1
  rcases hk1 with ek | ek
  · subst ek
    subst ey
    obtain ⟨t, rfl⟩ := r2
    have I3 : Inv X pins σ H2 { s2 with heap := s2.heap.push { cls := .type "slice", data := .fields #[.none, .none, .int 1 t] } } := I2.kept (t' := s2.toks) fun b ob q => Heap.get?_push_of_some _ q
    obtain ⟨its, r, ht, hz⟩ := I3.tuple hx
    refine tail_any (ops := [.ref a, .ref s2.heap.objs.size]) ht.typeIs PyProof.Rows.slot_tuple_getitem.lookup ?_ (by with_unfolding_all rfl)
    exact HT.getItem_tuple_one ht (Heap.IsSliceOf.new ..) (.int _ _) ⟨.ref a, _, I3, rfl, q a xs _ (.inl rfl) (Same.refl _) hx⟩
  · subst ek
    subst ey
    obtain ⟨t, rfl⟩ := r2
    have I3 : Inv X pins σ H2 { s2 with heap := s2.heap.push { cls := .type "slice", data := .fields #[.none, .none, .int (-1) t] } } := I2.kept (t' := s2.toks) fun b ob q => Heap.get?_push_of_some _ q
    obtain ⟨its, r, ht, hz⟩ := I3.tuple hx
    have hlen : its.toArray.size = xs.length := by rw [List.size_toArray]; exact r.length.symm
    refine tail_any (ops := [.ref a, .ref s2.heap.objs.size]) ht.typeIs PyProof.Rows.slot_tuple_getitem.lookup ?_ (by with_unfolding_all rfl)
    refine HT.getItem_tuple_rev ht (Heap.IsSliceOf.new ..) (.int _ _) ?_ (by rw [hlen]; exact hz)
    refine ⟨.ref _, _, I3.laid (t' := s2.toks) (o := .tup xs.reverse) (fun b ob q => Heap.get?_push_of_some _ q) (Nat.le_refl _) ?_, rfl, q _ _ _ (.inr rfl) (sameNew (I3.hok.fresh (Nat.le_refl _)) _) (SqT.of upd_same)⟩
    exact ⟨by simpa using hz, _, vals_reverse r, IsTup.new _ _⟩
theorem pe_stepU {e ke : Expr} {te tk : TE} {p3 pos : Pos} (he : PE X e te) (hk : PE X ke tk) : PE X (.Subscript e (.Slice none none (some ke) p3) pos) (tStepUL X.K te tk) := by
  intro pins s σ H Q I h
  refine Subscript_ (thn (he pins s σ H _ I h) fun v s1 ⟨x, H1, I1, r1, h1⟩ => ?_)
  refine wpAny_Slice ?_
  rw [evalPart_none]
  refine wpAny_pure (wpAny_pure ?_)
  rw [evalPart_some]
  refine thn (hk pins s1 σ H1 _ I1 h1) fun u s2 ⟨y, H2, I2, r2, a, xs, k, ex, ey, hk1, hx, q⟩ => ?_
  subst ex
  cases r1
  rcases hk1 with ek | ek
  · subst ek
    subst ey
    obtain ⟨t, rfl⟩ := r2
    have I3 : Inv X pins σ H2 { s2 with heap := s2.heap.push { cls := .type "slice", data := .fields #[.none, .none, .int 1 t] } } := I2.kept (t' := s2.toks) fun b ob q => Heap.get?_push_of_some _ q
    obtain ⟨its, r, ht, hz⟩ := I3.list hx
    have hlen : its.toArray.size = xs.length := by rw [List.size_toArray]; exact r.length.symm
    refine tail_any (ops := [.ref a, .ref s2.heap.objs.size]) ht.isList.typeIs PySem.slot_list_getitem.lookup ?_ (by with_unfolding_all rfl)
    refine wpAny_getItem_list_slice ht.isList (Heap.IsSliceOf.new ..) .none .none (.int _ _) (by decide) ?_ (by rw [hlen]; exact hz)
    have e1 : slicePick its.toArray none none (some 1) = its.toArray := by
      have := slicePick_cut its none none
      rw [HT.sIx_none, HT.sIx_none] at this
      have e2 : slicePick its.toArray none none (some 1) = slicePick its.toArray none none none := rfl
      rw [e2, this]
      simp
    rw [e1]
    refine ⟨.ref _, _, I3.laid (t' := s2.toks) (o := .lst xs) (fun b ob q => Heap.get?_push_of_some _ q) (Nat.le_refl _) ?_, rfl, q _ _ (.inl rfl) (I3.hok.fresh (Nat.le_refl _))⟩
    exact ⟨hz, _, 0, r, Heap.get?_push_size _ rfl⟩
  · subst ek
    subst ey
    obtain ⟨t, rfl⟩ := r2
    have I3 : Inv X pins σ H2 { s2 with heap := s2.heap.push { cls := .type "slice", data := .fields #[.none, .none, .int (-1) t] } } := I2.kept (t' := s2.toks) fun b ob q => Heap.get?_push_of_some _ q
    obtain ⟨its, r, ht, hz⟩ := I3.list hx
    have hlen : its.toArray.size = xs.length := by rw [List.size_toArray]; exact r.length.symm
    refine tail_any (ops := [.ref a, .ref s2.heap.objs.size]) ht.isList.typeIs PySem.slot_list_getitem.lookup ?_ (by with_unfolding_all rfl)
    refine wpAny_getItem_list_slice ht.isList (Heap.IsSliceOf.new ..) .none .none (.int _ _) (by decide) ?_ (by rw [hlen]; exact hz)
    rw [PySem.W.krv_pick]
    refine ⟨.ref _, _, I3.laid (t' := s2.toks) (o := .lst xs.reverse) (fun b ob q => Heap.get?_push_of_some _ q) (Nat.le_refl _) ?_, rfl, q _ _ (.inr rfl) (I3.hok.fresh (Nat.le_refl _))⟩
    exact ⟨by simpa using hz, _, 0, vals_reverse r, Heap.get?_push_size _ rfl⟩
end
end L2
set_option Elab.async false
set_option maxRecDepth 100000
set_option linter.all false
namespace My
open PySem L2
def top (i : Nat) : Stmt := PySem.Challenge.pw_chancetongue_k27_flows_laid_out.main.body.getD i (.Pass ⟨0, 0, 0, 0⟩)
abbrev s_unrolled : Stmt := top 2
abbrev s_many_rows : Stmt := top 3
abbrev s_put_block : Stmt := top 4
abbrev s_put_statement : Stmt := top 5
abbrev s_flow_of : Stmt := top 6
abbrev s_L_deal : Stmt := top 8
abbrev s_L_draw : Stmt := top 9
abbrev s_L_words : Stmt := top 10
abbrev s_L_number : Stmt := top 11
abbrev s_L_expr : Stmt := top 12
abbrev s_L_test : Stmt := top 13
abbrev s_L_mild : Stmt := top 14
abbrev s_L_alts : Stmt := top 15
abbrev s_L_small : Stmt := top 16
abbrev s_L_root : Stmt := top 17
abbrev s_L_block : Stmt := top 18
abbrev s_L_statement : Stmt := top 19
abbrev s_L_if : Stmt := top 20
abbrev s_L_times : Stmt := top 21
abbrev s_L_book : Stmt := top 22
abbrev s_L_ask : Stmt := top 24
abbrev s_L_lay : Stmt := top 25
abbrev s_L_flow : Stmt := top 26
abbrev s_L_bare : Stmt := top 27
abbrev s_L_long : Stmt := top 28
abbrev s_L_wide : Stmt := top 29
abbrev s_L_right : Stmt := top 30
abbrev s_law : Stmt := top 31
abbrev nm_unrolled : List Str := ["block", "found", "statement"]
abbrev ps_unrolled : List Str := ["block"]
theorem sc_unrolled : FnScope nm_unrolled ps_unrolled (defScope s_unrolled) := ⟨rfl, rfl, rfl, by decide +kernel, rfl, by decide +kernel, by decide +kernel⟩
abbrev nm_many_rows : List Str := ["block", "many", "statement"]
abbrev ps_many_rows : List Str := ["block"]
theorem sc_many_rows : FnScope nm_many_rows ps_many_rows (defScope s_many_rows) := ⟨rfl, rfl, rfl, by decide +kernel, rfl, by decide +kernel, by decide +kernel⟩
abbrev nm_put_block : List Str := ["rows", "block", "behind", "statements", "place", "statement", "following"]
abbrev ps_put_block : List Str := ["rows", "block", "behind"]
theorem sc_put_block : FnScope nm_put_block ps_put_block (defScope s_put_block) := ⟨rfl, rfl, rfl, by decide +kernel, rfl, by decide +kernel, by decide +kernel⟩
abbrev nm_put_statement : List Str := ["rows", "statement", "following", "first", "second", "beyond", "to_one", "to_other", "test", "one", "other"]
abbrev ps_put_statement : List Str := ["rows", "statement", "following"]
theorem sc_put_statement : FnScope nm_put_statement ps_put_statement (defScope s_put_statement) := ⟨rfl, rfl, rfl, by decide +kernel, rfl, by decide +kernel, by decide +kernel⟩
abbrev nm_flow_of : List Str := ["book", "asked", "rows"]
abbrev ps_flow_of : List Str := ["book", "asked"]
theorem sc_flow_of : FnScope nm_flow_of ps_flow_of (defScope s_flow_of) := ⟨rfl, rfl, rfl, by decide +kernel, rfl, by decide +kernel, by decide +kernel⟩
abbrev nm_L_deal : List Str := ["_law_script", "_law_base", "_law_some", "_law_number_here", "_law_one"]
abbrev ps_L_deal : List Str := ["_law_script", "_law_base"]
theorem sc_L_deal : FnScope nm_L_deal ps_L_deal (defScope s_L_deal) := ⟨rfl, rfl, rfl, by decide +kernel, rfl, by decide +kernel, by decide +kernel⟩
abbrev nm_L_draw : List Str := ["_law_deal_here", "_law_many", "_law_number_here", "_law_one", "_law_other"]
abbrev ps_L_draw : List Str := ["_law_deal_here", "_law_many"]
theorem sc_L_draw : FnScope nm_L_draw ps_L_draw (defScope s_L_draw) := ⟨rfl, rfl, rfl, by decide +kernel, rfl, by decide +kernel, by decide +kernel⟩
abbrev nm_L_words : List Str := ["_law_deal_here", "_law_many", "_law_letters", "_law_core", "_law_found", "_law_k", "_law_form", "_law_spot", "_law_turn", "_law_own", "_law_chain"]
abbrev ps_L_words : List Str := ["_law_deal_here", "_law_many"]
theorem sc_L_words : FnScope nm_L_words ps_L_words (defScope s_L_words) := ⟨rfl, rfl, rfl, by decide +kernel, rfl, by decide +kernel, by decide +kernel⟩
abbrev nm_L_number : List Str := ["_law_deal_here"]
abbrev ps_L_number : List Str := ["_law_deal_here"]
theorem sc_L_number : FnScope nm_L_number ps_L_number (defScope s_L_number) := ⟨rfl, rfl, rfl, by decide +kernel, rfl, by decide +kernel, by decide +kernel⟩
abbrev nm_L_expr : List Str := ["_law_deal_here", "_law_names", "_law_deep", "_law_form", "_law_a", "_law_b"]
abbrev ps_L_expr : List Str := ["_law_deal_here", "_law_names", "_law_deep"]
theorem sc_L_expr : FnScope nm_L_expr ps_L_expr (defScope s_L_expr) := ⟨rfl, rfl, rfl, by decide +kernel, rfl, by decide +kernel, by decide +kernel⟩
abbrev nm_L_test : List Str := ["_law_deal_here", "_law_names", "_law_a", "_law_b"]
abbrev ps_L_test : List Str := ["_law_deal_here", "_law_names"]
theorem sc_L_test : FnScope nm_L_test ps_L_test (defScope s_L_test) := ⟨rfl, rfl, rfl, by decide +kernel, rfl, by decide +kernel, by decide +kernel⟩
abbrev nm_L_mild : List Str := ["_law_deal_here", "_law_names", "_law_b", "_law_a", "_law_n"]
abbrev ps_L_mild : List Str := ["_law_deal_here", "_law_names"]
theorem sc_L_mild : FnScope nm_L_mild ps_L_mild (defScope s_L_mild) := ⟨rfl, rfl, rfl, by decide +kernel, rfl, by decide +kernel, by decide +kernel⟩
abbrev nm_L_alts : List Str := ["_law_deal_here", "_law_names", "_law_many", "_law_found", "_law_k", "_law_worth"]
abbrev ps_L_alts : List Str := ["_law_deal_here", "_law_names", "_law_many"]
theorem sc_L_alts : FnScope nm_L_alts ps_L_alts (defScope s_L_alts) := ⟨rfl, rfl, rfl, by decide +kernel, rfl, by decide +kernel, by decide +kernel⟩
abbrev nm_L_small : List Str := ["_law_deal_here", "_law_names", "_law_weight", "_law_form", "_law_a", "_law_b"]
abbrev ps_L_small : List Str := ["_law_deal_here", "_law_names"]
theorem sc_L_small : FnScope nm_L_small ps_L_small (defScope s_L_small) := ⟨rfl, rfl, rfl, by decide +kernel, rfl, by decide +kernel, by decide +kernel⟩
abbrev nm_L_root : List Str := ["_law_ways", "_law_many", "_law_one"]
abbrev ps_L_root : List Str := ["_law_ways", "_law_many"]
theorem sc_L_root : FnScope nm_L_root ps_L_root (defScope s_L_root) := ⟨rfl, rfl, rfl, by decide +kernel, rfl, by decide +kernel, by decide +kernel⟩
abbrev nm_L_block : List Str := ["_law_deal_here", "_law_world", "_law_known", "_law_room", "_law_deep", "_law_found", "_law_many", "_law_k"]
abbrev ps_L_block : List Str := ["_law_deal_here", "_law_world", "_law_known", "_law_room", "_law_deep"]
theorem sc_L_block : FnScope nm_L_block ps_L_block (defScope s_L_block) := ⟨rfl, rfl, rfl, by decide +kernel, rfl, by decide +kernel, by decide +kernel⟩
abbrev nm_L_statement : List Str := ["_law_deal_here", "_law_world", "_law_known", "_law_room", "_law_deep", "_law_x", "_law_many", "_law_worth", "_law_names", "_law_form", "_law_alts_here"]
abbrev ps_L_statement : List Str := ["_law_deal_here", "_law_world", "_law_known", "_law_room", "_law_deep"]
theorem sc_L_statement : FnScope nm_L_statement ps_L_statement (defScope s_L_statement) := ⟨rfl, rfl, rfl, by decide +kernel, rfl, by decide +kernel, by decide +kernel⟩
abbrev nm_L_if : List Str := ["_law_deal_here", "_law_world", "_law_known", "_law_room", "_law_deep", "_law_k", "_law_test_here", "_law_ways", "_law_draws", "_law_arms", "_law_knowns", "_law_inner", "_law_own", "_law_x"]
abbrev ps_L_if : List Str := ["_law_deal_here", "_law_world", "_law_known", "_law_room", "_law_deep"]
theorem sc_L_if : FnScope nm_L_if ps_L_if (defScope s_L_if) := ⟨rfl, rfl, rfl, by decide +kernel, rfl, by decide +kernel, by decide +kernel⟩
abbrev nm_L_times : List Str := ["_law_deal_here", "_law_world", "_law_known", "_law_room", "_law_deep", "_law_many", "_law_inner", "_law_block_here", "_law_k", "_law_begin", "_law_left"]
abbrev ps_L_times : List Str := ["_law_deal_here", "_law_world", "_law_known", "_law_room", "_law_deep"]
theorem sc_L_times : FnScope nm_L_times ps_L_times (defScope s_L_times) := ⟨rfl, rfl, rfl, by decide +kernel, rfl, by decide +kernel, by decide +kernel⟩
abbrev nm_L_book : List Str := ["_law_deal_here", "_law_words_here", "_law_k", "_law_fields", "_law_body", "_law_unknowns", "_law_names", "_law_world", "_law_known"]
abbrev ps_L_book : List Str := ["_law_deal_here"]
theorem sc_L_book : FnScope nm_L_book ps_L_book (defScope s_L_book) := ⟨rfl, rfl, rfl, by decide +kernel, rfl, by decide +kernel, by decide +kernel⟩
abbrev nm_L_ask : List Str := ["_law_deal_here", "_law_world", "_law_is_at_row"]
abbrev ps_L_ask : List Str := ["_law_deal_here", "_law_world", "_law_is_at_row"]
theorem sc_L_ask : FnScope nm_L_ask ps_L_ask (defScope s_L_ask) := ⟨rfl, rfl, rfl, by decide +kernel, rfl, by decide +kernel, by decide +kernel⟩
abbrev nm_L_lay : List Str := ["_law_block_here", "_law_rows", "_law_loose", "_law_statement_here", "_law_turn", "_law_at", "_law_r", "_law_spot", "_law_one"]
abbrev ps_L_lay : List Str := ["_law_block_here", "_law_rows", "_law_loose"]
theorem sc_L_lay : FnScope nm_L_lay ps_L_lay (defScope s_L_lay) := ⟨rfl, rfl, rfl, by decide +kernel, rfl, by decide +kernel, by decide +kernel⟩
abbrev nm_L_flow : List Str := ["_law_book_here", "_law_wanted", "_law_rows", "_law_r", "_law_spot", "_law_row_here"]
abbrev ps_L_flow : List Str := ["_law_book_here", "_law_wanted"]
theorem sc_L_flow : FnScope nm_L_flow ps_L_flow (defScope s_L_flow) := ⟨rfl, rfl, rfl, by decide +kernel, rfl, by decide +kernel, by decide +kernel⟩
abbrev nm_L_bare : List Str := ["_law_deal_here", "_law_x", "_law_room", "_law_deep", "_law_found", "_law_k", "_law_number_here", "_law_form", "_law_inner", "_law_one"]
abbrev ps_L_bare : List Str := ["_law_deal_here", "_law_x", "_law_room", "_law_deep"]
theorem sc_L_bare : FnScope nm_L_bare ps_L_bare (defScope s_L_bare) := ⟨rfl, rfl, rfl, by decide +kernel, rfl, by decide +kernel, by decide +kernel⟩
abbrev nm_L_long : List Str := ["_law_deal_here", "_law_x", "_law_some", "_law_turn", "_law_inner", "_law_middle", "_law_great"]
abbrev ps_L_long : List Str := ["_law_deal_here", "_law_x"]
theorem sc_L_long : FnScope nm_L_long ps_L_long (defScope s_L_long) := ⟨rfl, rfl, rfl, by decide +kernel, rfl, by decide +kernel, by decide +kernel⟩
abbrev nm_L_wide : List Str := ["_law_deal_here", "_law_x", "_law_some", "_law_k", "_law_more", "_law_form", "_law_block_here", "_law_number_here"]
abbrev ps_L_wide : List Str := ["_law_deal_here", "_law_x"]
theorem sc_L_wide : FnScope nm_L_wide ps_L_wide (defScope s_L_wide) := ⟨rfl, rfl, rfl, by decide +kernel, rfl, by decide +kernel, by decide +kernel⟩
abbrev nm_L_right : List Str := ["_law_book_here", "_law_ask_here", "_law_kept"]
abbrev ps_L_right : List Str := ["_law_book_here", "_law_ask_here"]
theorem sc_L_right : FnScope nm_L_right ps_L_right (defScope s_L_right) := ⟨rfl, rfl, rfl, by decide +kernel, rfl, by decide +kernel, by decide +kernel⟩
abbrev nm_law : List Str := ["_law_script", "_law_turn", "_law_deal_here", "_law_some", "_law_body", "_law_world", "_law_book_here", "_law_room", "_law_x", "_law_ask_here"]
abbrev ps_law : List Str := ["_law_script"]
theorem sc_law : FnScope nm_law ps_law (defScope s_law) := ⟨rfl, rfl, rfl, by decide +kernel, rfl, by decide +kernel, by decide +kernel⟩
def letters : Str := "abcdefghijklmnopqrstuvwxyz"
structure Zb (mg : Str → Option Value) : Prop where
  all : mg "all" = none
  enumerate : mg "enumerate" = none
  int : mg "int" = none
  len : mg "len" = none
  list : mg "list" = none
  max : mg "max" = none
  min : mg "min" = none
  range : mg "range" = none
  repr : mg "repr" = none
  reversed : mg "reversed" = none
  tuple : mg "tuple" = none
def dealKV (s n : Int) (l : Addr) : List (Key × V) := [(Sum.inr "seed", .int s), (Sum.inr "number", .int n), (Sum.inr "left", .ref l)]
theorem k_sn : ¬ (Sum.inr ("seed" : Str) : Key) = Sum.inr ("number" : Str) := by decide +kernel
theorem k_sl : ¬ (Sum.inr ("seed" : Str) : Key) = Sum.inr ("left" : Str) := by decide +kernel
theorem k_nl : ¬ (Sum.inr ("number" : Str) : Key) = Sum.inr ("left" : Str) := by decide +kernel
theorem dv_s {s n : Int} {l : Addr} : valV (dealKV s n l) (Sum.inr "seed") = some (.int s) := valV_pos rfl
theorem dv_n {s n : Int} {l : Addr} : valV (dealKV s n l) (Sum.inr "number") = some (.int n) := (valV_neg k_sn).trans (valV_pos rfl)
theorem dv_l {s n : Int} {l : Addr} : valV (dealKV s n l) (Sum.inr "left") = some (.ref l) := (valV_neg k_sl).trans ((valV_neg k_nl).trans (valV_pos rfl))
theorem dp_s {s n : Int} {l : Addr} (x : Int) : putK (dealKV s n l) (Sum.inr "seed") (.int x) = dealKV x n l := by
  unfold putK dealKV
  have e1 : ¬ ("number" : Str) = "seed" := by decide +kernel
  have e2 : ¬ ("left" : Str) = "seed" := by decide +kernel
  simp [e1, e2]
theorem dp_n {s n : Int} {l : Addr} (x : Int) : putK (dealKV s n l) (Sum.inr "number") (.int x) = dealKV s x l := by
  unfold putK dealKV
  have e1 : ¬ ("seed" : Str) = "number" := by decide +kernel
  have e2 : ¬ ("left" : Str) = "number" := by decide +kernel
  simp [e1, e2]
theorem g_s {H : Hp} {d l : Addr} {s n : Int} (h : H d = some (.dK (dealKV s n l))) : DGet H d (.str "seed") (some (.int s)) := .inl ⟨_, Sum.inr "seed", .inl h, rfl, dv_s.symm⟩
theorem g_n {H : Hp} {d l : Addr} {s n : Int} (h : H d = some (.dK (dealKV s n l))) : DGet H d (.str "number") (some (.int n)) := .inl ⟨_, Sum.inr "number", .inl h, rfl, dv_n.symm⟩
theorem g_l {H : Hp} {d l : Addr} {s n : Int} (h : H d = some (.dK (dealKV s n l))) : DGet H d (.str "left") (some (.ref l)) := .inl ⟨_, Sum.inr "left", .inl h, rfl, dv_l.symm⟩
theorem p_s {H : Hp} {d l : Addr} {s n : Int} (x : Int) (h : H d = some (.dK (dealKV s n l))) : DPut H d (.str "seed") (.int x) (upd H d (.dK (dealKV x n l))) := .inl ⟨_, Sum.inr "seed", h, rfl, (by show 3 < sizeLine; decide), by rw [dp_s]⟩
theorem p_n {H : Hp} {d l : Addr} {s n : Int} (x : Int) (h : H d = some (.dK (dealKV s n l))) : DPut H d (.str "number") (.int x) (upd H d (.dK (dealKV s x l))) := .inl ⟨_, Sum.inr "number", h, rfl, (by show 3 < sizeLine; decide), by rw [dp_n]⟩
/-- the deal stands at d, its list at l -/
structure Deal (H : Hp) (d l : Addr) : Prop where
  ex : ∃ (s n : Int) (ls : List Int), H d = some (.dK (dealKV s n l)) ∧ H l = some (.lst (ls.map V.int)) ∧ 0 ≤ s ∧ s < 2147483647 ∧ 0 ≤ n ∧ ∀ x ∈ ls, 0 < x
/-- all else stands -/
def Ext (d l : Addr) (H H' : Hp) : Prop := ∀ b o, H b = some o → b ≠ d → b ≠ l → H' b = some o
theorem Ext.refl {d l : Addr} (H : Hp) : Ext d l H H := fun _ _ h _ _ => h
theorem Ext.trans {d l : Addr} {H H1 H2 : Hp} (a : Ext d l H H1) (b : Ext d l H1 H2) : Ext d l H H2 := fun c o h hd hl => b c o (a c o h hd hl) hd hl
theorem Ext.new {d l p : Addr} {H : Hp} {o : HO} (h : H p = none) : Ext d l H (upd H p o) := fun b u q _ _ => by rw [upd_ne (ne_of_none q h)]; exact q
theorem Ext.ofSame {d l : Addr} {H H' : Hp} (h : Same H H') : Ext d l H H' := fun b o q _ _ => h b o q
theorem Deal.ne {H : Hp} {d l : Addr} (D : Deal H d l) : d ≠ l := by
  obtain ⟨s, n, ls, h1, h2, _⟩ := D
  exact ne_of h1 h2 (by intro z; cases z)
theorem Deal.same {H H' : Hp} {d l : Addr} (D : Deal H d l) (h : Same H H') : Deal H' d l := by
  obtain ⟨s, n, ls, h1, h2, r⟩ := D
  exact ⟨s, n, ls, h _ _ h1, h _ _ h2, r⟩
theorem Deal.new {H : Hp} {d l p : Addr} {o : HO} (D : Deal H d l) (h : H p = none) : Deal (upd H p o) d l := D.same fun b u q => by rw [upd_ne (ne_of_none q h)]; exact q
def spDraw : Sp := fun vs H Q _ => ∃ (d l : Addr) (m : Int), vs = [.ref d, .int m] ∧ Deal H d l ∧ 0 < m ∧ m < 1073741824 ∧
  ∀ (r : Int) (H' : Hp), 0 ≤ r → r < m → Deal H' d l → Ext d l H H' → Q (.int r) H'
theorem emod_b {a b : Int} (h : 0 < b) : 0 ≤ a % b ∧ a % b < b := ⟨Int.emod_nonneg _ (by omega), Int.emod_lt_of_pos _ h⟩
section
variable {P : Program} {w : World} {K : PySem.W.Frag} {mg : Str → Option Value} {base : Heap}
theorem ok_draw {f : Addr} {fd : FuncData} (F : Fun K "_law_draw" "_law_draw" s_L_draw f fd) (Z : Zb mg) : FnOk P w K mg base CX0 1 f fd ps_L_draw spDraw := by
  refine F.ok sc_L_draw (fun vs H Q E h => ?_) (fun cdv A outer s H vs Q E hr h => ?_)
  · obtain ⟨d, l, m, rfl, _⟩ := h
    rfl
  · obtain ⟨d, l, m, rfl, D, h0, h1, k⟩ := h
    have hu := hu_of hr
    have ndl := D.ne
    refine ⟨_, (pss_cons (ps_while PassesOwn.never (PW.pt (pw_and (pt_cmpR op_eq (pe_dget hu (pv 0) pe_str (fun _ _ => rfl)) pe_int (nomark _)) (pw_and1 (pt_cmpR op_gt (pe_callB call_len_seq (by rfl) Z.len (by decide +kernel) (pa_cons (pe_dget hu (pv 0) pe_str (fun _ _ => rfl)) pa_nil)) pe_int (nomark _))))) (pss_one (ps_dput hu (pv 0) pe_str (pe_bm0 PySem.F.plainAttrs_list PySem.F.slot_list_pop PySem.F.type_list_pop mt_pop (pe_dget hu (pv 0) pe_str (fun _ _ => rfl))) rfl)))
      (pss_cons (ps_set (i := 2) sc_L_draw.nd rfl (by first | exact Or.inl rfl | exact Or.inr rfl) (pe_dget hu (pv 0) pe_str (fun _ _ => rfl)))
      (pss_cons (ps_if (pt_cmpR op_gt (pv 2) pe_int (nomark _)) (pss_cons (ps_dput hu (pv 0) pe_str (pe_op op_fdiv (pv 2) (pv 1)) rfl)
      (pss_one (ps_ret (pe_op op_mod (pv 2) (pv 1))))) pss_nil)
      (pss_cons (ps_set (i := 3) sc_L_draw.nd rfl (by first | exact Or.inl rfl | exact Or.inr rfl) (pe_op op_mod (pe_op op_add (pe_op op_mul (pe_dget hu (pv 0) pe_str (fun _ _ => rfl)) pe_int) pe_int) pe_int))
      (pss_cons (ps_dput hu (pv 0) pe_str (pe_op op_mod (pe_op op_add (pe_op op_mul (pv 3) pe_int) pe_int) pe_int) rfl)
      (pss_cons (ps_set (i := 4) sc_L_draw.nd rfl (by first | exact Or.inl rfl | exact Or.inr rfl) (pe_op op_mod (pe_op op_mul (pe_dget hu (pv 0) pe_str (fun _ _ => rfl)) (pe_dget hu (pv 0) pe_str (fun _ _ => rfl))) pe_int))
      (pss_one (ps_ret (pe_op op_mod (pe_op op_add (pe_op op_mul (pe_op op_mod (pe_op op_mul (pv 3) (pv 3)) pe_int) pe_int) (pv 4)) (pv 1)))))))))), ?_⟩
    -- while
    refine ⟨fun mm σ H2 => ∃ (s n : Int) (ls : List Int), mm = ls.length ∧ σ = [some (.ref d), some (.int m), none, none, none] ∧ H2 d = some (.dK (dealKV s n l)) ∧ H2 l = some (.lst (ls.map V.int)) ∧ 0 ≤ s ∧ s < 2147483647 ∧ 0 ≤ n ∧ (∀ x ∈ ls, 0 < x) ∧ Ext d l H H2, ?_, ?_⟩
    · obtain ⟨s, n, ls, a1, a2, a3, a4, a5, a6⟩ := D
      exact ⟨_, s, n, ls, rfl, rfl, a1, a2, a3, a4, a5, a6, Ext.refl H⟩
    rintro mm σ H2 ⟨s, n, ls, rfl, rfl, a1, a2, a3, a4, a5, a6, x1⟩
    refine ⟨_, rfl, d, _, rfl, g_n a1, rfl, _, rfl, ?_⟩
    refine ite2 (fun c => ⟨_, rfl, d, _, rfl, g_l a1, l, _, rfl, .inl (SqL.of a2), _, _, rfl, rfl, _, rfl, ite2 (fun c => ?pop) (fun c => ?e1)⟩) (fun c => iteF ?e2)
    case pop =>
      have hl : 0 < ls.length := by
        have := of_decide_eq_true c
        rw [List.length_map] at this
        omega
      obtain ⟨ys, y, rfl⟩ : ∃ ys y, ls = ys ++ [y] := ⟨ls.dropLast, ls.getLast (by intro e; rw [e] at hl; cases hl), (List.dropLast_concat_getLast _).symm⟩
      refine ⟨_, fun _ _ h => h, ?_⟩
      refine ⟨_, rfl, d, _, rfl, g_l a1, .inl ⟨rfl, _, SqL.of a2⟩, l, _, .int y, rfl, rfl, a2, by simp, _, rfl, d, _, rfl, p_n y (by rw [upd_ne ndl]; exact a1), ?_⟩
      refine ⟨ys.length, by simp, s, y, ys, rfl, rfl, upd_same, ?_, a3, a4, Int.le_of_lt (a6 y (by simp)), fun x hx => a6 x (by simp [hx]), fun b o q hd hl => ?_⟩
      · rw [upd_ne (Ne.symm ndl), upd_same]
        simp
      · rw [upd_ne hd, upd_ne hl]
        exact x1 b o q hd hl
    all_goals
      -- number = deal['number']
      refine ⟨_, rfl, d, _, rfl, g_n a1, ?_⟩
      refine ⟨_, rfl, _, _, rfl, rfl, _, rfl, ?_⟩
      refine ite2 (fun c2 => ?_) (fun c2 => ?_)
      · have hn : 0 < n := of_decide_eq_true c2
        refine ⟨_, rfl, _, rfl, _, _, rfl, rfl, ⟨h0, h1⟩, _, rfl, d, _, rfl, p_n _ a1, ?_⟩
        refine ⟨_, rfl, _, rfl, _, _, rfl, rfl, h0, ?_⟩
        have hm := emod_b (a := n) h0
        refine k _ _ hm.1 hm.2 ⟨s, n / m, ls, upd_same, by rw [upd_ne (Ne.symm ndl)]; exact a2, a3, a4, Int.ediv_nonneg a5 (Int.le_of_lt h0), a6⟩ fun b o q hd hl => ?_
        rw [upd_ne hd]
        exact x1 b o q hd hl
      · refine ⟨_, rfl, d, _, rfl, g_s a1, _, _, rfl, rfl, .inr ⟨by decide, by decide⟩, _, _, rfl, rfl, _, _, rfl, rfl, (by show (0 : Int) < 2147483647; decide), ?_⟩
        have b1 := emod_b (a := s * 48271 + 7919) (b := 2147483647) (by decide)
        refine ⟨_, rfl, _, _, rfl, rfl, .inr ⟨by decide, by decide⟩, _, _, rfl, rfl, _, _, rfl, rfl, (by show (0 : Int) < 2147483399; decide), _, rfl, d, _, rfl, p_s _ a1, ?_⟩
        have b2 := emod_b (a := (s * 48271 + 7919) % 2147483647 * 40692 + 104729) (b := 2147483399) (by decide)
        refine ⟨_, rfl, d, _, rfl, g_s upd_same, _, rfl, d, _, rfl, g_s upd_same, _, _, rfl, rfl, .inl ⟨by omega, by omega⟩, _, _, rfl, rfl, (by show (0 : Int) < 2147483563; decide), ?_⟩
        refine ⟨_, rfl, _, rfl, _, _, rfl, rfl, .inl ⟨by omega, by omega⟩, _, _, rfl, rfl, (by show (0 : Int) < 2147483629; decide), _, _, rfl, rfl, .inr ⟨by decide, by decide⟩, _, rfl, _, _, rfl, rfl, _, rfl, _, _, rfl, rfl, h0, ?_⟩
        refine k _ _ (emod_b h0).1 (emod_b h0).2 ⟨_, n, ls, upd_same, by rw [upd_ne (Ne.symm ndl)]; exact a2, b2.1, by omega, a5, a6⟩ fun b o q hd hl => ?_
        rw [upd_ne hd]
        exact x1 b o q hd hl
end
theorem cutV_map {α : Type} (f : α → V) (xs : List α) (lo hi : Option Int) : cutV (xs.map f) lo hi = ((xs.drop (HT.sIx xs.length 0 lo)).take (HT.sIx xs.length xs.length hi - HT.sIx xs.length 0 lo)).map f := by
  unfold cutV
  rw [List.length_map, List.map_take, List.map_drop]
theorem get_map {α : Type} {f : α → V} {xs : List α} {i : Nat} {y : V} (h : (xs.map f)[i]? = some y) : ∃ z, xs[i]? = some z ∧ y = f z := by
  rw [List.getElem?_map] at h
  cases e : xs[i]? with
  | none => rw [e] at h; cases h
  | some z => rw [e] at h; exact ⟨z, rfl, (Option.some.inj h).symm⟩
theorem lt_of_get {α : Type} {xs : List α} {i : Nat} {y : α} (h : xs[i]? = some y) : i < xs.length := (List.getElem?_eq_some_iff.mp h).1
theorem same_new {H : Hp} {p : Addr} (h : H p = none) (o : HO) : Same H (upd H p o) := fun b u q => by rw [upd_ne (ne_of_none q h)]; exact q
theorem same_upd {H H2 : Hp} {p : Addr} (s : Same H H2) (h : H p = none) (o : HO) : Same H (upd H2 p o) := fun b u q => by rw [upd_ne (ne_of_none q h)]; exact s b u q
theorem merge3 (z : Int) (l : Addr) : mergeK [] [(Sum.inr "seed", .int z), (Sum.inr "number", .int 0), (Sum.inr "left", .ref l)] = dealKV z 0 l := by
  have e1 : ¬ ("seed" : Str) = "number" := by decide +kernel
  have e2 : ¬ ("seed" : Str) = "left" := by decide +kernel
  have e3 : ¬ ("number" : Str) = "left" := by decide +kernel
  simp [mergeK, putK, dealKV, e1, e2, e3]
theorem sz {n m : Nat} (h : n ≤ m) (hm : m ≤ 16777215 := by decide) : n < sizeLine := Nat.lt_of_le_of_lt h (Nat.lt_of_le_of_lt hm (by decide))
theorem szl {n m : Nat} (h : n ≤ m) (hm : m ≤ 16777215 := by decide) : n ≤ sizeLine := Nat.le_of_lt (sz h hm)
def spDeal (K : PySem.W.Frag) : Sp := fun vs H Q _ => ∃ (a : Addr) (ns : List Int), vs = [.ref a, .int 0] ∧ SqL K H a (ns.map V.int) ∧ ns.length ≤ 63 ∧
  ∀ (d l : Addr) (H' : Hp), H d = none → H l = none → Deal H' d l → Same H H' → Q (.ref d) H'
section
variable {P : Program} {w : World} {K : PySem.W.Frag} {mg : Str → Option Value} {base : Heap}
theorem ok_deal {f : Addr} {fd : FuncData} (F : Fun K "_law_deal" "_law_deal" s_L_deal f fd) (Z : Zb mg) : FnOk P w K mg base CX0 1 f fd ps_L_deal (spDeal K) := by
  refine F.ok sc_L_deal (fun vs H Q E h => ?_) (fun cdv A outer s H vs Q E hr h => ?_)
  · obtain ⟨a, ns, rfl, _⟩ := h
    rfl
  · obtain ⟨a, ns, rfl, hS, h63, k⟩ := h
    have hu := hu_of hr
    refine ⟨_, (pss_cons (ps_setLc (i := 2) (own := [("_law_one", 4)]) (g := gName 4) (by rfl) sc_L_deal.nd rfl rfl (sw_true rfl rfl rfl (by decide +kernel)) (pi_list (pe_slice sl_list (pv 0) (po_some (pv 1)) (po_some pe_int))) (blkOk_by (own := [("_law_one", 4)]) (N := nm_L_deal) (sc := defScope s_L_deal) (by decide +kernel)) (fun _ _ _ _ _ => (pg_name (i := 4) sc_L_deal.nd rfl (by first | exact Or.inl rfl | exact Or.inr rfl))) (fun _ _ _ _ _ => pts_nil) (fun _ _ _ _ _ => (pe_callB (call_max2 rfl) (by rfl) Z.max (by decide +kernel) (pa_cons (pv 4) (pa_cons (pe_op op_sub pe_int (pv 4)) pa_nil)))))
      (pss_cons (ps_set (i := 3) sc_L_deal.nd rfl (by first | exact Or.inl rfl | exact Or.inr rfl) (pe_op op_add pe_int (pv 1)))
      (pss_cons (ps_for PassesOwn.never rfl (pi_list (pv 2)) (pg_name (i := 4) sc_L_deal.nd rfl (by first | exact Or.inl rfl | exact Or.inr rfl)) (pss_one (ps_set (i := 3) sc_L_deal.nd rfl (by first | exact Or.inl rfl | exact Or.inr rfl) (pe_op op_mod (pe_op op_add (pe_op op_mul (pv 3) pe_int) (pe_op op_mod (pv 4) pe_int)) pe_int))))
      (pss_one (ps_ret (pe_disp (pps_cons pe_str (pv 3) (pps_cons pe_str pe_int (pps_cons pe_str (pe_listrev rfl rfl Z.list rfl Z.reversed (pa_cons (pe_lc (own := [("_law_one", 4)]) (g := gName 4) (by rfl) sc_L_deal.nd (pi_list (pv 2)) (blkOk_by (own := [("_law_one", 4)]) (N := nm_L_deal) (sc := defScope s_L_deal) (by decide +kernel)) (fun _ _ _ _ _ => (pg_name (i := 4) sc_L_deal.nd rfl (by first | exact Or.inl rfl | exact Or.inr rfl))) (fun _ _ _ _ _ => (pts_one (pt_cmpR op_ge (pv 4) (pe_op op_pow pe_int pe_int) (nomark _)))) (fun _ _ _ _ _ => (pv 4))) pa_nil)) pps_nil))) (by rfl) (by rfl) (fun z => by cases z) (by decide))))))), ?_⟩
    -- some = [max(one, 0 - one) for one in script[base:63]]
    refine ⟨_, rfl, _, rfl, _, rfl, _, rfl, a, _, rfl, hS, fun p hp => ⟨p, rfl, ⟨_, SqL.of upd_same⟩, fun D hD => ?_⟩⟩
    rw [cutV_map]
    generalize hcs : (ns.drop (HT.sIx ns.length 0 (some 0))).take (HT.sIx ns.length ns.length (some 63) - HT.sIx ns.length 0 (some 0)) = cs
    have hcl : cs.length ≤ 63 := by rw [← hcs, List.length_take, List.length_drop]; omega
    have s1 : Same H (upd H p (.lst (cs.map V.int))) := same_new hp _
    have hpD : p ≠ D := ne_of_none (o := .lst (cs.map V.int)) upd_same (by rw [cutV_map, hcs] at hD; exact hD)
    have hDH : H D = none := by
      rw [upd_ne (Ne.symm hpD)] at hD
      exact hD
    refine lc_list (K := K) (a := p) (xs := cs.map V.int) (fun i H2 => Same H H2 ∧ H2 p = some (.lst (cs.map V.int)) ∧ ∃ acc : List Int, H2 D = some (.lst (acc.map V.int)) ∧ acc.length ≤ i ∧ ∀ x ∈ acc, 0 ≤ x)
      ⟨same_upd s1 hDH _, by rw [upd_ne hpD]; exact upd_same, [], upd_same, Nat.le_refl _, by simp⟩ (fun i H2 _ ⟨_, q, _⟩ => SqL.of q) ?_ ?_
    · rintro i x H2 hx ⟨g1, g2, acc, g3, g4, g5⟩
      obtain ⟨n, hn, rfl⟩ := get_map hx
      have hi := lt_of_get hn
      refine ⟨rfl, _, rfl, _, rfl, _, _, rfl, rfl, _, _, rfl, _, g3, by rw [List.length_map]; exact sz (m := 63) (by omega), ?_⟩
      refine ⟨same_upd g1 hDH _, by rw [upd_ne hpD]; exact g2, acc ++ [if 0 - n > n then 0 - n else n], ?_, by simp; omega, fun y hy => ?_⟩
      · rw [upd_same]; simp
      · rcases List.mem_append.mp hy with q | q
        · exact g5 y q
        · rw [List.mem_singleton.mp q]; split <;> omega
    · rintro H2 ⟨g1, g2, acc, g3, g4, g5⟩
      rw [List.length_map] at g4
      -- number = 7919 + base
      refine ⟨_, rfl, _, _, rfl, rfl, ?_⟩
      -- for one in some
      refine ⟨_, rfl, D, rfl, ⟨_, SqL.of g3⟩, for_list (K := K) (a := D) (xs := acc.map V.int) (fun i σ H3 => H3 = H2 ∧ ∃ (z : Int) (v : Option V), σ = [some (.ref a), some (.int 0), some (.ref D), some (.int z), v] ∧ 0 ≤ z ∧ z < 2147483647)
        ⟨rfl, _, none, rfl, by decide, by decide⟩ (fun i σ H3 _ ⟨e, _⟩ => by rw [e]; exact SqL.of g3) ?_ ?_⟩
      · rintro i x σ H3 hx ⟨rfl, z, v, rfl, z0, z1⟩
        obtain ⟨n, hn, rfl⟩ := get_map hx
        refine ⟨_, rfl, _, _, rfl, rfl, .inr ⟨by decide, by decide⟩, _, rfl, _, _, rfl, rfl, (by show (0 : Int) < 2147483629; decide), _, _, rfl, rfl, _, _, rfl, rfl, (by show (0 : Int) < 2147483647; decide), ?_⟩
        exact ⟨rfl, _, _, rfl, (emod_b (by decide)).1, (emod_b (by decide)).2⟩
      · rintro σ H3 ⟨rfl, z, v, rfl, z0, z1⟩
        -- return {..}
        intro q hq
        have sq : Same H3 (upd H3 q (.dK [])) := same_new hq _
        have g3' := sq _ _ g3
        refine ⟨_, rfl, _, rfl, D, rfl, ⟨_, SqL.of g3'⟩, fun D2 hD2 => ?_⟩
        have hqD2 : q ≠ D2 := ne_of_none upd_same hD2
        have hD2' : H3 D2 = none := sq.free hD2
        refine lc_list (K := K) (a := D) (xs := acc.map V.int) (fun i H4 => Same H3 H4 ∧ H4 q = some (.dK []) ∧ ∃ ls : List Int, H4 D2 = some (.lst (ls.map V.int)) ∧ ls.length ≤ i ∧ ∀ x ∈ ls, 0 < x)
          ⟨same_upd sq hD2' _, by rw [upd_ne hqD2]; exact upd_same, [], upd_same, Nat.le_refl _, by simp⟩ (fun i H2 _ ⟨s, _⟩ => SqL.of (s _ _ g3)) ?_ ?_
        · rintro i x H4 hx ⟨s4, hq4, ls, l1, l2, l3⟩
          obtain ⟨n, hn, rfl⟩ := get_map hx
          have hi := lt_of_get hn
          refine ⟨rfl, _, rfl, _, _, rfl, rfl, ⟨by decide, by decide, by decide⟩, _, _, rfl, rfl, _, rfl, ite2 (fun c => ?_) (fun c => ?_)⟩
          · have c' : (10 : Int) ^ (18 : Int).toNat ≤ n := of_decide_eq_true c
            refine ⟨_, rfl, _, l1, by rw [List.length_map]; exact sz (m := 63) (by omega), same_upd s4 hD2' _, by rw [upd_ne hqD2]; exact hq4, ls ++ [n], by rw [upd_same]; simp, by simp; omega, fun y hy => ?_⟩
            rcases List.mem_append.mp hy with r | r
            · exact l3 y r
            · rw [List.mem_singleton.mp r]
              have : (0 : Int) < 10 ^ (18 : Int).toNat := by decide
              omega
          · exact ⟨s4, hq4, ls, l1, by omega, l3⟩
        · rintro H4 ⟨s4, hq4, ls, l1, l2, l3⟩
          refine ⟨D2, _, rfl, SqL.of l1, fun l hl => ?_⟩
          have hql : q ≠ l := ne_of_none hq4 hl
          refine ⟨by rw [upd_ne hql]; exact hq4, [(Sum.inr "seed", .int z), (Sum.inr "number", .int 0), (Sum.inr "left", .ref l)], rfl, (by show 3 ≤ 15; decide), ?_⟩
          rw [merge3]
          have hH3l : H3 l = none := s4.free hl
          refine k q l _ (g1.free hq) (g1.free hH3l) ⟨z, 0, ls.reverse, upd_same, ?_, z0, z1, Int.le_refl _, fun x hx => l3 x (by simpa using hx)⟩ ?_
          · rw [upd_ne (Ne.symm hql), upd_same, List.map_reverse]
          · exact same_upd (same_upd (g1.trans s4) (g1.free hH3l) _) (g1.free hq) _
end
/-- of plain signs alone -/
def Asc (z : Str) : Prop := ∀ c ∈ z.cps.toList, c < 128
theorem letters_len : letters.cps.toList.length = 26 := by decide +kernel
theorem at_ofA {α : Type} {xs : List α} {z : Int} {j : Nat} {v : α} (e : z = (j : Int)) (h : xs[j]? = some v) : atI xs z = some v := by
  rw [e]
  exact atI_nat h
theorem at_get {α : Type} {xs : List α} {r : Int} (h0 : 0 ≤ r) (h1 : r < xs.length) : ∃ v, atI xs r = some v ∧ v ∈ xs := by
  have hk : r.toNat < xs.length := by omega
  refine ⟨xs[r.toNat], ?_, List.getElem_mem hk⟩
  exact at_ofA (by omega) (List.getElem?_eq_getElem hk)
theorem cutS_hi (z : Str) (n : Nat) : (cutS z none (some (n : Int))).length ≤ n := by
  show (((z.cps.toList.drop (HT.sIx z.length 0 none)).take (HT.sIx z.length z.length (some (n : Int)) - HT.sIx z.length 0 none)).toArray).size ≤ n
  rw [List.size_toArray, List.length_take]
  have h : HT.sIx z.length z.length (some (n : Int)) ≤ n := by
    simp only [HT.sIx]
    split <;> omega
  omega
theorem app_len (a b : Str) : (a ++ b).length = a.length + b.length := by
  show (a.cps ++ b.cps).size = a.cps.size + b.cps.size
  simp
theorem join0_len : ∀ acc : List Str, (Txt.join "" acc).length = (acc.map (·.length)).sum := by
  intro acc
  rw [TL.join_eq]
  induction acc with
  | nil => rfl
  | cons x r ih =>
    cases r with
    | nil => show x.length = x.length + 0; rfl
    | cons y r =>
      show ((x ++ "") ++ Str.join "" (y :: r)).length = _
      rw [app_len, app_len, ih]
      show x.length + 0 + _ = x.length + _
      rfl
theorem Asc.app {a b : Str} (h : Asc a) (h' : Asc b) : Asc (a ++ b) := fun c m => by
  have m' : c ∈ (a.cps ++ b.cps).toList := m
  rw [Array.toList_append, List.mem_append] at m'
  exact m'.elim (h c) (h' c)
theorem Asc.cut {a : Str} (h : Asc a) (lo hi : Option Int) : Asc (cutS a lo hi) := fun c m => by
  have m' : c ∈ ((a.cps.toList.drop (HT.sIx a.length 0 lo)).take (HT.sIx a.length a.length hi - HT.sIx a.length 0 lo)).toArray.toList := m
  exact h c (List.mem_of_mem_drop (List.mem_of_mem_take (by simpa using m')))
theorem Asc.rep {a : Str} (h : Asc a) (n : Int) : Asc (repS a n) := fun c m => by
  rw [repS_toList, List.mem_flatten] at m
  obtain ⟨x, mx, mc⟩ := m
  rw [(List.mem_replicate.mp mx).2] at mc
  exact h c mc
theorem Asc.one {u : Nat} {a : Str} (h : Asc a) (m : u ∈ a.cps.toList) : Asc ⟨#[u]⟩ := fun c mc => by
  have : c = u := by simpa using mc
  rw [this]
  exact h u m
theorem Asc.join0 : ∀ {acc : List Str}, (∀ x ∈ acc, Asc x) → Asc (Txt.join "" acc) := by
  intro acc h
  rw [TL.join_eq]
  induction acc with
  | nil => exact fun c m => by cases m
  | cons x r ih =>
    cases r with
    | nil => exact h x (by simp)
    | cons y r =>
      show Asc ((x ++ "") ++ Str.join "" (y :: r))
      exact ((h x (by simp)).app (fun c m => by cases m)).app (ih fun z hz => h z (by simp [List.mem_cons.mp hz]))
theorem asc_by {z : Str} (h : z.cps.toList.all (fun c => decide (c < 128)) = true) : Asc z := fun c m => by simpa using List.all_eq_true.mp h c m
theorem asc_letters : Asc letters := asc_by (by decide +kernel)
theorem take_snoc {α : Type} {xs : List α} {i : Nat} {c : α} (h : xs[i]? = some c) : xs.take (i + 1) = xs.take i ++ [c] := by
  rw [List.take_succ, h]; rfl
/-- what comes behind is shown once -/
theorem joinC {G : Prop} (C R : St → Hp → Prop) (h1 : ∀ σ H, R σ H → C σ H) (h2 : (∀ σ H, R σ H → C σ H) → G) : G := h2 h1
end My
set_option Elab.async false
set_option maxRecDepth 100000
set_option linter.all false
namespace My
open PySem L2
inductive Ex where
  | num (n : Int)
  | name (x : Str)
  | op (s : Str) (a b : Ex)
  | not (a : Ex)
  | ite (c a b : Ex)
namespace Ex
def tag : Ex → Str
  | .num _ => "num"
  | .name _ => "name"
  | .op _ _ _ => "op"
  | .not _ => "not"
  | .ite _ _ _ => "if"
def dat : Ex → PyData
  | .num n => .tuple [.str "num", .int n]
  | .name x => .tuple [.str "name", .str x]
  | .op s a b => .tuple [.str "op", .str s, dat a, dat b]
  | .not a => .tuple [.str "not", dat a]
  | .ite c a b => .tuple [.str "if", dat c, dat a, dat b]
def parts : Ex → List Ex
  | .num n => [.num n]
  | .name x => [.name x]
  | .op s a b => .op s a b :: (parts a ++ parts b)
  | .not a => .not a :: parts a
  | .ite c a b => .ite c a b :: (parts c ++ parts a ++ parts b)
def depth : Ex → Nat
  | .num _ => 0
  | .name _ => 0
  | .op _ a b => max (depth a) (depth b) + 1
  | .not a => depth a + 1
  | .ite c a b => max (depth c) (max (depth a) (depth b)) + 1
def ok : Ex → Prop
  | .num n => 0 ≤ n ∧ n ≤ 999
  | .name x => x.length ≤ 6 ∧ Asc x
  | .op s a b => (s.length = 1 ∧ Asc s) ∧ ok a ∧ ok b
  | .not a => ok a
  | .ite c a b => ok c ∧ ok a ∧ ok b
end Ex
structure Fine (d : PyData) (dep wt : Nat) : Prop where
  lv : d.leavesShort 8 = true
  sh : d.showable = true
  nd : d.hasDict = false
  dp : d.depth ≤ dep
  wt : d.weight ≤ wt
theorem Fine.fits {d : PyData} {dep wt : Nat} (h : Fine d dep wt) (hw : wt ≤ 1048576) : d.shown.length ≤ sizeLine := PyData.shown_fits (B := 8) (by decide) (by decide) h.lv (Nat.le_trans h.wt hw)
theorem Fine.mono {d : PyData} {dep wt dep' wt' : Nat} (h : Fine d dep wt) (h1 : dep ≤ dep') (h2 : wt ≤ wt') : Fine d dep' wt' := ⟨h.lv, h.sh, h.nd, Nat.le_trans h.dp h1, Nat.le_trans h.wt h2⟩
structure FineAll (ds : List PyData) (dep wt : Nat) : Prop where
  lv : PyData.leavesShortAll 8 ds = true
  sh : PyData.showableAll ds = true
  nd : PyData.hasDictAll ds = false
  dp : PyData.depthAll ds ≤ dep
  wt : PyData.weightAll ds ≤ wt
theorem FineAll.nil {dep : Nat} : FineAll [] dep 0 := ⟨rfl, rfl, rfl, Nat.zero_le _, Nat.le_refl _⟩
theorem FineAll.cons {d : PyData} {ds : List PyData} {dep w w' : Nat} (h : Fine d dep w) (h' : FineAll ds dep w') : FineAll (d :: ds) dep (w + 1 + w') :=
  ⟨by simp [PyData.leavesShortAll, h.lv, h'.lv], by simp [PyData.showableAll, h.sh, h'.sh], by simp [PyData.hasDictAll, h.nd, h'.nd], by simp only [PyData.depthAll]; exact Nat.max_le.mpr ⟨h.dp, h'.dp⟩, by simp only [PyData.weightAll]; have := h.wt; have := h'.wt; omega⟩
theorem FineAll.tuple {ds : List PyData} {dep w : Nat} (h : FineAll ds dep w) : Fine (.tuple ds) (dep + 1) w :=
  ⟨by simpa [PyData.leavesShort] using h.lv, by simpa [PyData.showable] using h.sh, by simpa [PyData.hasDict] using h.nd, by simp only [PyData.depth]; have := h.dp; omega, by simpa [PyData.weight] using h.wt⟩
theorem FineAll.list {ds : List PyData} {dep w : Nat} (h : FineAll ds dep w) : Fine (.list ds) (dep + 1) w :=
  ⟨by simpa [PyData.leavesShort] using h.lv, by simpa [PyData.showable] using h.sh, by simpa [PyData.hasDict] using h.nd, by simp only [PyData.depth]; have := h.dp; omega, by simpa [PyData.weight] using h.wt⟩
theorem FineAll.of : ∀ {ds : List PyData} {dep w : Nat}, (∀ d ∈ ds, Fine d dep w) → FineAll ds dep (ds.length * (w + 1))
  | [], _, _, _ => ⟨rfl, rfl, rfl, Nat.zero_le _, Nat.zero_le _⟩
  | d :: ds, dep, w, h => by
    have q := FineAll.cons (h d (by simp)) (FineAll.of (ds := ds) (dep := dep) (w := w) fun x hx => h x (by simp [hx]))
    have e : w + 1 + ds.length * (w + 1) = (d :: ds).length * (w + 1) := by rw [List.length_cons, Nat.add_mul, Nat.one_mul]; omega
    rw [← e]
    exact q
theorem Fine.str {x : Str} {n : Nat} (h : x.length ≤ n) (a : Asc x) : Fine (.str x) 0 n :=
  ⟨by
    simp only [PyData.leavesShort, List.all_eq_true, decide_eq_true_eq]
    intro c m
    have := a c m
    omega, rfl, rfl, Nat.le_refl _, h⟩
theorem Fine.int {i : Int} (h0 : 0 ≤ i) (h : i ≤ 999) : Fine (.int i) 0 10 := by
  have hl : i.natAbs.log2 < 10 := by
    by_cases e : i.natAbs = 0
    · rw [e]; decide
    · exact (Nat.log2_lt e).mpr (by omega)
  refine ⟨?_, ?_, rfl, Nat.le_refl _, ?_⟩
  · simp only [PyData.leavesShort]
    refine decide_eq_true ?_
    have q := int_text_length_le10 (a := i) (k := 3) (by decide) (by omega)
    show (Str.ofString (toString i)).length ≤ 8
    rw [ofString_length]
    omega
  · simp only [PyData.showable, decide_eq_true_eq]
    omega
  · simp only [PyData.weight]
    split <;> omega
theorem Fine.up {d : PyData} {n w : Nat} (h : Fine d 0 w) : Fine d n w := h.mono (Nat.zero_le _) (Nat.le_refl _)
theorem Ex.fine : ∀ {e : Ex}, e.ok → Fine e.dat (e.depth + 1) (15 * e.parts.length)
  | .num n, o => ((FineAll.cons (Fine.str (n := 3) (by decide +kernel) (asc_by (by decide +kernel))) (FineAll.cons (Fine.int o.1 o.2) FineAll.nil)).tuple).mono (by simp [depth]) (by simp [parts])
  | .name x, o => ((FineAll.cons (Fine.str (n := 4) (by decide +kernel) (asc_by (by decide +kernel))) (FineAll.cons (Fine.str o.1 o.2) FineAll.nil)).tuple).mono (by simp [depth]) (by simp [parts])
  | .op s a b, o => by
    have ha := (Ex.fine o.2.1).mono (dep' := max a.depth b.depth + 1) (by omega) (Nat.le_refl _)
    have hb := (Ex.fine o.2.2).mono (dep' := max a.depth b.depth + 1) (by omega) (Nat.le_refl _)
    exact ((FineAll.cons ((Fine.str (n := 2) (x := "op") (by decide +kernel) (asc_by (by decide +kernel))).up) (FineAll.cons ((Fine.str (n := 1) (by have := o.1.1; omega) o.1.2).up) (FineAll.cons ha (FineAll.cons hb FineAll.nil)))).tuple).mono (by simp only [depth]; omega) (by simp only [parts, List.length_cons, List.length_append]; omega)
  | .not a, o => by
    have ha := Ex.fine (e := a) o
    exact ((FineAll.cons ((Fine.str (n := 3) (x := "not") (by decide +kernel) (asc_by (by decide +kernel))).up) (FineAll.cons ha FineAll.nil)).tuple).mono (by simp only [depth]; omega) (by simp only [parts, List.length_cons]; omega)
  | .ite c a b, o => by
    have hc := (Ex.fine o.1).mono (dep' := max c.depth (max a.depth b.depth) + 1) (by omega) (Nat.le_refl _)
    have ha := (Ex.fine o.2.1).mono (dep' := max c.depth (max a.depth b.depth) + 1) (by omega) (Nat.le_refl _)
    have hb := (Ex.fine o.2.2).mono (dep' := max c.depth (max a.depth b.depth) + 1) (by omega) (Nat.le_refl _)
    exact ((FineAll.cons ((Fine.str (n := 2) (x := "if") (by decide +kernel) (asc_by (by decide +kernel))).up) (FineAll.cons hc (FineAll.cons ha (FineAll.cons hb FineAll.nil)))).tuple).mono (by simp only [depth]; omega) (by simp only [parts, List.length_cons, List.length_append]; omega)
def KT (H H' : Hp) : Prop := ∀ b xs, Rd H b (.tup xs) → Rd H' b (.tup xs)
theorem KT.refl (H : Hp) : KT H H := fun _ _ h => h
theorem KT.trans {H H1 H2 : Hp} (a : KT H H1) (b : KT H1 H2) : KT H H2 := fun c xs h => b c xs (a c xs h)
theorem kt_same {H H' : Hp} (s : Same H H') : KT H H' := fun b xs h => by
  rcases h with h | ⟨o, h⟩
  · exact .inl (s _ _ h)
  · exact .inr ⟨o, s _ _ h⟩
theorem kt_ext {H H' : Hp} {d l : Addr} (x : Ext d l H H') (D : Deal H d l) : KT H H' := fun b xs h => by
  obtain ⟨s, n, ls, h1, h2, _⟩ := D
  rcases h with h | ⟨o, h⟩
  · exact .inl (x b _ h (ne_of h h1 (by intro z; cases z)) (ne_of h h2 (by intro z; cases z)))
  · exact .inr ⟨o, x b _ h (ne_of h h1 (by intro z; cases z)) (ne_of h h2 (by intro z; cases z))⟩
theorem kt_new {H : Hp} {p : Addr} (h : H p = none) (o : HO) : KT H (upd H p o) := kt_same (same_new h o)
theorem kt_lst {H : Hp} {p : Addr} {xs : List V} (h : H p = some (.lst xs)) (o : HO) : KT H (upd H p o) := fun b ys q => by
  rcases q with q | ⟨ob, q⟩
  · exact .inl (by rw [upd_ne (ne_of q h (by intro z; cases z))]; exact q)
  · exact .inr ⟨ob, by rw [upd_ne (ne_of q h (by intro z; cases z))]; exact q⟩
theorem sqt_kt {K : PySem.W.Frag} {H H' : Hp} {a : Addr} {xs : List V} (h : SqT K H a xs) (k : KT H H') : SqT K H' a xs := by
  rcases h with h | h
  · exact .inl (k a xs h)
  · exact .inr h
/-- made of tuples alone -/
inductive Tp : PyData → Prop
  | non : Tp .none
  | bl (b : Bool) : Tp (.bool b)
  | int (i : Int) : Tp (.int i)
  | str (x : Str) : Tp (.str x)
  | tup {ds : List PyData} : (∀ d ∈ ds, Tp d) → Tp (.tuple ds)
mutual
theorem Dp.kt {K : PySem.W.Frag} {H H' : Hp} (k : KT H H') : ∀ (d : PyData) (v : V), Tp d → Dp K H v d → Dp K H' v d
  | .none, _, _, h => by cases h; exact .non
  | .bool b, _, _, h => by cases h; exact .bl b
  | .int i, _, _, h => by cases h; exact .int i
  | .str x, _, _, h => by cases h; exact .str x
  | .list ds, _, t, _ => by cases t
  | .tuple ds, _, t, h => by
    cases h with
    | tup hs ha =>
      cases t with
      | tup ht => exact .tup (sqt_kt hs k) (Dp.ktAll k ds _ ht ha)
  | .dict _, _, t, _ => by cases t
theorem Dp.ktAll {K : PySem.W.Frag} {H H' : Hp} (k : KT H H') : ∀ (ds : List PyData) (vs : List V), (∀ d ∈ ds, Tp d) → DpAll K H vs ds → DpAll K H' vs ds
  | [], _, _, h => by cases h; exact .nil
  | d :: ds, _, t, h => by
    cases h with
    | cons h1 h2 => exact .cons (Dp.kt k d _ (t d (by simp)) h1) (Dp.ktAll k ds _ (fun x hx => t x (by simp [hx])) h2)
end
theorem Ex.tp : ∀ e : Ex, Tp e.dat
  | .num n => .tup fun d h => by simp at h; rcases h with rfl | rfl <;> constructor
  | .name n => .tup fun d h => by simp at h; rcases h with rfl | rfl <;> constructor
  | .op s a b => .tup fun d h => by
    simp at h
    rcases h with rfl | rfl | rfl | rfl
    · constructor
    · constructor
    · exact Ex.tp a
    · exact Ex.tp b
  | .not a => .tup fun d h => by
    simp at h
    rcases h with rfl | rfl
    · constructor
    · exact Ex.tp a
  | .ite c a b => .tup fun d h => by
    simp at h
    rcases h with rfl | rfl | rfl | rfl
    · constructor
    · exact Ex.tp c
    · exact Ex.tp a
    · exact Ex.tp b
/-- an expression stands at v -/
abbrev IsE (K : PySem.W.Frag) (H : Hp) (v : V) (e : Ex) : Prop := Dp K H v e.dat
abbrev AreE (K : PySem.W.Frag) (H : Hp) (vs : List V) (es : List Ex) : Prop := DpAll K H vs (es.map Ex.dat)
section
variable {K : PySem.W.Frag} {H H' : Hp}
theorem IsE.kt {v : V} {e : Ex} (h : IsE K H v e) (k : KT H H') : IsE K H' v e := Dp.kt k _ _ e.tp h
theorem AreE.kt {vs : List V} {es : List Ex} (h : AreE K H vs es) (k : KT H H') : AreE K H' vs es := Dp.ktAll k _ _ (fun d hd => by
  obtain ⟨x, _, rfl⟩ := List.mem_map.mp hd
  exact x.tp) h
theorem DpAll.app : ∀ {vs us : List V} {ds es : List PyData}, DpAll K H vs ds → DpAll K H us es → DpAll K H (vs ++ us) (ds ++ es)
  | _, _, _, _, .nil, h => h
  | _, _, _, _, .cons a r, h => .cons a (DpAll.app r h)
theorem DpAll.len : ∀ {vs : List V} {ds : List PyData}, DpAll K H vs ds → vs.length = ds.length
  | _, _, .nil => rfl
  | _, _, .cons _ r => by simp [DpAll.len r]
theorem DpAll.get : ∀ {vs : List V} {ds : List PyData} {i : Nat} {v : V}, DpAll K H vs ds → vs[i]? = some v → ∃ d, ds[i]? = some d ∧ Dp K H v d
  | _, _, 0, _, .cons a _, h => ⟨_, rfl, by cases h; exact a⟩
  | _, _, i + 1, _, .cons _ r, h => DpAll.get (i := i) r h
theorem AreE.app {vs us : List V} {es fs : List Ex} (h : AreE K H vs es) (h' : AreE K H us fs) : AreE K H (vs ++ us) (es ++ fs) := by
  show DpAll K H _ ((es ++ fs).map Ex.dat)
  rw [List.map_append]
  exact DpAll.app h h'
theorem AreE.len {vs : List V} {es : List Ex} (h : AreE K H vs es) : vs.length = es.length := by have := DpAll.len h; simpa using this
theorem AreE.get {vs : List V} {es : List Ex} {i : Nat} {v : V} (h : AreE K H vs es) (hv : vs[i]? = some v) : ∃ e, es[i]? = some e ∧ IsE K H v e := by
  obtain ⟨d, hd, q⟩ := DpAll.get h hv
  rw [List.getElem?_map] at hd
  cases e : es[i]? with
  | none => rw [e] at hd; cases hd
  | some x => rw [e] at hd; cases hd; exact ⟨x, rfl, q⟩
theorem AreE.one {v : V} {e : Ex} (h : IsE K H v e) : AreE K H [v] [e] := .cons h .nil
theorem DpAll.rev : ∀ {vs : List V} {ds : List PyData}, DpAll K H vs ds → DpAll K H vs.reverse ds.reverse
  | _, _, .nil => .nil
  | _, _, .cons a r => by
    simp only [List.reverse_cons]
    exact DpAll.app (DpAll.rev r) (.cons a .nil)
theorem AreE.rev {vs : List V} {es : List Ex} (h : AreE K H vs es) : AreE K H vs.reverse es.reverse := by
  show DpAll K H _ (es.reverse.map Ex.dat)
  rw [List.map_reverse]
  exact DpAll.rev h
/-- an expression opened: its tuple, tag first, then by its form -/
theorem IsE.open {v : V} {e : Ex} (h : IsE K H v e) : ∃ a xs, v = .ref a ∧ SqT K H a xs ∧ (match e with
    | .num n => xs = [.str "num", .int n]
    | .name x => xs = [.str "name", .str x]
    | .op s a b => ∃ va vb, xs = [.str "op", .str s, va, vb] ∧ IsE K H va a ∧ IsE K H vb b
    | .not a => ∃ va, xs = [.str "not", va] ∧ IsE K H va a
    | .ite c a b => ∃ vc va vb, xs = [.str "if", vc, va, vb] ∧ IsE K H vc c ∧ IsE K H va a ∧ IsE K H vb b) := by
  cases e with
  | num n =>
    cases h with
    | tup hs ha =>
      cases ha with | cons h1 r => cases h1; cases r with | cons h2 r => cases h2; cases r; exact ⟨_, _, rfl, hs, rfl⟩
  | name n =>
    cases h with
    | tup hs ha =>
      cases ha with | cons h1 r => cases h1; cases r with | cons h2 r => cases h2; cases r; exact ⟨_, _, rfl, hs, rfl⟩
  | op s a b =>
    cases h with
    | tup hs ha =>
      cases ha with | cons h1 r => cases h1; cases r with | cons h2 r => cases h2; cases r with | cons h3 r => cases r with | cons h4 r => cases r; exact ⟨_, _, rfl, hs, _, _, rfl, h3, h4⟩
  | not a =>
    cases h with
    | tup hs ha =>
      cases ha with | cons h1 r => cases h1; cases r with | cons h2 r => cases r; exact ⟨_, _, rfl, hs, _, rfl, h2⟩
  | ite c a b =>
    cases h with
    | tup hs ha =>
      cases ha with | cons h1 r => cases h1; cases r with | cons h2 r => cases r with | cons h3 r => cases r with | cons h4 r => cases r; exact ⟨_, _, rfl, hs, _, _, _, rfl, h2, h3, h4⟩
end
section
variable {K : PySem.W.Frag} {H : Hp} {t : Addr}
theorem isE_num {n : Int} (h : H t = some (.tup [.str "num", .int n])) : IsE K H (.ref t) (.num n) := .tup (SqT.of h) (.cons (.str _) (.cons (.int _) .nil))
theorem isE_name {x : Str} (h : H t = some (.tup [.str "name", .str x])) : IsE K H (.ref t) (.name x) := .tup (SqT.of h) (.cons (.str _) (.cons (.str _) .nil))
theorem isE_op {s : Str} {a b : Ex} {va vb : V} (h : H t = some (.tup [.str "op", .str s, va, vb])) (ha : IsE K H va a) (hb : IsE K H vb b) : IsE K H (.ref t) (.op s a b) := .tup (SqT.of h) (.cons (.str _) (.cons (.str _) (.cons ha (.cons hb .nil))))
theorem isE_not {a : Ex} {va : V} (h : H t = some (.tup [.str "not", va])) (ha : IsE K H va a) : IsE K H (.ref t) (.not a) := .tup (SqT.of h) (.cons (.str _) (.cons ha .nil))
theorem isE_ite {c a b : Ex} {vc va vb : V} (h : H t = some (.tup [.str "if", vc, va, vb])) (hc : IsE K H vc c) (ha : IsE K H va a) (hb : IsE K H vb b) : IsE K H (.ref t) (.ite c a b) := .tup (SqT.of h) (.cons (.str _) (.cons hc (.cons ha (.cons hb .nil))))
end
theorem Deal.nn {H : Hp} {d l p : Addr} (D : Deal H d l) (h : H p = none) : p ≠ d ∧ p ≠ l := by
  obtain ⟨s, n, ls, h1, h2, _⟩ := D
  exact ⟨fun e => (by rw [e, h1] at h; cases h), fun e => (by rw [e, h2] at h; cases h)⟩
end My
set_option Elab.async false
set_option maxRecDepth 100000
set_option linter.all false
namespace My
open PySem L2
def opT : Str := "+-*<=&|<=="
theorem opT_len : opT.cps.toList.length = 10 := by decide +kernel
theorem asc_opT : Asc opT := asc_by (by decide +kernel)
def NmOk (x : Str) : Prop := x.length ≤ 6 ∧ Asc x
namespace Ex
def okN (ns : List Str) : Ex → Prop
  | .num n => 0 ≤ n ∧ n ≤ 999
  | .name x => x ∈ ns
  | .op s a b => (∃ u, s = ⟨#[u]⟩ ∧ u ∈ opT.cps.toList) ∧ okN ns a ∧ okN ns b
  | .not a => okN ns a
  | .ite c a b => okN ns c ∧ okN ns a ∧ okN ns b
theorem okN.ok {ns : List Str} (hn : ∀ x ∈ ns, NmOk x) : ∀ {e : Ex}, e.okN ns → e.ok
  | .num _, h => h
  | .name x, h => hn x h
  | .op s a b, h => by
    obtain ⟨⟨u, rfl, mu⟩, h1, h2⟩ := h
    exact ⟨⟨rfl, asc_opT.one mu⟩, okN.ok hn h1, okN.ok hn h2⟩
  | .not a, h => okN.ok (e := a) hn h
  | .ite c a b, h => ⟨okN.ok hn h.1, okN.ok hn h.2.1, okN.ok hn h.2.2⟩
end Ex
def szf : Nat → Nat
  | 0 => 1
  | n + 1 => 1 + 3 * szf n
/-- a list of names stands at nl, apart from the deal -/
structure Nms (H : Hp) (d l nl : Addr) (ns : List Str) : Prop where
  at_ : H nl = some (.lst (ns.map V.str))
  nd : nl ≠ d
  nl : nl ≠ l
  ok : ∀ x ∈ ns, NmOk x
  few : ns.length ≤ 1000
theorem Nms.ext {H H' : Hp} {d l nl : Addr} {ns : List Str} (h : Nms H d l nl ns) (x : Ext d l H H') : Nms H' d l nl ns := ⟨x nl _ h.at_ h.nd h.nl, h.nd, h.nl, h.ok, h.few⟩
theorem Nms.new {H : Hp} {d l nl p : Addr} {ns : List Str} {o : HO} (h : Nms H d l nl ns) (hp : H p = none) : Nms (upd H p o) d l nl ns := ⟨by rw [upd_ne (ne_of_none h.at_ hp)]; exact h.at_, h.nd, h.nl, h.ok, h.few⟩
def spNum : Sp := fun vs H Q _ => ∃ (d l : Addr), vs = [.ref d] ∧ Deal H d l ∧ ∀ (r : Int) (H' : Hp), 0 ≤ r → r ≤ 999 → Deal H' d l → Ext d l H H' → Q (.int r) H'
def spExpr (K : PySem.W.Frag) (n : Nat) : Sp := fun vs H Q _ => ∃ (d l nl : Addr) (ns : List Str) (deep : Nat), vs = [.ref d, .ref nl, .int (deep : Int)] ∧ Deal H d l ∧ Nms H d l nl ns ∧ deep < n ∧
  ∀ (v : V) (e : Ex) (H' : Hp), Deal H' d l → Ext d l H H' → IsE K H' v e → e.okN ns → e.depth ≤ deep → e.parts.length ≤ szf deep → Q v H'
def spTest (K : PySem.W.Frag) : Sp := fun vs H Q _ => ∃ (d l nl : Addr) (ns : List Str), vs = [.ref d, .ref nl] ∧ Deal H d l ∧ Nms H d l nl ns ∧
  ∀ (v : V) (e : Ex) (H' : Hp), Deal H' d l → Ext d l H H' → IsE K H' v e → e.okN ns → e.depth ≤ 3 → e.parts.length ≤ 13 → Q v H'
section
variable {P : Program} {w : World} {K : PySem.W.Frag} {mg : Str → Option Value} {base : Heap}
theorem ok_num {f : Addr} {fd : FuncData} (F : Fun K "_law_number" "_law_number" s_L_number f fd) (Z : Zb mg) (G_L_draw : FnIn P w K mg base 1 "_law_draw" ps_L_draw spDraw) : FnOk P w K mg base CX0 2 f fd ps_L_number spNum := by
  refine F.ok sc_L_number (fun vs H Q E h => ?_) (fun cdv A outer s H vs Q E hr h => ?_)
  · obtain ⟨d, l, rfl, _⟩ := h
    rfl
  · obtain ⟨d, l, rfl, D, k⟩ := h
    refine ⟨_, (pss_one (ps_ret (pe_ix ix_list (pe_lst (pa_cons (pe_fn G_L_draw hr rfl (pa_cons (pv 0) (pa_cons pe_int pa_nil))) (pa_cons (pe_fn G_L_draw hr rfl (pa_cons (pv 0) (pa_cons pe_int pa_nil))) (pa_cons (pe_op op_sub pe_int (pe_fn G_L_draw hr rfl (pa_cons (pv 0) (pa_cons pe_int pa_nil)))) pa_nil)))) (pe_callB (call_min2 rfl) (by rfl) Z.min (by decide +kernel) (pa_cons pe_int (pa_cons (pe_op op_fdiv (pe_fn G_L_draw hr rfl (pa_cons (pv 0) (pa_cons pe_int pa_nil))) pe_int) pa_nil))) (fun _ _ => rfl)))), ?_⟩
    refine ⟨_, rfl, d, l, 5, rfl, D, by decide, by decide, fun r1 H1 r10 r11 D1 x1 => ⟨_, rfl, d, l, 3, rfl, D1, by decide, by decide, fun r2 H2 r20 r21 D2 x2 => ⟨_, rfl, d, l, 1000, rfl, D2, by decide, by decide, fun r3 H3 r30 r31 D3 x3 => ⟨_, _, rfl, rfl, (by show 3 ≤ sizeLine; decide), fun p hp => ⟨_, rfl, d, l, 9, rfl, D3.new hp, by decide, by decide, fun r4 H4 r40 r41 D4 x4 => ⟨_, _, rfl, rfl, ⟨by decide, by decide⟩, _, _, rfl, ?_⟩⟩⟩⟩⟩⟩
    obtain ⟨np1, np2⟩ := D3.nn hp
    obtain ⟨y, hy, my⟩ := at_get (xs := [V.int r1, V.int r2, V.int (999 - r3)]) (r := if r4 / 4 < 2 then r4 / 4 else 2) (by split <;> omega) (by show _ < (3 : Int); split <;> omega)
    refine ⟨p, _, _, _, rfl, rfl, SqL.of (x4 p _ upd_same np1 np2), hy, ?_⟩
    have x := ((x1.trans x2).trans x3).trans ((Ext.new (o := .lst [V.int r1, V.int r2, V.int (999 - r3)]) hp).trans x4)
    simp only [List.mem_cons, List.not_mem_nil, or_false] at my
    rcases my with rfl | rfl | rfl
    · exact k _ H4 r10 (by omega) D4 x
    · exact k _ H4 r20 (by omega) D4 x
    · exact k _ H4 (by omega) (by omega) D4 x
theorem ok_expr {f : Addr} {fd : FuncData} (n : Nat) (F : Fun K "_law_expr" "_law_expr" s_L_expr f fd) (Z : Zb mg) (G_L_draw : FnIn P w K mg base 1 "_law_draw" ps_L_draw spDraw) (G_L_number : FnIn P w K mg base 2 "_law_number" ps_L_number spNum)
    (G_L_expr : FnIn P w K mg base (n + 2) "_law_expr" ps_L_expr (spExpr K n)) : FnOk P w K mg base CX0 (n + 3) f fd ps_L_expr (spExpr K (n + 1)) := by
  refine F.ok sc_L_expr (fun vs H Q E h => ?_) (fun cdv A outer s H vs Q E hr h => ?_)
  · obtain ⟨d, l, nl, ns, deep, rfl, _⟩ := h
    rfl
  · obtain ⟨d, l, nl, ns, deep, rfl, D, N, hdn, k⟩ := h
    refine ⟨_, (pss_cons (ps_set (i := 3) sc_L_expr.nd rfl (by first | exact Or.inl rfl | exact Or.inr rfl) (pe_fn G_L_draw hr rfl (pa_cons (pv 0) (pa_cons pe_int pa_nil))))
      (pss_cons (ps_if (PW.pt (pw_or (pt_cmpR op_eq (pv 2) pe_int (nomark _)) (pw_or1 (pt_cmpR op_lt (pv 3) pe_int (nomark _))))) (pss_cons (ps_if (PW.pt (pw_and (pt_cmpR op_gt (pe_callB call_len_seq (by rfl) Z.len (by decide +kernel) (pa_cons (pv 1) pa_nil)) pe_int (nomark _)) (pw_and1 (pt_cmpR op_gt (pe_fn G_L_draw hr rfl (pa_cons (pv 0) (pa_cons pe_int pa_nil))) pe_int (nomark _))))) (pss_one (ps_ret (pe_tup (pa_cons pe_str (pa_cons (pe_ix ix_list (pv 1) (pe_fn G_L_draw hr rfl (pa_cons (pv 0) (pa_cons (pe_callB call_len_seq (by rfl) Z.len (by decide +kernel) (pa_cons (pv 1) pa_nil)) pa_nil))) (fun _ _ => rfl)) pa_nil))))) pss_nil)
      (pss_one (ps_ret (pe_tup (pa_cons pe_str (pa_cons (pe_fn G_L_number hr rfl (pa_cons (pv 0) pa_nil)) pa_nil)))))) pss_nil)
      (pss_cons (ps_par (i := 4) (j := 5) (by rfl) sc_L_expr.nd rfl rfl (by decide) rfl rfl (pa_cons (pe_fn G_L_expr hr rfl (pa_cons (pv 0) (pa_cons (pv 1) (pa_cons (pe_op op_sub (pv 2) pe_int) pa_nil)))) (pa_cons (pe_fn G_L_expr hr rfl (pa_cons (pv 0) (pa_cons (pv 1) (pa_cons (pe_op op_sub (pv 2) pe_int) pa_nil)))) pa_nil)) (by rfl))
      (pss_cons (ps_if (pt_cmpR op_eq (pv 3) pe_int (nomark _)) (pss_one (ps_ret (pe_tup (pa_cons pe_str (pa_cons (pv 4) pa_nil))))) pss_nil)
      (pss_cons (ps_if (pt_cmpR op_eq (pv 3) pe_int (nomark _)) (pss_one (ps_ret (pe_tup (pa_cons pe_str (pa_cons (pv 4) (pa_cons (pv 5) (pa_cons (pe_fn G_L_expr hr rfl (pa_cons (pv 0) (pa_cons (pv 1) (pa_cons (pe_op op_sub (pv 2) pe_int) pa_nil)))) pa_nil))))))) pss_nil)
      (pss_one (ps_ret (pe_tup (pa_cons pe_str (pa_cons (pe_ix ix_str pe_str (pe_fn G_L_draw hr rfl (pa_cons (pv 0) (pa_cons pe_int pa_nil))) (fun _ _ => rfl)) (pa_cons (pv 4) (pa_cons (pv 5) pa_nil)))))))))))), ?_⟩
    refine ⟨_, rfl, d, l, 10, rfl, D, by decide, by decide, fun fm H1 f0 f1 D1 x1 => ?_⟩
    have N1 := N.ext x1
    refine ⟨_, rfl, rfl, _, rfl, ite2 (fun c => ?leaf1) (fun c => ⟨_, rfl, _, _, rfl, rfl, _, rfl, ite2 (fun c2 => ?leaf2) (fun c2 => ?deep)⟩)⟩
    case deep =>
      have hd1 : deep ≠ 0 := fun h => c (decide_eq_true (by rw [h]; rfl))
      obtain ⟨m, rfl⟩ : ∃ m, deep = m + 1 := ⟨deep - 1, by omega⟩
      have em : ((m + 1 : Nat) : Int) - 1 = (m : Int) := by omega
      refine ⟨_, rfl, _, rfl, _, rfl, _, _, rfl, rfl, d, l, nl, ns, m, (by show [V.ref d, V.ref nl, V.int (((m + 1 : Nat) : Int) - 1)] = _; rw [em]), D1, N1, by omega, fun va ea H2 D2 x2 ha oa da sa => ⟨_, rfl, _, rfl, _, rfl, _, _, rfl, rfl, d, l, nl, ns, m, (by show [V.ref d, V.ref nl, V.int (((m + 1 : Nat) : Int) - 1)] = _; rw [em]), D2, N1.ext x2, by omega, fun vb eb H3 D3 x3 hb ob db sb => ⟨_, _, rfl, ?_⟩⟩⟩
      have ha3 := ha.kt (kt_ext x3 D2)
      have x13 := (x1.trans x2).trans x3
      refine ⟨_, rfl, rfl, _, rfl, ite2 (fun c3 => ⟨_, rfl, (by show 2 ≤ sizeLine; decide), fun t ht => ?_⟩) (fun c3 => ⟨_, rfl, rfl, _, rfl, ite2 (fun c4 => ?iff) (fun c4 => ?op)⟩)⟩
      · exact k (.ref t) (.not ea) _ (D3.new ht) (x13.trans (Ext.new ht)) (isE_not upd_same (ha3.kt (kt_new ht _))) oa (by simp only [Ex.depth]; omega) (by simp only [Ex.parts, List.length_cons, szf]; omega)
      case iff =>
        refine ⟨_, rfl, _, rfl, _, rfl, _, rfl, _, rfl, _, _, rfl, rfl, d, l, nl, ns, m, (by show [V.ref d, V.ref nl, V.int (((m + 1 : Nat) : Int) - 1)] = _; rw [em]), D3, (N1.ext x2).ext x3, by omega, fun vc ec H4 D4 x4 hc oc dc sc => ⟨(by show 4 ≤ sizeLine; decide), fun t ht => ?_⟩⟩
        have kk := (kt_ext x4 D3).trans (kt_new ht (.tup [.str "if", va, vb, vc]))
        exact k (.ref t) (.ite ea eb ec) _ (D4.new ht) (x13.trans (x4.trans (Ext.new ht))) (isE_ite upd_same (ha3.kt kk) (hb.kt kk) (hc.kt (kt_new ht _))) ⟨oa, ob, oc⟩ (by simp only [Ex.depth]; omega) (by simp only [Ex.parts, List.length_cons, List.length_append, szf]; omega)
      case op =>
        refine ⟨_, rfl, d, l, 10, rfl, D3, by decide, by decide, fun c1 H4 c10 c11 D4 x4 => ?_⟩
        obtain ⟨u, hu, mu⟩ := at_get (xs := opT.cps.toList) c10 (by rw [opT_len]; omega)
        refine ⟨_, _, u, rfl, rfl, by decide +kernel, hu, _, rfl, _, rfl, (by show 4 ≤ sizeLine; decide), fun t ht => ?_⟩
        have kk := (kt_ext x4 D3).trans (kt_new ht (.tup [.str "op", .str ⟨#[u]⟩, va, vb]))
        exact k (.ref t) (.op ⟨#[u]⟩ ea eb) _ (D4.new ht) (x13.trans (x4.trans (Ext.new ht))) (isE_op upd_same (ha3.kt kk) (hb.kt kk)) ⟨⟨u, rfl, mu⟩, oa, ob⟩ (by simp only [Ex.depth]; omega) (by simp only [Ex.parts, List.length_cons, List.length_append, szf]; omega)
    all_goals
      have hs1 : 1 ≤ szf deep := by cases deep <;> simp [szf]
      refine' joinC _ (fun σ H2 => σ = [some (.ref d), some (.ref nl), some (.int (deep : Int)), some (.int fm), none, none] ∧ Deal H2 d l ∧ Ext d l H H2) ?fin ?main
      case main =>
        intro fin
        refine ⟨_, rfl, nl, _, rfl, .inl (SqL.of N1.at_), _, _, rfl, rfl, _, rfl, ite2 (fun c5 => ?hasn) (fun c5 => ?non)⟩
        case hasn =>
          refine ⟨_, rfl, d, l, 4, rfl, D1, by decide, by decide, fun r2 H2 r20 r21 D2 x2 => ⟨_, _, rfl, rfl, _, rfl, ite2 (fun c6 => ?takn) (fun c6 => ?non2)⟩⟩
          case takn =>
            have hl : 0 < ns.length := by
              have := of_decide_eq_true c5
              rw [List.length_map] at this
              omega
            have N2 := N1.ext x2
            refine ⟨_, rfl, _, rfl, _, rfl, nl, _, rfl, .inl (SqL.of N2.at_), d, l, _, rfl, D2, by rw [List.length_map]; omega, by rw [List.length_map]; have := N.few; omega, fun r3 H3 r30 r31 D3 x3 => ?_⟩
            obtain ⟨y, hy, my⟩ := at_get (xs := ns.map V.str) r30 r31
            obtain ⟨z, mz, rfl⟩ := List.mem_map.mp my
            refine ⟨nl, _, _, _, rfl, rfl, SqL.of (N2.ext x3).at_, hy, (by show 2 ≤ sizeLine; decide), fun t ht => ?_⟩
            exact k (.ref t) (.name z) _ (D3.new ht) ((x1.trans x2).trans (x3.trans (Ext.new ht))) (isE_name upd_same) mz (by simp [Ex.depth]) (by simp [Ex.parts]; omega)
          case non2 => exact fin _ _ ⟨rfl, D2, x1.trans x2⟩
        case non => exact fin _ _ ⟨rfl, D1, x1⟩
      case fin =>
        rintro σ H2 ⟨rfl, D2, x2⟩
        refine ⟨_, rfl, d, l, rfl, D2, fun r H3 r0 r1 D3 x3 => ⟨(by show 2 ≤ sizeLine; decide), fun t ht => ?_⟩⟩
        exact k (.ref t) (.num r) _ (D3.new ht) (x2.trans (x3.trans (Ext.new ht))) (isE_num upd_same) ⟨r0, r1⟩ (by simp [Ex.depth]) (by simp [Ex.parts]; omega)
end
end My
set_option Elab.async false
set_option maxRecDepth 100000
set_option linter.all false
namespace My
open PySem L2
/-- a name drawn from a list that isn't empty -/
def okA (ns : List Str) (a : Ex × Ex) : Prop := (a.1.okN ns ∧ a.1.depth ≤ 3 ∧ a.1.parts.length ≤ 13) ∧ (a.2.okN ns ∧ a.2.depth ≤ 3 ∧ a.2.parts.length ≤ 13)
def altD (a : Ex × Ex) : PyData := .tuple [a.1.dat, a.2.dat]
theorem altD_tp (a : Ex × Ex) : Tp (altD a) := .tup fun d h => by
  simp at h
  rcases h with rfl | rfl
  · exact a.1.tp
  · exact a.2.tp
def spAlts (K : PySem.W.Frag) : Sp := fun vs H Q _ => ∃ (d l nl : Addr) (ns : List Str) (many : Int), vs = [.ref d, .ref nl, .int many] ∧ Deal H d l ∧ Nms H d l nl ns ∧ 1 ≤ many ∧ many ≤ 4 ∧
  ∀ (v : V) (as : List (Ex × Ex)) (H' : Hp), Deal H' d l → Ext d l H H' → Dp K H' v (.tuple (as.map altD)) → (as.length : Int) = many → (∀ a ∈ as, okA ns a) → Q v H'
def spRoot : Sp := fun vs H Q _ => ∃ (ways many : Int), vs = [.int ways, .int many] ∧ 1 ≤ ways ∧ ways ≤ 1000 ∧ (many = 2 ∨ many = 3) ∧
  ∀ (r : Int) (H' : Hp), 1 ≤ r → r ≤ ways → (many = 2 → r * r ≤ ways) → (many = 3 → r * r * r ≤ ways) → Same H H' → Q (.int r) H'
theorem op1_mem {u : Nat} {z : Str} (h : z.cps.toList.all (fun c => decide (c ∈ opT.cps.toList)) = true) (m : u ∈ z.cps.toList) : ∃ u', (⟨#[u]⟩ : Str) = ⟨#[u']⟩ ∧ u' ∈ opT.cps.toList := ⟨u, rfl, by simpa using List.all_eq_true.mp h u m⟩
theorem sg_eq : ∃ u, ("=" : Str) = ⟨#[u]⟩ ∧ u ∈ opT.cps.toList := ⟨61, by decide +kernel, by decide +kernel⟩
theorem sg_lt : ∃ u, ("<" : Str) = ⟨#[u]⟩ ∧ u ∈ opT.cps.toList := ⟨60, by decide +kernel, by decide +kernel⟩
theorem sg_or : ∃ u, ("|" : Str) = ⟨#[u]⟩ ∧ u ∈ opT.cps.toList := ⟨124, by decide +kernel, by decide +kernel⟩
theorem sg_pl : ∃ u, ("+" : Str) = ⟨#[u]⟩ ∧ u ∈ opT.cps.toList := ⟨43, by decide +kernel, by decide +kernel⟩
section
variable {P : Program} {w : World} {K : PySem.W.Frag} {mg : Str → Option Value} {base : Heap}
set_option maxHeartbeats 4000000 in
theorem ok_test {f : Addr} {fd : FuncData} (F : Fun K "_law_test" "_law_test" s_L_test f fd) (Z : Zb mg) (G_L_draw : FnIn P w K mg base 1 "_law_draw" ps_L_draw spDraw)
    (G_L_expr : FnIn P w K mg base 5 "_law_expr" ps_L_expr (spExpr K 3)) : FnOk P w K mg base CX0 6 f fd ps_L_test (spTest K) := by
  refine F.ok sc_L_test (fun vs H Q E h => ?_) (fun cdv A outer s H vs Q E hr h => ?_)
  · obtain ⟨d, l, nl, ns, rfl, _⟩ := h
    rfl
  · obtain ⟨d, l, nl, ns, rfl, D, N, k⟩ := h
    refine ⟨_, (pss_cons (ps_if (PW.pt (pw_or (pt_cmpR op_eq (pe_callB call_len_seq (by rfl) Z.len (by decide +kernel) (pa_cons (pv 1) pa_nil)) pe_int (nomark _)) (pw_or1 (pt_cmpR op_eq (pe_fn G_L_draw hr rfl (pa_cons (pv 0) (pa_cons pe_int pa_nil))) pe_int (nomark _))))) (pss_one (ps_ret (pe_fn G_L_expr hr rfl (pa_cons (pv 0) (pa_cons (pv 1) (pa_cons pe_int pa_nil)))))) pss_nil)
      (pss_cons (ps_set (i := 2) sc_L_test.nd rfl (by first | exact Or.inl rfl | exact Or.inr rfl) (pe_tup (pa_cons pe_str (pa_cons (pe_ix ix_list (pv 1) (pe_fn G_L_draw hr rfl (pa_cons (pv 0) (pa_cons (pe_callB call_len_seq (by rfl) Z.len (by decide +kernel) (pa_cons (pv 1) pa_nil)) pa_nil))) (fun _ _ => rfl)) pa_nil))))
      (pss_cons (ps_set (i := 3) sc_L_test.nd rfl (by first | exact Or.inl rfl | exact Or.inr rfl) (pe_ix ix_list (pe_lst (pa_cons (pe_tup (pa_cons pe_str (pa_cons (pe_fn G_L_draw hr rfl (pa_cons (pv 0) (pa_cons pe_int pa_nil))) pa_nil))) (pa_cons (pe_tup (pa_cons pe_str (pa_cons (pe_ix ix_list (pv 1) (pe_fn G_L_draw hr rfl (pa_cons (pv 0) (pa_cons (pe_callB call_len_seq (by rfl) Z.len (by decide +kernel) (pa_cons (pv 1) pa_nil)) pa_nil))) (fun _ _ => rfl)) pa_nil))) pa_nil))) (pe_fn G_L_draw hr rfl (pa_cons (pv 0) (pa_cons pe_int pa_nil))) (fun _ _ => rfl)))
      (pss_one (ps_ret (pe_ix ix_list (pe_lst (pa_cons (pe_tup (pa_cons pe_str (pa_cons pe_str (pa_cons (pv 2) (pa_cons (pv 3) pa_nil))))) (pa_cons (pe_tup (pa_cons pe_str (pa_cons pe_str (pa_cons (pv 2) (pa_cons (pv 3) pa_nil))))) (pa_cons (pe_tup (pa_cons pe_str (pa_cons (pe_tup (pa_cons pe_str (pa_cons pe_str (pa_cons (pv 2) (pa_cons (pv 3) pa_nil))))) pa_nil))) (pa_cons (pe_tup (pa_cons pe_str (pa_cons pe_str (pa_cons (pv 2) (pa_cons (pv 3) pa_nil))))) pa_nil))))) (pe_fn G_L_draw hr rfl (pa_cons (pv 0) (pa_cons pe_int pa_nil))) (fun _ _ => rfl))))))), ?_⟩
    refine ⟨_, rfl, nl, _, rfl, .inl (SqL.of N.at_), rfl, _, rfl, ite2 (fun c => ?e1) (fun c => ⟨_, rfl, d, l, 5, rfl, D, by decide, by decide, fun r1 H1 r10 r11 D1 x1 => ⟨rfl, _, rfl, ite2 (fun c2 => ?e2) (fun c2 => ?rest)⟩⟩)⟩
    case e1 =>
      refine ⟨_, rfl, _, rfl, d, l, nl, ns, 2, rfl, D, N, by decide, fun v e H2 D2 x2 he oe de se => ?_⟩
      exact k v e H2 D2 x2 he oe (by omega) se
    case e2 =>
      refine ⟨_, rfl, _, rfl, d, l, nl, ns, 2, rfl, D1, N.ext x1, by decide, fun v e H2 D2 x2 he oe de se => ?_⟩
      exact k v e H2 D2 (x1.trans x2) he oe (by omega) se
    case rest =>
      have hl : 0 < ns.length := by
        have : ¬ ((ns.map V.str).length : Int) = 0 := fun e => c (decide_eq_true (by rw [e]))
        rw [List.length_map] at this
        omega
      have hf := N.few
      have N1 := N.ext x1
      -- a = ('name', names[draw(deal, len(names))])
      refine ⟨_, rfl, _, rfl, _, rfl, nl, _, rfl, .inl (SqL.of N1.at_), d, l, _, rfl, D1, by rw [List.length_map]; omega, by rw [List.length_map]; omega, fun r2 H2 r20 r21 D2 x2 => ?_⟩
      obtain ⟨y, hy, my⟩ := at_get (xs := ns.map V.str) r20 r21
      obtain ⟨z, mz, rfl⟩ := List.mem_map.mp my
      have N2 := N1.ext x2
      refine ⟨nl, _, _, _, rfl, rfl, SqL.of N2.at_, hy, (by show 2 ≤ sizeLine; decide), fun ta hta => ?_⟩
      -- b
      refine ⟨_, rfl, d, l, 4, rfl, D2.new hta, by decide, by decide, fun r3 H3 r30 r31 D3 x3 => ⟨(by show 2 ≤ sizeLine; decide), fun t1 ht1 => ?_⟩⟩
      have N3 := (N2.new (o := .tup [.str "name", .str z]) hta).ext x3
      have N3' := N3.new (o := .tup [.str "num", .int r3]) ht1
      refine ⟨_, rfl, _, rfl, _, rfl, nl, _, rfl, .inl (SqL.of N3'.at_), d, l, _, rfl, D3.new ht1, by rw [List.length_map]; omega, by rw [List.length_map]; omega, fun r4 H4 r40 r41 D4 x4 => ?_⟩
      obtain ⟨y, hy2, my⟩ := at_get (xs := ns.map V.str) r40 r41
      obtain ⟨z2, mz2, rfl⟩ := List.mem_map.mp my
      refine ⟨nl, _, _, _, rfl, rfl, SqL.of (N3'.ext x4).at_, hy2, (by show 2 ≤ sizeLine; decide), fun t2 ht2 => ⟨(by show 2 ≤ sizeLine; decide), fun q hq => ⟨_, rfl, d, l, 2, rfl, (D4.new ht2).new hq, by decide, by decide, fun r5 H5 r50 r51 D5 x5 => ?_⟩⟩⟩
      obtain ⟨nq1, nq2⟩ := (D4.new (o := .tup [.str "name", .str z2]) ht2).nn hq
      have k3 : KT (upd H2 ta (.tup [.str "name", .str z])) H3 := kt_ext x3 (D2.new hta)
      have k4 : KT (upd H3 t1 (.tup [.str "num", .int r3])) H4 := kt_ext x4 (D3.new ht1)
      have k5 := ((kt_new ht2 (.tup [.str "name", .str z2])).trans (kt_new hq (.lst [.ref t1, .ref t2]))).trans (kt_ext x5 ((D4.new ht2).new hq))
      have ea : IsE K H5 (.ref ta) (.name z) := ((((isE_name upd_same).kt k3).kt (kt_new ht1 _)).kt k4).kt k5
      have e1 : IsE K H5 (.ref t1) (.num r3) := ((isE_num upd_same).kt k4).kt k5
      have e2 : IsE K H5 (.ref t2) (.name z2) := ((isE_name upd_same).kt (kt_new hq _)).kt (kt_ext x5 ((D4.new ht2).new hq))
      have x05 := (((x1.trans x2).trans (Ext.new (o := .tup [.str "name", .str z]) hta)).trans (x3.trans (Ext.new (o := .tup [.str "num", .int r3]) ht1))).trans ((x4.trans (Ext.new (o := .tup [.str "name", .str z2]) ht2)).trans ((Ext.new (o := .lst [.ref t1, .ref t2]) hq).trans x5))
      obtain ⟨vb, hvb, mvb⟩ := at_get (xs := [V.ref t1, V.ref t2]) r50 (by show r5 < 2; omega)
      obtain ⟨eb, hb, ob, db, sb⟩ : ∃ eb, IsE K H5 vb eb ∧ eb.okN ns ∧ eb.depth = 0 ∧ eb.parts.length = 1 := by
        simp only [List.mem_cons, List.not_mem_nil, or_false] at mvb
        rcases mvb with rfl | rfl
        · exact ⟨_, e1, ⟨r30, by omega⟩, rfl, rfl⟩
        · exact ⟨_, e2, mz2, rfl, rfl⟩
      refine ⟨q, _, _, _, rfl, rfl, SqL.of (x5 q _ upd_same nq1 nq2), hvb, ?_⟩
      -- the four
      refine ⟨_, rfl, _, rfl, (by show 4 ≤ sizeLine; decide), fun u1 hu1 => ⟨_, rfl, _, rfl, (by show 4 ≤ sizeLine; decide), fun u2 hu2 => ⟨_, rfl, _, rfl, (by show 4 ≤ sizeLine; decide), fun u3 hu3 => ⟨(by show 2 ≤ sizeLine; decide), fun u4 hu4 => ⟨_, rfl, _, rfl, (by show 4 ≤ sizeLine; decide), fun u5 hu5 => ⟨(by show 4 ≤ sizeLine; decide), fun q2 hq2 => ⟨_, rfl, d, l, 4, rfl, (((((D5.new hu1).new hu2).new hu3).new hu4).new hu5).new hq2, by decide, by decide, fun r6 H6 r60 r61 D6 x6 => ?_⟩⟩⟩⟩⟩⟩⟩
      have DD := ((((D5.new (o := .tup [.str "op", .str "=", .ref ta, vb]) hu1).new (o := .tup [.str "op", .str "<", .ref ta, vb]) hu2).new (o := .tup [.str "op", .str "=", .ref ta, vb]) hu3).new (o := .tup [.str "not", .ref u3]) hu4).new (o := .tup [.str "op", .str "|", .ref ta, vb]) hu5
      obtain ⟨nn1, nn2⟩ := DD.nn hq2
      have g1 := kt_new hu1 (.tup [.str "op", .str "=", .ref ta, vb])
      have g2 := kt_new hu2 (.tup [.str "op", .str "<", .ref ta, vb])
      have g3 := kt_new hu3 (.tup [.str "op", .str "=", .ref ta, vb])
      have g4 := kt_new hu4 (.tup [.str "not", .ref u3])
      have g5 := kt_new hu5 (.tup [.str "op", .str "|", .ref ta, vb])
      have g6 := (kt_new hq2 (.lst [.ref u1, .ref u2, .ref u4, .ref u5])).trans (kt_ext x6 (DD.new hq2))
      have w1 : IsE K H6 (.ref u1) (.op "=" (.name z) eb) := ((((((isE_op upd_same (ea.kt g1) (hb.kt g1)).kt g2).kt g3).kt g4).kt g5).kt g6)
      have w2 : IsE K H6 (.ref u2) (.op "<" (.name z) eb) := (((((isE_op upd_same ((ea.kt g1).kt g2) ((hb.kt g1).kt g2)).kt g3).kt g4).kt g5).kt g6)
      have w3 : IsE K (upd (upd (upd H5 u1 (.tup [.str "op", .str "=", .ref ta, vb])) u2 (.tup [.str "op", .str "<", .ref ta, vb])) u3 (.tup [.str "op", .str "=", .ref ta, vb])) (.ref u3) (.op "=" (.name z) eb) := isE_op upd_same (((ea.kt g1).kt g2).kt g3) (((hb.kt g1).kt g2).kt g3)
      have w4 : IsE K H6 (.ref u4) (.not (.op "=" (.name z) eb)) := ((isE_not upd_same (w3.kt g4)).kt g5).kt g6
      have w5 : IsE K H6 (.ref u5) (.op "|" (.name z) eb) := (isE_op upd_same (((((ea.kt g1).kt g2).kt g3).kt g4).kt g5) (((((hb.kt g1).kt g2).kt g3).kt g4).kt g5)).kt g6
      obtain ⟨y, hy3, my⟩ := at_get (xs := [V.ref u1, V.ref u2, V.ref u4, V.ref u5]) r60 (by show r6 < 4; omega)
      refine ⟨q2, _, _, _, rfl, rfl, SqL.of (x6 q2 _ upd_same nn1 nn2), hy3, ?_⟩
      have x06 := x05.trans (((((Ext.new hu1).trans (Ext.new hu2)).trans (Ext.new hu3)).trans ((Ext.new hu4).trans (Ext.new hu5))).trans ((Ext.new hq2).trans x6))
      simp only [List.mem_cons, List.not_mem_nil, or_false] at my
      rcases my with rfl | rfl | rfl | rfl
      · exact k _ _ H6 D6 x06 w1 ⟨sg_eq, mz, ob⟩ (by simp only [Ex.depth]; omega) (by simp only [Ex.parts, List.length_cons, List.length_append, List.length_nil]; omega)
      · exact k _ _ H6 D6 x06 w2 ⟨sg_lt, mz, ob⟩ (by simp only [Ex.depth]; omega) (by simp only [Ex.parts, List.length_cons, List.length_append, List.length_nil]; omega)
      · exact k _ _ H6 D6 x06 w4 ⟨sg_eq, mz, ob⟩ (by simp only [Ex.depth]; omega) (by simp only [Ex.parts, List.length_cons, List.length_append, List.length_nil]; omega)
      · exact k _ _ H6 D6 x06 w5 ⟨sg_or, mz, ob⟩ (by simp only [Ex.depth]; omega) (by simp only [Ex.parts, List.length_cons, List.length_append, List.length_nil]; omega)
set_option maxHeartbeats 4000000 in
theorem ok_small {f : Addr} {fd : FuncData} (F : Fun K "_law_small" "_law_small" s_L_small f fd) (Z : Zb mg) (G_L_draw : FnIn P w K mg base 1 "_law_draw" ps_L_draw spDraw) : FnOk P w K mg base CX0 2 f fd ps_L_small (spTest K) := by
  refine F.ok sc_L_small (fun vs H Q E h => ?_) (fun cdv A outer s H vs Q E hr h => ?_)
  · obtain ⟨d, l, nl, ns, rfl, _⟩ := h
    rfl
  · obtain ⟨d, l, nl, ns, rfl, D, N, k⟩ := h
    refine ⟨_, (pss_cons (ps_par (i := 2) (j := 3) (by rfl) sc_L_small.nd rfl rfl (by decide) rfl rfl (pa_cons (pe_tup (pa_cons pe_str (pa_cons (pe_fn G_L_draw hr rfl (pa_cons (pv 0) (pa_cons pe_int pa_nil))) pa_nil))) (pa_cons (pe_fn G_L_draw hr rfl (pa_cons (pv 0) (pa_cons pe_int pa_nil))) pa_nil)) (by rfl))
      (pss_cons (ps_if (PW.pt (pw_or (pt_cmpR op_gt (pv 3) pe_int (nomark _)) (pw_or1 (pt_cmpR op_eq (pe_callB call_len_seq (by rfl) Z.len (by decide +kernel) (pa_cons (pv 1) pa_nil)) pe_int (nomark _))))) (pss_one (ps_ret (pv 2))) pss_nil)
      (pss_cons (ps_par (i := 4) (j := 5) (by rfl) sc_L_small.nd rfl rfl (by decide) rfl rfl (pa_cons (pe_tup (pa_cons pe_str (pa_cons (pe_ix ix_list (pv 1) (pe_fn G_L_draw hr rfl (pa_cons (pv 0) (pa_cons (pe_callB call_len_seq (by rfl) Z.len (by decide +kernel) (pa_cons (pv 1) pa_nil)) pa_nil))) (fun _ _ => rfl)) pa_nil))) (pa_cons (pe_tup (pa_cons pe_str (pa_cons (pe_fn G_L_draw hr rfl (pa_cons (pv 0) (pa_cons pe_int pa_nil))) pa_nil))) pa_nil)) (by rfl))
      (pss_one (ps_ret (pe_tup (pa_cons pe_str (pa_cons pe_str (pa_cons (pe_tup (pa_cons pe_str (pa_cons (pe_ix ix_str pe_str (pe_fn G_L_draw hr rfl (pa_cons (pv 0) (pa_cons pe_int pa_nil))) (fun _ _ => rfl)) (pa_cons (pv 4) (pa_cons (pv 5) pa_nil))))) (pa_cons (pv 2) pa_nil)))))))))), ?_⟩
    refine ⟨_, rfl, d, l, 8, rfl, D, by decide, by decide, fun r1 H1 r10 r11 D1 x1 => ⟨(by show 2 ≤ sizeLine; decide), fun tw htw => ⟨_, rfl, d, l, 4, rfl, D1.new htw, by decide, by decide, fun r2 H2 r20 r21 D2 x2 => ⟨_, _, rfl, ?_⟩⟩⟩⟩
    have ew : IsE K H2 (.ref tw) (.num r1) := (isE_num upd_same).kt (kt_ext x2 (D1.new htw))
    have x02 := x1.trans ((Ext.new (o := .tup [.str "num", .int r1]) htw).trans x2)
    have N2 := N.ext x02
    refine ⟨_, rfl, _, _, rfl, rfl, _, rfl, ite2 (fun c => ⟨_, rfl, k _ _ H2 D2 x02 ew ⟨r10, by omega⟩ (by simp [Ex.depth]) (by simp [Ex.parts])⟩) (fun c => ⟨_, rfl, nl, _, rfl, .inl (SqL.of N2.at_), rfl, _, rfl, ite2 (fun c2 => ⟨_, rfl, k _ _ H2 D2 x02 ew ⟨r10, by omega⟩ (by simp [Ex.depth]) (by simp [Ex.parts])⟩) (fun c2 => ?_)⟩)⟩
    have hl : 0 < ns.length := by
      have : ¬ ((ns.map V.str).length : Int) = 0 := fun e => c2 (decide_eq_true (by rw [e]))
      rw [List.length_map] at this
      omega
    have hf := N.few
    refine ⟨_, rfl, _, rfl, _, rfl, nl, _, rfl, .inl (SqL.of N2.at_), d, l, _, rfl, D2, by rw [List.length_map]; omega, by rw [List.length_map]; omega, fun r3 H3 r30 r31 D3 x3 => ?_⟩
    obtain ⟨y, hy, my⟩ := at_get (xs := ns.map V.str) r30 r31
    obtain ⟨z, mz, rfl⟩ := List.mem_map.mp my
    refine ⟨nl, _, _, _, rfl, rfl, SqL.of (N2.ext x3).at_, hy, (by show 2 ≤ sizeLine; decide), fun ta hta => ⟨_, rfl, d, l, 4, rfl, D3.new hta, by decide, by decide, fun r4 H4 r40 r41 D4 x4 => ⟨(by show 2 ≤ sizeLine; decide), fun tb htb => ⟨_, _, rfl, ?_⟩⟩⟩⟩
    refine ⟨_, rfl, d, l, 2, rfl, D4.new htb, by decide, by decide, fun r5 H5 r50 r51 D5 x5 => ?_⟩
    obtain ⟨u, hu, mu⟩ := at_get (xs := ("<=" : Str).cps.toList) r50 (by show r5 < 2; omega)
    refine ⟨_, _, u, rfl, rfl, by decide +kernel, hu, _, rfl, _, rfl, (by show 4 ≤ sizeLine; decide), fun t5 ht5 => ⟨_, rfl, (by show 4 ≤ sizeLine; decide), fun t6 ht6 => ?_⟩⟩
    have q3 := kt_ext x3 D2
    have q4 := kt_ext x4 (D3.new (o := .tup [.str "name", .str z]) hta)
    have q5 := kt_ext x5 (D4.new (o := .tup [.str "num", .int r4]) htb)
    have q6 := kt_new ht5 (.tup [.str "op", .str ⟨#[u]⟩, .ref ta, .ref tb])
    have q7 := kt_new ht6 (.tup [.str "op", .str "+", .ref t5, .ref tw])
    have ea : IsE K H5 (.ref ta) (.name z) := (((isE_name upd_same).kt q4).kt (kt_new htb _)).kt q5
    have eb : IsE K H5 (.ref tb) (.num r4) := (isE_num upd_same).kt q5
    have ew5 : IsE K H5 (.ref tw) (.num r1) := ((((ew.kt q3).kt (kt_new hta _)).kt q4).kt (kt_new htb _)).kt q5
    refine k (.ref t6) (.op "+" (.op ⟨#[u]⟩ (.name z) (.num r4)) (.num r1)) _ ((D5.new ht5).new ht6) ((((x02.trans x3).trans (Ext.new hta)).trans (x4.trans (Ext.new htb))).trans (x5.trans ((Ext.new ht5).trans (Ext.new ht6)))) ?_ ⟨sg_pl, ⟨op1_mem (z := "<=") (by decide +kernel) mu, mz, r40, by omega⟩, r10, by omega⟩ (by simp [Ex.depth]) (by simp [Ex.parts])
    exact isE_op upd_same ((isE_op upd_same (ea.kt q6) (eb.kt q6)).kt q7) ((ew5.kt q6).kt q7)
theorem ok_root {f : Addr} {fd : FuncData} (F : Fun K "_law_root" "_law_root" s_L_root f fd) (Z : Zb mg) : FnOk P w K mg base CX0 1 f fd ps_L_root spRoot := by
  refine F.ok sc_L_root (fun vs H Q E h => ?_) (fun cdv A outer s H vs Q E hr h => ?_)
  · obtain ⟨a, b, rfl, _⟩ := h
    rfl
  · obtain ⟨ways, many, rfl, h1, h2, hm, k⟩ := h
    refine ⟨_, (pss_one (ps_ret (pe_ix ix_list (pe_lc (own := [("_law_one", 2)]) (g := gName 2) (by rfl) sc_L_root.nd (pi_range2 (by rfl) Z.range (pa_cons pe_int (pa_cons (pe_op op_add (pv 0) pe_int) pa_nil))) (blkOk_by (own := [("_law_one", 2)]) (N := nm_L_root) (sc := defScope s_L_root) (by decide +kernel)) (fun _ _ _ _ _ => (pg_name (i := 2) sc_L_root.nd rfl (by first | exact Or.inl rfl | exact Or.inr rfl))) (fun _ _ _ _ _ => (pts_one (pt_cmpR op_le (pe_op op_mul (pe_op op_pow (pv 2) pe_int) (pe_ix (ix_listK (K := K) rfl) (pe_lst (pa_cons pe_int (pa_cons (pv 2) pa_nil))) (pe_op op_sub (pv 1) pe_int) (fun _ _ => rfl))) (pv 0) (nomark _)))) (fun _ _ _ _ _ => (pv 2))) (pe_un un_neg pe_int) (fun _ _ => rfl)))), ?_⟩
    refine ⟨_, rfl, _, _, rfl, rfl, _, _, rfl, ⟨by decide, by decide, by omega, by omega⟩, fun B hB => ?_⟩
    have en : (ways + 1 - 1).toNat = ways.toNat := by congr 1; omega
    rw [en]
    refine lc_range (lo := 1) (n := ways.toNat) (fun i H2 => Same H H2 ∧ ∃ acc : List Int, H2 B = some (.lst (acc.map V.int)) ∧ acc.length ≤ i ∧ (1 ≤ i → acc ≠ []) ∧ ∀ x ∈ acc, 1 ≤ x ∧ x ≤ ways ∧ (many = 2 → x * x ≤ ways) ∧ (many = 3 → x * x * x ≤ ways))
      ⟨same_new hB _, [], upd_same, Nat.le_refl _, by omega, by simp⟩ ?_ ?_
    · rintro i H2 hi ⟨s2, acc, a1, a2, a3, a4⟩
      have hx0 : (1 : Int) ≤ 1 + (i : Int) := by omega
      have hx1 : 1 + (i : Int) ≤ ways := by omega
      generalize hxe : 1 + (i : Int) = x at hx0 hx1
      have hsq0 : 0 ≤ x * x := Int.mul_nonneg (by omega) (by omega)
      have hsq : x * x ≤ 1000000 := by
        have := Int.mul_le_mul (show x ≤ 1000 by omega) (show x ≤ 1000 by omega) (by omega) (by decide)
        omega
      have epow : x ^ (2 : Int).toNat = x * x := by
        show x ^ 2 = x * x
        rw [Int.pow_succ, Int.pow_succ, Int.pow_zero, Int.one_mul]
      refine ⟨rfl, _, rfl, _, _, rfl, rfl, ⟨by decide, by decide, ?_⟩, _, rfl, (by show 2 ≤ sizeLine; decide), fun t ht => ?_⟩
      · show x.natAbs < 2 ^ 64
        have : x.natAbs ≤ 1000 := by omega
        exact Nat.lt_of_le_of_lt this (by decide)
      have hfac : ∃ fac : Int, atI [V.int 1, V.int x] (many - 2) = some (.int fac) ∧ (many = 2 → fac = 1) ∧ (many = 3 → fac = x) := by
        rcases hm with rfl | rfl
        · exact ⟨1, rfl, fun _ => rfl, fun z => absurd z (by decide)⟩
        · exact ⟨_, rfl, fun z => absurd z (by decide), fun _ => rfl⟩
      obtain ⟨fac, hat, f2, f3⟩ := hfac
      refine ⟨_, rfl, _, _, rfl, rfl, t, _, _, _, rfl, rfl, SqL.of upd_same, hat, _, _, rfl, rfl, .inl ⟨?_, ?_⟩, _, rfl, _, _, rfl, rfl, _, rfl, ite2 (fun c => ?_) (fun c => ?_)⟩
      · show -(2 ^ 64) < x ^ (2 : Int).toNat
        rw [epow]
        have : (0 : Int) < 2 ^ 64 := by decide
        omega
      · show x ^ (2 : Int).toNat < 2 ^ 64
        rw [epow]
        have : (1000000 : Int) < 2 ^ 64 := by decide
        omega
      · have c' : x ^ (2 : Int).toNat * fac ≤ ways := of_decide_eq_true c
        rw [epow] at c'
        have a1' : (upd H2 t (.lst [V.int 1, V.int x])) B = some (.lst (acc.map V.int)) := by rw [upd_ne (ne_of_none a1 ht)]; exact a1
        refine ⟨_, rfl, _, a1', by rw [List.length_map]; exact sz (m := 1000) (by omega), same_upd (s2.trans (same_new ht _)) hB _, acc ++ [x], by rw [upd_same]; simp, by simp; omega, fun _ => by simp, fun y hy => ?_⟩
        rcases List.mem_append.mp hy with q | q
        · exact a4 y q
        · rw [List.mem_singleton.mp q]
          exact ⟨hx0, hx1, fun z => by rw [f2 z] at c'; omega, fun z => by rw [f3 z] at c'; exact c'⟩
      · refine ⟨s2.trans (same_new ht _), acc, by rw [upd_ne (ne_of_none a1 ht)]; exact a1, by omega, fun hi1 => ?_, a4⟩
        by_cases h0 : i = 0
        · exfalso
          apply c
          refine decide_eq_true ?_
          show x ^ (2 : Int).toNat * fac ≤ ways
          have hx1' : x = 1 := by omega
          rw [epow, hx1']
          rcases hm with q | q
          · rw [f2 q]; omega
          · rw [f3 q, hx1']; omega
        · exact a3 (by omega)
    · rintro H2 ⟨s2, acc, a1, a2, a3, a4⟩
      have hne := a3 (by omega)
      obtain ⟨ys, y, rfl⟩ : ∃ ys y, acc = ys ++ [y] := ⟨acc.dropLast, acc.getLast hne, (List.dropLast_concat_getLast hne).symm⟩
      obtain ⟨y1, y2, y3, y4⟩ := a4 y (by simp)
      refine ⟨_, rfl, B, _, _, _, rfl, rfl, SqL.of a1, ?_, k y H2 y1 y2 y3 y4 s2⟩
      rw [List.map_append]
      exact atI_last _ _
end
end My
set_option Elab.async false
set_option maxRecDepth 100000
set_option linter.all false
namespace My
open PySem L2
section
variable {P : Program} {w : World} {K : PySem.W.Frag} {mg : Str → Option Value} {base : Heap}
set_option maxHeartbeats 4000000 in
theorem ok_mild {f : Addr} {fd : FuncData} (F : Fun K "_law_mild" "_law_mild" s_L_mild f fd) (Z : Zb mg) (G_L_draw : FnIn P w K mg base 1 "_law_draw" ps_L_draw spDraw)
    (G_L_test : FnIn P w K mg base 6 "_law_test" ps_L_test (spTest K)) : FnOk P w K mg base CX0 7 f fd ps_L_mild (spTest K) := by
  refine F.ok sc_L_mild (fun vs H Q E h => ?_) (fun cdv A outer s H vs Q E hr h => ?_)
  · obtain ⟨d, l, nl, ns, rfl, _⟩ := h
    rfl
  · obtain ⟨d, l, nl, ns, rfl, D, N, k⟩ := h
    refine ⟨_, (pss_cons (ps_if (PW.pt (pw_or (pt_cmpR op_eq (pe_callB call_len_seq (by rfl) Z.len (by decide +kernel) (pa_cons (pv 1) pa_nil)) pe_int (nomark _)) (pw_or1 (pt_cmpR op_eq (pe_fn G_L_draw hr rfl (pa_cons (pv 0) (pa_cons pe_int pa_nil))) pe_int (nomark _))))) (pss_one (ps_ret (pe_ifExp (pt_cmpR op_eq (pe_fn G_L_draw hr rfl (pa_cons (pv 0) (pa_cons pe_int pa_nil))) pe_int (nomark _)) (pe_fn G_L_test hr rfl (pa_cons (pv 0) (pa_cons (pv 1) pa_nil))) (pe_tup (pa_cons pe_str (pa_cons pe_int pa_nil)))))) pss_nil)
      (pss_cons (ps_par (i := 3) (j := 4) (by rfl) sc_L_mild.nd rfl rfl (by decide) rfl rfl (pa_cons (pe_tup (pa_cons pe_str (pa_cons (pe_ix ix_list (pv 1) (pe_fn G_L_draw hr rfl (pa_cons (pv 0) (pa_cons (pe_callB call_len_seq (by rfl) Z.len (by decide +kernel) (pa_cons (pv 1) pa_nil)) pa_nil))) (fun _ _ => rfl)) pa_nil))) (pa_cons (pe_fn G_L_draw hr rfl (pa_cons (pv 0) (pa_cons pe_int pa_nil))) pa_nil)) (by rfl))
      (pss_cons (ps_set (i := 2) sc_L_mild.nd rfl (by first | exact Or.inl rfl | exact Or.inr rfl) (pe_tup (pa_cons pe_str (pa_cons (pe_ix ix_list (pv 1) (pe_fn G_L_draw hr rfl (pa_cons (pv 0) (pa_cons (pe_callB call_len_seq (by rfl) Z.len (by decide +kernel) (pa_cons (pv 1) pa_nil)) pa_nil))) (fun _ _ => rfl)) pa_nil))))
      (pss_cons (ps_if (pt_cmpR op_eq (pe_fn G_L_draw hr rfl (pa_cons (pv 0) (pa_cons pe_int pa_nil))) pe_int (nomark _)) (pss_one (ps_ret (pe_tup (pa_cons pe_str (pa_cons (pe_tup (pa_cons pe_str (pa_cons pe_str (pa_cons (pv 3) (pa_cons (pe_tup (pa_cons pe_str (pa_cons (pv 4) pa_nil))) pa_nil))))) pa_nil))))) pss_nil)
      (pss_one (ps_ret (pe_tup (pa_cons pe_str (pa_cons pe_str (pa_cons (pe_tup (pa_cons pe_str (pa_cons pe_str (pa_cons (pv 3) (pa_cons (pe_tup (pa_cons pe_str (pa_cons (pe_op op_add (pv 4) pe_int) pa_nil))) pa_nil))))) (pa_cons (pe_tup (pa_cons pe_str (pa_cons (pe_ix ix_str pe_str (pe_fn G_L_draw hr rfl (pa_cons (pv 0) (pa_cons pe_int pa_nil))) (fun _ _ => rfl)) (pa_cons (pv 3) (pa_cons (pv 2) pa_nil))))) pa_nil))))))))))), ?_⟩
    refine' joinC _ (fun σ H1 => σ = [some (.ref d), some (.ref nl), none, none, none] ∧ Deal H1 d l ∧ Ext d l H H1) ?fin ?main
    case main =>
      intro fin
      refine ⟨_, rfl, nl, _, rfl, .inl (SqL.of N.at_), rfl, _, rfl, ite2 (fun c => ?e1) (fun c => ⟨_, rfl, d, l, 8, rfl, D, by decide, by decide, fun r1 H1 r10 r11 D1 x1 => ⟨rfl, _, rfl, ite2 (fun c2 => ?e2) (fun c2 => ?rest)⟩⟩)⟩
      case rest =>
        have hl : 0 < ns.length := by
          have : ¬ ((ns.map V.str).length : Int) = 0 := fun e => c (decide_eq_true (by rw [e]))
          rw [List.length_map] at this
          omega
        have hf := N.few
        have N1 := N.ext x1
        refine ⟨_, rfl, _, rfl, _, rfl, nl, _, rfl, .inl (SqL.of N1.at_), d, l, _, rfl, D1, by rw [List.length_map]; omega, by rw [List.length_map]; omega, fun r2 H2 r20 r21 D2 x2 => ?_⟩
        obtain ⟨y, hy, my⟩ := at_get (xs := ns.map V.str) r20 r21
        obtain ⟨z, mz, rfl⟩ := List.mem_map.mp my
        have N2 := N1.ext x2
        refine ⟨nl, _, _, _, rfl, rfl, SqL.of N2.at_, hy, (by show 2 ≤ sizeLine; decide), fun ta hta => ⟨_, rfl, d, l, 5, rfl, D2.new hta, by decide, by decide, fun n H3 n0 n1 D3 x3 => ⟨_, _, rfl, ?_⟩⟩⟩
        have N3 := (N2.new (o := .tup [.str "name", .str z]) hta).ext x3
        refine ⟨_, rfl, _, rfl, _, rfl, nl, _, rfl, .inl (SqL.of N3.at_), d, l, _, rfl, D3, by rw [List.length_map]; omega, by rw [List.length_map]; omega, fun r4 H4 r40 r41 D4 x4 => ?_⟩
        obtain ⟨y, hy2, my⟩ := at_get (xs := ns.map V.str) r40 r41
        obtain ⟨z2, mz2, rfl⟩ := List.mem_map.mp my
        refine ⟨nl, _, _, _, rfl, rfl, SqL.of (N3.ext x4).at_, hy2, (by show 2 ≤ sizeLine; decide), fun tb htb => ?_⟩
        have q3 := kt_ext x3 (D2.new (o := .tup [.str "name", .str z]) hta)
        have q4 := kt_ext x4 D3
        refine ⟨_, rfl, d, l, 2, rfl, D4.new htb, by decide, by decide, fun r5 H5 r50 r51 D5 x5 => ⟨rfl, _, rfl, ?_⟩⟩
        have q5 := kt_ext x5 (D4.new (o := .tup [.str "name", .str z2]) htb)
        have ea : IsE K H5 (.ref ta) (.name z) := ((((isE_name upd_same).kt q3).kt q4).kt (kt_new htb _)).kt q5
        have eb : IsE K H5 (.ref tb) (.name z2) := (isE_name upd_same).kt q5
        have x05 := (((x1.trans x2).trans (Ext.new (o := .tup [.str "name", .str z]) hta)).trans x3).trans ((x4.trans (Ext.new (o := .tup [.str "name", .str z2]) htb)).trans x5)
        refine ite2 (fun c3 => ?_) (fun c3 => ?_)
        · refine ⟨_, rfl, _, rfl, (by show 2 ≤ sizeLine; decide), fun t1 ht1 => ⟨(by show 4 ≤ sizeLine; decide), fun t2 ht2 => ⟨(by show 2 ≤ sizeLine; decide), fun t3 ht3 => ?_⟩⟩⟩
          have g1 := kt_new ht1 (.tup [.str "num", .int n])
          have g2 := kt_new ht2 (.tup [.str "op", .str "=", .ref ta, .ref t1])
          refine k (.ref t3) (.not (.op "=" (.name z) (.num n))) _ (((D5.new ht1).new ht2).new ht3) (x05.trans ((Ext.new ht1).trans ((Ext.new ht2).trans (Ext.new ht3)))) ?_ ⟨sg_eq, mz, n0, by omega⟩ (by simp [Ex.depth]) (by simp [Ex.parts])
          exact isE_not upd_same ((isE_op upd_same ((ea.kt g1).kt g2) ((isE_num upd_same).kt g2)).kt (kt_new ht3 _))
        · refine ⟨_, rfl, _, rfl, _, _, rfl, rfl, (by show 2 ≤ sizeLine; decide), fun t1 ht1 => ⟨(by show 4 ≤ sizeLine; decide), fun t2 ht2 => ⟨_, rfl, d, l, 2, rfl, (D5.new ht1).new ht2, by decide, by decide, fun r6 H6 r60 r61 D6 x6 => ?_⟩⟩⟩
          obtain ⟨u, hu, mu⟩ := at_get (xs := ("=<" : Str).cps.toList) r60 (by show r6 < 2; omega)
          refine ⟨_, _, u, rfl, rfl, by decide +kernel, hu, _, rfl, _, rfl, (by show 4 ≤ sizeLine; decide), fun t3 ht3 => ⟨(by show 4 ≤ sizeLine; decide), fun t4 ht4 => ?_⟩⟩
          have g1 := kt_new ht1 (.tup [.str "num", .int (n + 2)])
          have g2 := kt_new ht2 (.tup [.str "op", .str "<", .ref ta, .ref t1])
          have g6 := kt_ext x6 ((D5.new (o := .tup [.str "num", .int (n + 2)]) ht1).new (o := .tup [.str "op", .str "<", .ref ta, .ref t1]) ht2)
          have g3 := kt_new ht3 (.tup [.str "op", .str ⟨#[u]⟩, .ref ta, .ref tb])
          have g4 := kt_new ht4 (.tup [.str "op", .str "|", .ref t2, .ref t3])
          have w2 : IsE K H6 (.ref t2) (.op "<" (.name z) (.num (n + 2))) := (isE_op upd_same ((ea.kt g1).kt g2) ((isE_num upd_same).kt g2)).kt g6
          have ea6 := ((ea.kt g1).kt g2).kt g6
          have eb6 := ((eb.kt g1).kt g2).kt g6
          refine k (.ref t4) (.op "|" (.op "<" (.name z) (.num (n + 2))) (.op ⟨#[u]⟩ (.name z) (.name z2))) _ ((D6.new ht3).new ht4) (x05.trans (((Ext.new ht1).trans (Ext.new ht2)).trans (x6.trans ((Ext.new ht3).trans (Ext.new ht4))))) ?_ ⟨sg_or, ⟨sg_lt, mz, by omega, by omega⟩, op1_mem (z := "=<") (by decide +kernel) mu, mz, mz2⟩ (by simp [Ex.depth]) (by simp [Ex.parts])
          exact isE_op upd_same ((w2.kt g3).kt g4) ((isE_op upd_same (ea6.kt g3) (eb6.kt g3)).kt g4)
      case e1 =>
        refine iteT ?_
        exact fin _ _ ⟨rfl, D, Ext.refl H⟩
      case e2 =>
        exact fin _ _ ⟨rfl, D1, x1⟩
    case fin =>
      rintro σ H1 ⟨rfl, D1, x1⟩
      refine ⟨_, rfl, d, l, 2, rfl, D1, by decide, by decide, fun r2 H2 r20 r21 D2 x2 => ⟨rfl, _, rfl, ite2 (fun c => ?_) (fun c => ?_)⟩⟩
      · refine ⟨_, rfl, _, rfl, d, l, nl, ns, rfl, D2, N.ext (x1.trans x2), fun v e H3 D3 x3 he oe de se => ?_⟩
        exact k v e H3 D3 ((x1.trans x2).trans x3) he oe de se
      · refine ⟨(by show 2 ≤ sizeLine; decide), fun t ht => ?_⟩
        exact k (.ref t) (.num 1) _ (D2.new ht) ((x1.trans x2).trans (Ext.new ht)) (isE_num upd_same) ⟨by decide, by decide⟩ (by simp [Ex.depth]) (by simp [Ex.parts])
set_option maxHeartbeats 4000000 in
theorem ok_alts {f : Addr} {fd : FuncData} (F : Fun K "_law_alts" "_law_alts" s_L_alts f fd) (Z : Zb mg) (G_L_draw : FnIn P w K mg base 1 "_law_draw" ps_L_draw spDraw) (G_L_number : FnIn P w K mg base 2 "_law_number" ps_L_number spNum)
    (G_L_expr : FnIn P w K mg base 5 "_law_expr" ps_L_expr (spExpr K 3)) (G_L_small : FnIn P w K mg base 2 "_law_small" ps_L_small (spTest K)) : FnOk P w K mg base CX0 6 f fd ps_L_alts (spAlts K) := by
  refine F.ok sc_L_alts (fun vs H Q E h => ?_) (fun cdv A outer s H vs Q E hr h => ?_)
  · obtain ⟨d, l, nl, ns, many, rfl, _⟩ := h
    rfl
  · obtain ⟨d, l, nl, ns, many, rfl, D, N, m1, m4, k⟩ := h
    refine ⟨_, (pss_cons (ps_set (i := 3) sc_L_alts.nd rfl (by first | exact Or.inl rfl | exact Or.inr rfl) (pe_lst pa_nil))
      (pss_cons (ps_for PassesOwn.never rfl (pi_range1 (by rfl) Z.range (pa_cons (pv 2) pa_nil)) (pg_name (i := 4) sc_L_alts.nd rfl (by first | exact Or.inl rfl | exact Or.inr rfl)) (pss_cons (ps_set (i := 5) sc_L_alts.nd rfl (by first | exact Or.inl rfl | exact Or.inr rfl) (pe_ix ix_list (pe_lst (pa_cons (pe_tup (pa_cons pe_str (pa_cons (pe_fn G_L_number hr rfl (pa_cons (pv 0) pa_nil)) pa_nil))) (pa_cons (pe_tup (pa_cons pe_str (pa_cons (pv 4) pa_nil))) (pa_cons (pe_fn G_L_expr hr rfl (pa_cons (pv 0) (pa_cons (pv 1) (pa_cons pe_int pa_nil)))) pa_nil)))) (pe_fn G_L_draw hr rfl (pa_cons (pv 0) (pa_cons pe_int pa_nil))) (fun _ _ => rfl)))
      (pss_one (ps_expr (pe_bm PySem.F.plainAttrs_list PySem.F.slot_list_append PySem.F.type_list_append mt_append (pv 3) (pa_cons (pe_tup (pa_cons (pe_fn G_L_small hr rfl (pa_cons (pv 0) (pa_cons (pv 1) pa_nil))) (pa_cons (pv 5) pa_nil))) pa_nil))))))
      (pss_one (ps_ret (pe_callTy call_tuple_of (by rfl) Z.tuple (by decide +kernel) (pa_cons (pv 3) pa_nil)))))), ?_⟩
    refine ⟨(by show 0 ≤ sizeLine; decide), fun p hp => ⟨_, rfl, _, rfl, by omega, by omega, ?_⟩⟩
    obtain ⟨npd, npl⟩ := D.nn hp
    refine for_range (lo := 0) (n := many.toNat) (fun i σ H2 => ∃ v4 v5 vs as, σ = [some (.ref d), some (.ref nl), some (.int many), some (.ref p), v4, v5] ∧ Deal H2 d l ∧ Ext d l H H2 ∧ H2 p = some (.lst vs) ∧ DpAll K H2 vs (as.map altD) ∧ as.length = i ∧ ∀ a ∈ as, okA ns a)
      ⟨_, _, [], [], rfl, D.new hp, Ext.new hp, upd_same, .nil, rfl, by simp⟩ ?_ ?_
    · rintro i σ H2 hi ⟨v4, v5, vs, as, rfl, D2, x2, hp2, dp2, hl2, ok2⟩
      have N2 := N.ext x2
      -- worth
      refine ⟨_, rfl, d, l, rfl, D2, fun r1 H3 r10 r11 D3 x3 => ⟨(by show 2 ≤ sizeLine; decide), fun t1 ht1 => ⟨_, rfl, (by show 2 ≤ sizeLine; decide), fun t2 ht2 => ⟨_, rfl, _, rfl, d, l, nl, ns, 1, rfl, (D3.new ht1).new ht2, ((N2.ext x3).new ht1).new ht2, by decide, fun ve e H4 D4 x4 he oe de se => ⟨(by show 3 ≤ sizeLine; decide), fun q hq => ⟨_, rfl, d, l, 3, rfl, D4.new hq, by decide, by decide, fun r5 H5 r50 r51 D5 x5 => ?_⟩⟩⟩⟩⟩⟩
      obtain ⟨nq1, nq2⟩ := D4.nn hq
      have g2 := kt_new ht2 (.tup [.str "num", .int (0 + (i : Int))])
      have g4 := kt_ext x4 ((D3.new (o := .tup [.str "num", .int r1]) ht1).new (o := .tup [.str "num", .int (0 + (i : Int))]) ht2)
      have g5 := (kt_new hq (.lst [.ref t1, .ref t2, ve])).trans (kt_ext x5 (D4.new hq))
      have w1 : IsE K H5 (.ref t1) (.num r1) := (((isE_num upd_same).kt g2).kt g4).kt g5
      have w2 : IsE K H5 (.ref t2) (.num (0 + (i : Int))) := ((isE_num upd_same).kt g4).kt g5
      have w3 : IsE K H5 ve e := he.kt g5
      obtain ⟨vw, hvw, mvw⟩ := at_get (xs := [V.ref t1, V.ref t2, ve]) r50 (by show r5 < 3; omega)
      refine ⟨q, _, _, _, rfl, rfl, SqL.of (x5 q _ upd_same nq1 nq2), hvw, ?_⟩
      obtain ⟨ew, hew, oew, dew, sew⟩ : ∃ ew, IsE K H5 vw ew ∧ ew.okN ns ∧ ew.depth ≤ 3 ∧ ew.parts.length ≤ 13 := by
        simp only [List.mem_cons, List.not_mem_nil, or_false] at mvw
        rcases mvw with rfl | rfl | rfl
        · exact ⟨_, w1, ⟨r10, r11⟩, by simp [Ex.depth], by simp [Ex.parts]⟩
        · exact ⟨_, w2, ⟨by omega, by omega⟩, by simp [Ex.depth], by simp [Ex.parts]⟩
        · exact ⟨_, w3, oe, by omega, by simp [szf] at se; omega⟩
      have x25 := ((x3.trans (Ext.new (o := .tup [.str "num", .int r1]) ht1)).trans ((Ext.new (o := .tup [.str "num", .int (0 + (i : Int))]) ht2).trans x4)).trans ((Ext.new (o := .lst [.ref t1, .ref t2, ve]) hq).trans x5)
      have hp5 : H5 p = some (.lst vs) := x25 p _ hp2 npd npl
      -- found.append((small(deal, names), worth))
      refine ⟨_, rfl, .inl ⟨rfl, _, SqL.of hp5⟩, _, rfl, _, rfl, d, l, nl, ns, rfl, D5, N2.ext x25, fun vs' es H6 D6 x6 hes oes des ses => ⟨_, rfl, (by show 2 ≤ sizeLine; decide), fun t7 ht7 => ?_⟩⟩
      have hp6 := x6 p _ hp5 npd npl
      have hp7 : (upd H6 t7 (.tup [vs', vw])) p = some (.lst vs) := by rw [upd_ne (ne_of_none hp6 ht7)]; exact hp6
      refine ⟨p, _, _, rfl, rfl, hp7, sz (m := 4) (by rw [DpAll.len dp2, List.length_map]; omega), ?_⟩
      have g6 := kt_ext x6 D5
      have g7 := kt_new ht7 (.tup [vs', vw])
      have g8 := kt_lst hp7 (.lst (vs ++ [.ref t7]))
      have g28 := (kt_ext x25 D2).trans (g6.trans (g7.trans g8))
      refine ⟨_, _, vs ++ [.ref t7], as ++ [(es, ew)], rfl, ?_, fun b o hb hd hl => ?_, upd_same, ?_, by simp [hl2], fun a ha => ?_⟩
      · obtain ⟨b1, b2, b3, b4, b5, b6⟩ := D6.new (o := .tup [vs', vw]) ht7
        exact ⟨b1, b2, b3, by rw [upd_ne (Ne.symm npd)]; exact b4, by rw [upd_ne (Ne.symm npl)]; exact b5, b6⟩
      · rw [upd_ne (ne_of_none hb hp), upd_ne (ne_of_none (x6 b o (x25 b o (x2 b o hb hd hl) hd hl) hd hl) ht7)]
        exact x6 b o (x25 b o (x2 b o hb hd hl) hd hl) hd hl
      · rw [List.map_append]
        refine DpAll.app (Dp.ktAll g28 _ _ (fun d hd => ?_) dp2) (.cons (.tup (sqt_kt (SqT.of upd_same) g8) (.cons ((hes.kt g7).kt g8) (.cons (((hew.kt g6).kt g7).kt g8) .nil))) .nil)
        obtain ⟨a, _, rfl⟩ := List.mem_map.mp hd
        exact altD_tp a
      · rcases List.mem_append.mp ha with q | q
        · exact ok2 a q
        · rw [List.mem_singleton.mp q]
          exact ⟨⟨oes, des, ses⟩, oew, dew, sew⟩
    · rintro σ H2 ⟨v4, v5, vs, as, rfl, D2, x2, hp2, dp2, hl2, ok2⟩
      refine ⟨_, rfl, p, _, rfl, .inl ⟨SqL.of hp2, fun t ht => ?_⟩⟩
      refine k (.ref t) as _ (D2.new ht) (x2.trans (Ext.new ht)) (.tup (SqT.of upd_same) (Dp.ktAll (kt_new ht _) _ _ (fun d hd => ?_) dp2)) (by omega) ok2
      obtain ⟨a, _, rfl⟩ := List.mem_map.mp hd
      exact altD_tp a
end
end My
set_option Elab.async false
set_option maxRecDepth 100000
set_option linter.all false
namespace My
open PySem L2
mutual
inductive Sm where
  | draw (x : Str) (as : List (Ex × Ex))
  | set (x : Str) (e : Ex)
  | see (e : Ex)
  | ite (e : Ex) (one other : Bl)
  | times (k : Int) (b : Bl)
inductive Bl where
  | nil
  | cons (s : Sm) (b : Bl)
end
mutual
def Sm.dat : Sm → PyData
  | .draw x as => .tuple [.str "draw", .str x, .tuple (as.map altD)]
  | .set x e => .tuple [.str "set", .str x, e.dat]
  | .see e => .tuple [.str "see", e.dat]
  | .ite e a b => .tuple [.str "if", e.dat, .tuple a.dats, .tuple b.dats]
  | .times k b => .tuple [.str "times", .int k, .tuple b.dats]
def Bl.dats : Bl → List PyData
  | .nil => []
  | .cons s b => s.dat :: b.dats
end
def Bl.snoc : Bl → Sm → Bl
  | .nil, s => .cons s .nil
  | .cons t b, s => .cons t (b.snoc s)
def addK (ks : List Str) (x : Str) : List Str := if x ∈ ks then ks else ks ++ [x]
mutual
def Sm.after (ks : List Str) : Sm → List Str
  | .draw x _ => addK ks x
  | .set x _ => addK ks x
  | .see _ => ks
  | .ite _ a b => ks ++ (a.after ks).filter (fun x => decide (x ∈ b.after ks) && !decide (x ∈ ks))
  | .times _ b => b.after ks
def Bl.after (ks : List Str) : Bl → List Str
  | .nil => ks
  | .cons s b => b.after (s.after ks)
end
def okE (ns : List Str) (e : Ex) : Prop := e.okN ns ∧ e.depth ≤ 3 ∧ e.parts.length ≤ 13
mutual
def Sm.Ok (seen ks : List Str) : Sm → Prop
  | .draw x as => NmOk x ∧ 1 ≤ as.length ∧ as.length ≤ 4 ∧ ∀ a ∈ as, okA (seen ++ ks) a
  | .set x e => NmOk x ∧ okE (seen ++ ks) e
  | .see e => okE (seen ++ ks) e
  | .ite e a b => okE (seen ++ ks) e ∧ a.Ok seen ks ∧ b.Ok seen ks
  | .times k b => (1 ≤ k ∧ k ≤ 3) ∧ b.Ok seen ks
def Bl.Ok (seen ks : List Str) : Bl → Prop
  | .nil => True
  | .cons s b => s.Ok seen ks ∧ b.Ok seen (s.after ks)
end
mutual
def Sm.cnt : Sm → Nat
  | .draw _ _ => 1
  | .set _ _ => 1
  | .see _ => 1
  | .ite _ a b => 1 + a.cnt + b.cnt
  | .times _ b => 1 + b.cnt
def Bl.cnt : Bl → Nat
  | .nil => 0
  | .cons s b => s.cnt + b.cnt
end
mutual
def Sm.nest : Sm → Nat
  | .draw _ _ => 0
  | .set _ _ => 0
  | .see _ => 0
  | .ite _ a b => max a.nest b.nest + 1
  | .times _ b => b.nest + 1
def Bl.nest : Bl → Nat
  | .nil => 0
  | .cons s b => max s.nest b.nest
end
theorem Bl.dats_snoc : ∀ (b : Bl) (s : Sm), (b.snoc s).dats = b.dats ++ [s.dat]
  | .nil, s => by simp [Bl.snoc, Bl.dats]
  | .cons t b, s => by simp [Bl.snoc, Bl.dats, Bl.dats_snoc b s]
theorem Bl.after_snoc : ∀ (b : Bl) (s : Sm) (ks : List Str), (b.snoc s).after ks = s.after (b.after ks)
  | .nil, s, ks => by simp [Bl.snoc, Bl.after]
  | .cons t b, s, ks => by simp [Bl.snoc, Bl.after, Bl.after_snoc b s]
theorem Bl.ok_snoc : ∀ (b : Bl) (s : Sm) (seen ks : List Str), b.Ok seen ks → s.Ok seen (b.after ks) → (b.snoc s).Ok seen ks
  | .nil, s, seen, ks, _, h => by simpa [Bl.snoc, Bl.Ok, Bl.after] using h
  | .cons t b, s, seen, ks, h, h' => by
    simp only [Bl.snoc, Bl.Ok] at h ⊢
    exact ⟨h.1, Bl.ok_snoc b s seen _ h.2 (by simpa [Bl.after] using h')⟩
theorem Bl.cnt_snoc : ∀ (b : Bl) (s : Sm), (b.snoc s).cnt = b.cnt + s.cnt
  | .nil, s => by simp [Bl.snoc, Bl.cnt]
  | .cons t b, s => by simp [Bl.snoc, Bl.cnt, Bl.cnt_snoc b s, Nat.add_assoc]
theorem Bl.nest_snoc : ∀ (b : Bl) (s : Sm), (b.snoc s).nest = max b.nest s.nest
  | .nil, s => by simp [Bl.snoc, Bl.nest]
  | .cons t b, s => by simp [Bl.snoc, Bl.nest, Bl.nest_snoc b s, Nat.max_assoc]
mutual
theorem Sm.tp : ∀ s : Sm, Tp s.dat
  | .draw x as => by
    simp only [Sm.dat]
    refine .tup fun d h => ?_
    simp only [List.mem_cons, List.not_mem_nil, or_false] at h
    rcases h with rfl | rfl | rfl
    · constructor
    · constructor
    · exact .tup fun d hd => by
        obtain ⟨a, _, rfl⟩ := List.mem_map.mp hd
        exact altD_tp a
  | .set x e => by
    simp only [Sm.dat]
    refine .tup fun d h => ?_
    simp only [List.mem_cons, List.not_mem_nil, or_false] at h
    rcases h with rfl | rfl | rfl
    · constructor
    · constructor
    · exact e.tp
  | .see e => by
    simp only [Sm.dat]
    refine .tup fun d h => ?_
    simp only [List.mem_cons, List.not_mem_nil, or_false] at h
    rcases h with rfl | rfl
    · constructor
    · exact e.tp
  | .ite e a b => by
    simp only [Sm.dat]
    refine .tup fun d h => ?_
    simp only [List.mem_cons, List.not_mem_nil, or_false] at h
    rcases h with rfl | rfl | rfl | rfl
    · constructor
    · exact e.tp
    · exact .tup (Bl.tp a)
    · exact .tup (Bl.tp b)
  | .times k b => by
    simp only [Sm.dat]
    refine .tup fun d h => ?_
    simp only [List.mem_cons, List.not_mem_nil, or_false] at h
    rcases h with rfl | rfl | rfl
    · constructor
    · constructor
    · exact .tup (Bl.tp b)
theorem Bl.tp : ∀ (b : Bl), ∀ d ∈ b.dats, Tp d
  | .nil, d, h => by simp [Bl.dats] at h
  | .cons s b, d, h => by
    simp only [Bl.dats, List.mem_cons] at h
    rcases h with rfl | h
    · exact Sm.tp s
    · exact Bl.tp b d h
end
theorem addK_ok {ks : List Str} {x : Str} (h : ∀ y ∈ ks, NmOk y) (hx : NmOk x) : ∀ y ∈ addK ks x, NmOk y := fun y hy => by
  unfold addK at hy
  split at hy
  · exact h y hy
  · rcases List.mem_append.mp hy with q | q
    · exact h y q
    · rw [List.mem_singleton.mp q]; exact hx
theorem addK_len (ks : List Str) (x : Str) : (addK ks x).length ≤ ks.length + 1 := by
  unfold addK
  split <;> simp
def worldKV (wl ul sl : Addr) : List (Key × V) := [(Sum.inr "words", .ref wl), (Sum.inr "unknowns", .ref ul), (Sum.inr "seen", .ref sl)]
theorem kw_ws : ¬ (Sum.inr ("words" : Str) : Key) = Sum.inr ("seen" : Str) := by decide +kernel
theorem kw_us : ¬ (Sum.inr ("unknowns" : Str) : Key) = Sum.inr ("seen" : Str) := by decide +kernel
theorem wv_w {wl ul sl : Addr} : valV (worldKV wl ul sl) (Sum.inr "words") = some (.ref wl) := valV_pos rfl
theorem wv_s {wl ul sl : Addr} : valV (worldKV wl ul sl) (Sum.inr "seen") = some (.ref sl) := (valV_neg kw_ws).trans ((valV_neg kw_us).trans (valV_pos rfl))
theorem gw_words {H : Hp} {wd wl ul sl : Addr} (h : H wd = some (.dK (worldKV wl ul sl))) : DGet H wd (.str "words") (some (.ref wl)) := .inl ⟨_, Sum.inr "words", .inl h, rfl, wv_w.symm⟩
theorem gw_seen {H : Hp} {wd wl ul sl : Addr} (h : H wd = some (.dK (worldKV wl ul sl))) : DGet H wd (.str "seen") (some (.ref sl)) := .inl ⟨_, Sum.inr "seen", .inl h, rfl, wv_s.symm⟩
structure Apart (d l wd wl sl kn rm : Addr) : Prop where
  dl : d ≠ l
  dw : wd ≠ d
  dk : kn ≠ d
  dr : rm ≠ d
  lw : wd ≠ l
  lwl : wl ≠ l
  lsl : sl ≠ l
  lk : kn ≠ l
  lr : rm ≠ l
  kw : wd ≠ kn
  kwl : wl ≠ kn
  ksl : sl ≠ kn
  kr : rm ≠ kn
  rw' : wd ≠ rm
  rwl : wl ≠ rm
  rsl : sl ≠ rm
  wld : wl ≠ d
  sld : sl ≠ d
structure Envb (H : Hp) (d l wd wl sl kn rm : Addr) (ws seen ks : List Str) (w0 w1 w2 : Int) : Prop where
  D : Deal H d l
  ap : Apart d l wd wl sl kn rm
  wd_ : ∃ ul, H wd = some (.dK (worldKV wl ul sl))
  wl_ : H wl = some (.lst (ws.map V.str))
  sl_ : H sl = some (.lst (seen.map V.str))
  kn_ : H kn = some (.lst (ks.map V.str))
  rm_ : H rm = some (.lst [.int w0, .int w1, .int w2])
  ow : ∀ x ∈ ws, NmOk x
  os : ∀ x ∈ seen, NmOk x
  ok : ∀ x ∈ ks, NmOk x
  lw : 14 ≤ ws.length
  lw2 : ws.length ≤ 100
  ls : seen.length ≤ 100
  b0 : 1 ≤ w0 ∧ w0 ≤ 1000
  b1 : 0 ≤ w1 ∧ w1 ≤ 100
  b2 : 0 ≤ w2 ∧ w2 ≤ 100
  lk : (ks.length : Int) + w2 ≤ 100
def X4 (d l kn rm : Addr) (H H' : Hp) : Prop := ∀ b o, H b = some o → b ≠ d → b ≠ l → b ≠ kn → b ≠ rm → H' b = some o
section
variable {d l wd wl sl kn rm p : Addr} {ws seen ks : List Str} {w0 w1 w2 : Int} {H H' H2 : Hp}
theorem X4.refl : X4 d l kn rm H H := fun _ _ h _ _ _ _ => h
theorem X4.trans (a : X4 d l kn rm H H') (b : X4 d l kn rm H' H2) : X4 d l kn rm H H2 := fun c o h h1 h2 h3 h4 => b c o (a c o h h1 h2 h3 h4) h1 h2 h3 h4
theorem x4_ext (x : Ext d l H H') : X4 d l kn rm H H' := fun b o h h1 h2 _ _ => x b o h h1 h2
theorem x4_same (x : Same H H') : X4 d l kn rm H H' := fun b o h _ _ _ _ => x b o h
theorem x4_new {o : HO} (h : H p = none) : X4 d l kn rm H (upd H p o) := x4_same (same_new h o)
theorem x4_kn {o : HO} : X4 d l kn rm H (upd H kn o) := fun b u h _ _ h3 _ => by rw [upd_ne h3]; exact h
theorem x4_rm {o : HO} : X4 d l kn rm H (upd H rm o) := fun b u h _ _ _ h4 => by rw [upd_ne h4]; exact h
theorem kt_x4 (x : X4 d l kn rm H H') (E : Envb H d l wd wl sl kn rm ws seen ks w0 w1 w2) : KT H H' := fun b xs h => by
  obtain ⟨s, n, ls, h1, h2, _⟩ := E.D
  have h3 := E.kn_
  have h4 := E.rm_
  rcases h with h | ⟨o, h⟩
  · exact .inl (x b _ h (ne_of h h1 (by intro z; cases z)) (ne_of h h2 (by intro z; cases z)) (ne_of h h3 (by intro z; cases z)) (ne_of h h4 (by intro z; cases z)))
  · exact .inr ⟨o, x b _ h (ne_of h h1 (by intro z; cases z)) (ne_of h h2 (by intro z; cases z)) (ne_of h h3 (by intro z; cases z)) (ne_of h h4 (by intro z; cases z))⟩
theorem Envb.ext (E : Envb H d l wd wl sl kn rm ws seen ks w0 w1 w2) (D' : Deal H' d l) (x : Ext d l H H') : Envb H' d l wd wl sl kn rm ws seen ks w0 w1 w2 :=
  let A := E.ap
  ⟨D', A, let ⟨ul, h⟩ := E.wd_; ⟨ul, x _ _ h A.dw A.lw⟩, x _ _ E.wl_ A.wld A.lwl, x _ _ E.sl_ A.sld A.lsl, x _ _ E.kn_ A.dk A.lk, x _ _ E.rm_ A.dr A.lr, E.ow, E.os, E.ok, E.lw, E.lw2, E.ls, E.b0, E.b1, E.b2, E.lk⟩
theorem Envb.same (E : Envb H d l wd wl sl kn rm ws seen ks w0 w1 w2) (x : Same H H') : Envb H' d l wd wl sl kn rm ws seen ks w0 w1 w2 := E.ext (E.D.same x) (Ext.ofSame x)
theorem Envb.new {o : HO} (E : Envb H d l wd wl sl kn rm ws seen ks w0 w1 w2) (h : H p = none) : Envb (upd H p o) d l wd wl sl kn rm ws seen ks w0 w1 w2 := E.same (same_new h o)
theorem Envb.room {v0 v1 v2 : Int} (E : Envb H d l wd wl sl kn rm ws seen ks w0 w1 w2) (b0 : 1 ≤ v0 ∧ v0 ≤ 1000) (b1 : 0 ≤ v1 ∧ v1 ≤ 100) (b2 : 0 ≤ v2 ∧ v2 ≤ 100) (lk : (ks.length : Int) + v2 ≤ 100) :
    Envb (upd H rm (.lst [.int v0, .int v1, .int v2])) d l wd wl sl kn rm ws seen ks v0 v1 v2 := by
  have A := E.ap
  obtain ⟨s, n, ls, h1, h2, h3⟩ := E.D
  exact ⟨⟨s, n, ls, by rw [upd_ne (Ne.symm A.dr)]; exact h1, by rw [upd_ne (Ne.symm A.lr)]; exact h2, h3⟩, A, let ⟨ul, h⟩ := E.wd_; ⟨ul, by rw [upd_ne A.rw']; exact h⟩, by rw [upd_ne A.rwl]; exact E.wl_, by rw [upd_ne A.rsl]; exact E.sl_, by rw [upd_ne (Ne.symm A.kr)]; exact E.kn_, upd_same, E.ow, E.os, E.ok, E.lw, E.lw2, E.ls, b0, b1, b2, lk⟩
theorem Envb.know {ks' : List Str} (E : Envb H d l wd wl sl kn rm ws seen ks w0 w1 w2) (ok : ∀ x ∈ ks', NmOk x) (lk : (ks'.length : Int) + w2 ≤ 100) :
    Envb (upd H kn (.lst (ks'.map V.str))) d l wd wl sl kn rm ws seen ks' w0 w1 w2 := by
  have A := E.ap
  obtain ⟨s, n, ls, h1, h2, h3⟩ := E.D
  exact ⟨⟨s, n, ls, by rw [upd_ne (Ne.symm A.dk)]; exact h1, by rw [upd_ne (Ne.symm A.lk)]; exact h2, h3⟩, A, let ⟨ul, h⟩ := E.wd_; ⟨ul, by rw [upd_ne A.kw]; exact h⟩, by rw [upd_ne A.kwl]; exact E.wl_, by rw [upd_ne A.ksl]; exact E.sl_, upd_same, by rw [upd_ne A.kr]; exact E.rm_, E.ow, E.os, ok, E.lw, E.lw2, E.ls, E.b0, E.b1, E.b2, lk⟩
end
def BPost (K : PySem.W.Frag) (H : Hp) (d l wd wl sl kn rm : Addr) (ws seen ks : List Str) (w0 w1 w2 deep : Int) (Q : VK) : Prop :=
  ∀ (v : V) (b : Bl) (ks' : List Str) (v0 v1 v2 : Int) (H' : Hp), Envb H' d l wd wl sl kn rm ws seen ks' v0 v1 v2 → X4 d l kn rm H H' → Dp K H' v (.tuple b.dats) → b.Ok seen ks → b.after ks = ks' → (b.cnt : Int) + v2 ≤ w2 →
    (ks'.length : Int) + v2 ≤ ks.length + w2 → v0 ≤ w0 → v1 ≤ w1 → (b.nest : Int) + deep ≤ 3 → Q v H'
def SPost (K : PySem.W.Frag) (H : Hp) (d l wd wl sl kn rm : Addr) (ws seen ks : List Str) (w0 w1 w2 deep : Int) (Q : VK) : Prop :=
  ∀ (v : V) (s : Sm) (ks' : List Str) (v0 v1 v2 : Int) (H' : Hp), Envb H' d l wd wl sl kn rm ws seen ks' v0 v1 v2 → X4 d l kn rm H H' → Dp K H' v s.dat → s.Ok seen ks → s.after ks = ks' → (s.cnt : Int) + v2 ≤ w2 + 1 →
    (ks'.length : Int) + v2 ≤ ks.length + w2 + 1 → v0 ≤ w0 → v1 ≤ w1 → (s.nest : Int) + deep ≤ 3 → Q v H'
def spBlock (K : PySem.W.Frag) (n : Nat) : Sp := fun vs H Q _ => ∃ (d l wd wl sl kn rm : Addr) (ws seen ks : List Str) (w0 w1 w2 deep : Int), vs = [.ref d, .ref wd, .ref kn, .ref rm, .int deep] ∧ Envb H d l wd wl sl kn rm ws seen ks w0 w1 w2 ∧ 0 ≤ deep ∧ deep ≤ 3 ∧ 4 ≤ deep + n ∧
  BPost K H d l wd wl sl kn rm ws seen ks w0 w1 w2 deep Q
def spStmt (K : PySem.W.Frag) (n : Nat) (top : Int) : Sp := fun vs H Q _ => ∃ (d l wd wl sl kn rm : Addr) (ws seen ks : List Str) (w0 w1 w2 deep : Int), vs = [.ref d, .ref wd, .ref kn, .ref rm, .int deep] ∧ Envb H d l wd wl sl kn rm ws seen ks w0 w1 w2 ∧ (ks.length : Int) + w2 ≤ 99 ∧ 0 ≤ deep ∧ deep ≤ top ∧ 4 ≤ deep + n ∧
  SPost K H d l wd wl sl kn rm ws seen ks w0 w1 w2 deep Q
section
variable {P : Program} {w : World} {K : PySem.W.Frag} {mg : Str → Option Value} {base : Heap}
set_option maxHeartbeats 4000000 in
theorem ok_block {f : Addr} {fd : FuncData} (n : Nat) (F : Fun K "_law_block" "_law_block" s_L_block f fd) (Z : Zb mg) (G_L_draw : FnIn P w K mg base 1 "_law_draw" ps_L_draw spDraw)
    (G_L_statement : FnIn P w K mg base (3 * n + 8) "_law_statement" ps_L_statement (spStmt K n 3)) : FnOk P w K mg base CX0 (3 * n + 9) f fd ps_L_block (spBlock K n) := by
  refine F.ok sc_L_block (fun vs H Q E h => ?_) (fun cdv A outer s H vs Q E hr h => ?_)
  · obtain ⟨d, l, wd, wl, sl, kn, rm, ws, seen, ks, w0, w1, w2, deep, rfl, _⟩ := h
    rfl
  · obtain ⟨d, l, wd, wl, sl, kn, rm, ws, seen, ks, w0, w1, w2, deep, rfl, EE, d0, d3, dn, k⟩ := h
    refine ⟨_, (pss_cons (ps_set (i := 5) sc_L_block.nd rfl (by first | exact Or.inl rfl | exact Or.inr rfl) (pe_lst pa_nil))
      (pss_cons (ps_set (i := 6) sc_L_block.nd rfl (by first | exact Or.inl rfl | exact Or.inr rfl) (pe_ix ix_list (pe_lst (pa_cons (pe_op op_add (pe_fn G_L_draw hr rfl (pa_cons (pv 0) (pa_cons pe_int pa_nil))) (pe_callTy call_int1 (by rfl) Z.int (by decide +kernel) (pa_cons (pe_cmpR op_eq (pv 4) pe_int (nomark _)) pa_nil))) (pa_cons pe_int pa_nil))) (pe_callTy call_int1 (by rfl) Z.int (by decide +kernel) (pa_cons (pe_cmpR op_eq (pe_fn G_L_draw hr rfl (pa_cons (pv 0) (pa_cons pe_int pa_nil))) pe_int (nomark _)) pa_nil)) (fun _ _ => rfl)))
      (pss_cons (ps_for PassesOwn.never rfl (pi_range1 (by rfl) Z.range (pa_cons (pv 6) pa_nil)) (pg_name (i := 7) sc_L_block.nd rfl (by first | exact Or.inl rfl | exact Or.inr rfl)) (pss_one (ps_if (pt_cmpR op_gt (pe_ix ix_list (pv 3) pe_int (fun _ _ => rfl)) pe_int (nomark _)) (pss_cons (ps_asg (pe_op op_sub (pe_ix ix_list (pv 3) pe_int (fun _ _ => rfl)) pe_int) (pg_sub (pv 3) pe_int set_list))
      (pss_one (ps_expr (pe_bm PySem.F.plainAttrs_list PySem.F.slot_list_append PySem.F.type_list_append mt_append (pv 5) (pa_cons (pe_fn G_L_statement hr rfl (pa_cons (pv 0) (pa_cons (pv 1) (pa_cons (pv 2) (pa_cons (pv 3) (pa_cons (pv 4) pa_nil)))))) pa_nil))))) pss_nil)))
      (pss_one (ps_ret (pe_callTy call_tuple_of (by rfl) Z.tuple (by decide +kernel) (pa_cons (pv 5) pa_nil))))))), ?_⟩
    -- found = []
    refine ⟨(by show 0 ≤ sizeLine; decide), fun p hp => ?_⟩
    -- many
    refine ⟨_, rfl, d, l, 4, rfl, (EE.new hp).D, by decide, by decide, fun r1 H1 r10 r11 D1 x1 => ⟨_, rfl, rfl, .inr ⟨_, rfl, _, _, rfl, rfl, (by show 2 ≤ sizeLine; decide), fun q hq => ⟨_, rfl, d, l, 8, rfl, D1.new hq, by decide, by decide, fun r2 H2 r20 r21 D2 x2 => ⟨rfl, .inr ⟨_, rfl, ?_⟩⟩⟩⟩⟩⟩
    obtain ⟨nq1, nq2⟩ := D1.nn hq
    obtain ⟨y, hy, my⟩ := at_get (xs := [V.int (r1 + (if decide (V.int deep = V.int 0) = true then 1 else 0)), V.int 9]) (r := if decide (V.int r2 = V.int 0) = true then 1 else 0) (by split <;> omega) (by show _ < (2 : Int); split <;> omega)
    obtain ⟨many, rfl, m0, m1⟩ : ∃ m, y = .int m ∧ 0 ≤ m ∧ m ≤ 9 := by
      simp only [List.mem_cons, List.not_mem_nil, or_false] at my
      rcases my with rfl | rfl
      · exact ⟨_, rfl, by split <;> omega, by split <;> omega⟩
      · exact ⟨_, rfl, by decide, by decide⟩
    refine ⟨q, _, _, _, rfl, rfl, SqL.of (x2 q _ upd_same nq1 nq2), hy, ?_⟩
    refine ⟨_, rfl, _, rfl, by omega, by omega, ?_⟩
    have E1 := (EE.new (o := .lst []) hp).ext D1 x1
    have E2 := (E1.new hq).ext D2 x2
    have X2 : X4 d l kn rm H H2 := ((x4_new hp).trans (x4_ext x1)).trans ((x4_new hq).trans (x4_ext x2))
    obtain ⟨npd, npl⟩ := EE.D.nn hp
    have npk : p ≠ kn := fun e => by rw [e, EE.kn_] at hp; cases hp
    have npr : p ≠ rm := fun e => by rw [e, EE.rm_] at hp; cases hp
    have npq : p ≠ q := ne_of_none (x1 _ _ upd_same npd npl) hq
    have P2 : H2 p = some (.lst []) := x2 _ _ (by rw [upd_ne npq]; exact x1 _ _ upd_same npd npl) npd npl
    refine for_range (lo := 0) (n := many.toNat) (fun i σ H3 => ∃ v7 vs b ks' v0 v1 v2, σ = [some (.ref d), some (.ref wd), some (.ref kn), some (.ref rm), some (.int deep), some (.ref p), some (.int many), v7] ∧ Envb H3 d l wd wl sl kn rm ws seen ks' v0 v1 v2 ∧ X4 d l kn rm H H3 ∧ H3 p = some (.lst vs) ∧ DpAll K H3 vs (Bl.dats b) ∧ b.Ok seen ks ∧ b.after ks = ks' ∧
        (b.cnt : Int) + v2 ≤ w2 ∧ (ks'.length : Int) + v2 ≤ ks.length + w2 ∧ v0 ≤ w0 ∧ v1 ≤ w1 ∧ (b.nest : Int) + deep ≤ 3 ∧ vs.length ≤ i)
      ⟨_, [], .nil, ks, w0, w1, w2, rfl, E2, X2, P2, by simp only [Bl.dats]; exact .nil, by simp [Bl.Ok], by simp [Bl.after], by simp [Bl.cnt], Int.le_refl _, Int.le_refl _, Int.le_refl _, by simp [Bl.nest]; omega, Nat.le_refl _⟩ ?_ ?_
    · rintro i σ H3 hi ⟨v7, vs, b, ks', v0, v1, v2, rfl, E3, X3, P3, dp3, ok3, af3, c3, l3, z0, z1, ns3, hl3⟩
      refine ⟨_, rfl, rm, _, _, _, rfl, rfl, SqL.of E3.rm_, rfl, _, _, rfl, rfl, _, rfl, ite2 (fun c => ?_) (fun c => ?_)⟩
      · have c' : 0 < v2 := of_decide_eq_true c
        refine ⟨_, rfl, rm, _, _, _, rfl, rfl, SqL.of E3.rm_, rfl, _, _, rfl, rfl, _, rfl, rm, _, _, 2, rfl, rfl, E3.rm_, rfl, ?_⟩
        have E4 : Envb (upd H3 rm (.lst [.int v0, .int v1, .int (v2 - 1)])) d l wd wl sl kn rm ws seen ks' v0 v1 (v2 - 1) := E3.room E3.b0 E3.b1 ⟨by omega, by have := E3.b2; omega⟩ (by have := E3.lk; omega)
        have P4 : (upd H3 rm (.lst [.int v0, .int v1, .int (v2 - 1)])) p = some (.lst vs) := by rw [upd_ne npr]; exact P3
        refine ⟨_, rfl, .inl ⟨rfl, _, SqL.of P4⟩, _, rfl, _, rfl, _, rfl, _, rfl, _, rfl, d, l, wd, wl, sl, kn, rm, ws, seen, ks', v0, v1, v2 - 1, deep, rfl, E4, by have := E3.lk; omega, d0, d3, dn, fun v st ks'' u0 u1 u2 H5 E5 X5 dp5 ok5 af5 c5 l5 y0 y1 ns5 => ?_⟩
        have P5 := X5 p _ P4 npd npl npk npr
        have g5 := kt_x4 X5 E4
        have g6 := kt_lst P5 (.lst (vs ++ [v]))
        have g36 := ((kt_lst E3.rm_ (.lst [.int v0, .int v1, .int (v2 - 1)])).trans g5).trans g6
        refine ⟨p, _, _, rfl, rfl, P5, sz (m := 9) (by omega), ?_⟩
        have E6 : Envb (upd H5 p (.lst (vs ++ [v]))) d l wd wl sl kn rm ws seen ks'' u0 u1 u2 := by
          have A := E5.ap
          obtain ⟨s', n', ls', h1, h2, h3⟩ := E5.D
          obtain ⟨ul, hul⟩ := E5.wd_
          have nw : wd ≠ p := fun e => by obtain ⟨_, q⟩ := EE.wd_; rw [← e, q] at hp; cases hp
          have nwl : wl ≠ p := fun e => by have q := EE.wl_; rw [e, hp] at q; cases q
          have nsl : sl ≠ p := fun e => by have q := EE.sl_; rw [e, hp] at q; cases q
          exact ⟨⟨s', n', ls', by rw [upd_ne (Ne.symm npd)]; exact h1, by rw [upd_ne (Ne.symm npl)]; exact h2, h3⟩, A, ⟨ul, by rw [upd_ne nw]; exact hul⟩, by rw [upd_ne nwl]; exact E5.wl_, by rw [upd_ne nsl]; exact E5.sl_, by rw [upd_ne (Ne.symm npk)]; exact E5.kn_, by rw [upd_ne (Ne.symm npr)]; exact E5.rm_, E5.ow, E5.os, E5.ok, E5.lw, E5.lw2, E5.ls, E5.b0, E5.b1, E5.b2, E5.lk⟩
        refine ⟨_, vs ++ [v], b.snoc st, ks'', u0, u1, u2, rfl, E6, fun c o hc h1 h2 h3 h4 => ?_, upd_same, ?_, Bl.ok_snoc b st seen ks ok3 (by rw [af3]; exact ok5), by rw [Bl.after_snoc, af3]; exact af5, by rw [Bl.cnt_snoc]; omega, by omega, by omega, by omega, by rw [Bl.nest_snoc]; omega, by simp; omega⟩
        · rw [upd_ne (ne_of_none hc hp)]
          exact X5 c o (by rw [upd_ne h4]; exact X3 c o hc h1 h2 h3 h4) h1 h2 h3 h4
        · rw [Bl.dats_snoc]
          exact DpAll.app (Dp.ktAll g36 _ _ b.tp dp3) (.cons (Dp.kt g6 _ _ st.tp dp5) .nil)
      · exact ⟨_, vs, b, ks', v0, v1, v2, rfl, E3, X3, P3, dp3, ok3, af3, c3, l3, z0, z1, ns3, by omega⟩
    · rintro σ H3 ⟨v7, vs, b, ks', v0, v1, v2, rfl, E3, X3, P3, dp3, ok3, af3, c3, l3, z0, z1, ns3, hl3⟩
      refine ⟨_, rfl, p, _, rfl, .inl ⟨SqL.of P3, fun t ht => ?_⟩⟩
      exact k (.ref t) b ks' v0 v1 v2 _ (E3.new ht) (X3.trans (x4_new ht)) (.tup (SqT.of upd_same) (Dp.ktAll (kt_new ht _) _ _ b.tp dp3)) ok3 af3 c3 l3 z0 z1 ns3
end
end My
set_option Elab.async false
set_option maxRecDepth 100000
set_option linter.all false
namespace My
open PySem L2
theorem inV_str (x : Str) (l : List Str) : inV (.str x) (l.map V.str) = decide (x ∈ l) := by
  unfold inV
  rw [List.any_map]
  induction l with
  | nil => rfl
  | cons y r ih =>
    rw [List.any_cons, ih]
    show (y == x || decide (x ∈ r)) = decide (x ∈ y :: r)
    by_cases h : y = x
    · subst h; simp
    · have h' : ¬ x = y := fun e => h e.symm
      simp [h, h']
theorem flat_strs (l : List Str) : (l.map V.str).all flatV = true := by
  rw [List.all_map, List.all_eq_true]
  exact fun _ _ => rfl
section
variable {d l wd wl sl kn rm : Addr} {ws seen ks : List Str} {w0 w1 w2 : Int} {H : Hp}
theorem addK_rd (ks : List Str) (x : Str) : ks.map V.str ++ (List.replicate (if (if true = true then !inV (V.str x) (ks.map V.str) else inV (V.str x) (ks.map V.str)) = true then (1 : Int) else 0).toNat [V.str x]).flatten = (addK ks x).map V.str := by
  rw [if_pos rfl, inV_str]
  unfold addK
  by_cases h : x ∈ ks
  · simp [h]
  · simp [h]
theorem know_rd {K : PySem.W.Frag} {σ : St} {x : Str} {Q : VK} (h2 : σ[2]? = some (some (.ref kn))) (h5 : σ[5]? = some (some (.str x))) (E : Envb H d l wd wl sl kn rm ws seen ks w0 w1 w2) (hx : NmOk x) (lk : (ks.length : Int) + w2 ≤ 99)
    (k : ∀ H', Envb H' d l wd wl sl kn rm ws seen (addK ks x) w0 w1 w2 → X4 d l kn rm H H' → KT H H' → Q .non H') :
    (tBM K "list" rExtend (tVar 2) (tCons (tOp rRep (tLst (tCons (tVar 5) tNil)) (tCB (fun xs H Q => (∃ i, xs = [V.int i] ∧ Q (V.int i) H) ∨ ∃ k, xs = [V.bl k] ∧ Q (V.int (if k = true then 1 else 0)) H) (tCons (tOp (rIn K true) (tVar 5) (tVar 2)) tNil))) tNil)) σ H Q := by
  refine ⟨_, h2, .inl ⟨rfl, _, SqL.of E.kn_⟩, _, h5, (by show 1 ≤ sizeLine; decide), fun q hq => ?_⟩
  have E1 := E.new (o := .lst [.str x]) hq
  have i01 : ∀ b : Bool, -(2 ^ 63) ≤ (if b = true then (1 : Int) else 0) ∧ (if b = true then (1 : Int) else 0) < 2 ^ 63 ∧ 1 * (if b = true then (1 : Int) else 0).toNat ≤ sizeLine := by decide
  refine ⟨_, h5, _, h2, kn, _, rfl, .inl (SqL.of E1.kn_), rfl, flat_strs _, .inr ⟨_, rfl, q, _, _, rfl, rfl, upd_same, (i01 _).1, (i01 _).2.1, (i01 _).2.2, fun p hp => ?_⟩⟩
  have E2 := E1.new (o := .lst (List.replicate (if (if true = true then !inV (V.str x) (ks.map V.str) else inV (V.str x) (ks.map V.str)) = true then (1 : Int) else 0).toNat [V.str x]).flatten) hp
  have hl := addK_len ks x
  have b2 := E.b2
  refine ⟨kn, p, _, _, rfl, rfl, E2.kn_, upd_same, ?_, ?_⟩
  · have := congrArg List.length (addK_rd ks x)
    rw [List.length_append, List.length_map, List.length_map] at this
    rw [List.length_map, this]
    exact szl (m := 1000) (by omega)
  · rw [addK_rd]
    exact k _ (E2.know (addK_ok E.ok hx) (by omega)) (((x4_new hq).trans (x4_new hp)).trans x4_kn) (((kt_new hq _).trans (kt_new hp _)).trans (kt_lst E2.kn_ _))
end
section
variable {P : Program} {w : World} {K : PySem.W.Frag} {mg : Str → Option Value} {base : Heap}
set_option maxHeartbeats 4000000 in
theorem ok_statement {f : Addr} {fd : FuncData} (n : Nat) (F : Fun K "_law_statement" "_law_statement" s_L_statement f fd) (Z : Zb mg) (G_L_draw : FnIn P w K mg base 1 "_law_draw" ps_L_draw spDraw)
    (G_L_expr : FnIn P w K mg base 5 "_law_expr" ps_L_expr (spExpr K 3)) (G_L_mild : FnIn P w K mg base 7 "_law_mild" ps_L_mild (spTest K)) (G_L_alts : FnIn P w K mg base 6 "_law_alts" ps_L_alts (spAlts K))
    (G_L_if : FnIn P w K mg base (3 * n + 7) "_law_if" ps_L_if (spStmt K n 2)) (G_L_times : FnIn P w K mg base (3 * n + 7) "_law_times" ps_L_times (spStmt K n 2)) :
    FnOk P w K mg base CX0 (3 * n + 8) f fd ps_L_statement (spStmt K n 3) := by
  refine F.ok sc_L_statement (fun vs H Q E h => ?_) (fun cdv A outer s H vs Q E hr h => ?_)
  · obtain ⟨d, l, wd, wl, sl, kn, rm, ws, seen, ks, w0, w1, w2, deep, rfl, _⟩ := h
    rfl
  · obtain ⟨d, l, wd, wl, sl, kn, rm, ws, seen, ks, w0, w1, w2, deep, rfl, EE, lk99, d0, d3, dn, k⟩ := h
    have hu := hu_of hr
    have b0 := EE.b0
    have b1 := EE.b1
    have b2 := EE.b2
    refine ⟨_, (pss_cons (ps_par (i := 8) (j := 9) (by rfl) sc_L_statement.nd rfl rfl (by decide) rfl rfl (pa_cons (pe_op op_cat (pe_dget hu (pv 1) pe_str (fun _ _ => rfl)) (pv 2)) (pa_cons (pe_fn G_L_draw hr rfl (pa_cons (pv 0) (pa_cons pe_int pa_nil))) pa_nil)) (by rfl))
      (pss_cons (ps_set (i := 5) sc_L_statement.nd rfl (by first | exact Or.inl rfl | exact Or.inr rfl) (pe_ix ix_list (pe_dget hu (pv 1) pe_str (fun _ _ => rfl)) (pe_op op_add pe_int (pe_fn G_L_draw hr rfl (pa_cons (pv 0) (pa_cons pe_int pa_nil)))) (fun _ _ => rfl)))
      (pss_cons (ps_set (i := 6) sc_L_statement.nd rfl (by first | exact Or.inl rfl | exact Or.inr rfl) (pe_ix ix_list (pe_lst (pa_cons pe_int (pa_cons pe_int (pa_cons pe_int (pa_cons pe_int (pa_cons pe_int pa_nil)))))) (pe_fn G_L_draw hr rfl (pa_cons (pv 0) (pa_cons pe_int pa_nil))) (fun _ _ => rfl)))
      (pss_cons (ps_if (PW.pt (pw_and (pt_cmpR op_lt (pv 9) pe_int (nomark _)) (pw_and (pt_cmpR op_ge (pe_ix ix_list (pv 3) pe_int (fun _ _ => rfl)) (pv 6) (nomark _)) (pw_and1 (pt_cmpR op_gt (pe_ix ix_list (pv 3) pe_int (fun _ _ => rfl)) pe_int (nomark _)))))) (pss_cons (ps_asg (pe_tup (pa_cons (pe_op op_fdiv (pe_ix ix_list (pv 3) pe_int (fun _ _ => rfl)) (pv 6)) (pa_cons (pe_op op_sub (pe_ix ix_list (pv 3) pe_int (fun _ _ => rfl)) pe_int) pa_nil))) (pg_tup rfl (pgs_cons (pg_sub (pv 3) pe_int set_list) (pgs_cons (pg_sub (pv 3) pe_int set_list) pgs_nil))))
      (pss_cons (ps_set (i := 10) sc_L_statement.nd rfl (by first | exact Or.inl rfl | exact Or.inr rfl) (pe_fn G_L_alts hr rfl (pa_cons (pv 0) (pa_cons (pv 8) (pa_cons (pv 6) pa_nil)))))
      (pss_cons (ps_expr (pe_bm PySem.F.plainAttrs_list PySem.F.slot_list_extend PySem.F.type_list_extend mt_extend (pv 2) (pa_cons (pe_op op_rep (pe_lst (pa_cons (pv 5) pa_nil)) (pe_callTy call_int1 (by rfl) Z.int (by decide +kernel) (pa_cons (pe_cmpR op_notIn_seq (pv 5) (pv 2) (by rfl)) pa_nil))) pa_nil)))
      (pss_one (ps_ret (pe_tup (pa_cons pe_str (pa_cons (pv 5) (pa_cons (pv 10) pa_nil))))))))) pss_nil)
      (pss_cons (ps_if (pt_cmpR op_in_seq (pv 9) (pe_tup (pa_cons pe_int (pa_cons pe_int pa_nil))) (by rfl)) (pss_one (ps_ret (pe_tup (pa_cons pe_str (pa_cons (pe_fn G_L_mild hr rfl (pa_cons (pv 0) (pa_cons (pv 8) pa_nil))) pa_nil))))) pss_nil)
      (pss_cons (ps_if (PW.pt (pw_and (pt_cmpR op_in_seq (pv 9) (pe_tup (pa_cons pe_int (pa_cons pe_int pa_nil))) (by rfl)) (pw_and1 (pt_cmpR op_lt (pv 4) pe_int (nomark _))))) (pss_one (ps_ret (pe_fn G_L_if hr rfl (pa_cons (pv 0) (pa_cons (pv 1) (pa_cons (pv 2) (pa_cons (pv 3) (pa_cons (pv 4) pa_nil)))))))) pss_nil)
      (pss_cons (ps_if (PW.pt (pw_and (pt_cmpR op_eq (pv 9) pe_int (nomark _)) (pw_and1 (pt_cmpR op_lt (pv 4) pe_int (nomark _))))) (pss_one (ps_ret (pe_fn G_L_times hr rfl (pa_cons (pv 0) (pa_cons (pv 1) (pa_cons (pv 2) (pa_cons (pv 3) (pa_cons (pv 4) pa_nil)))))))) pss_nil)
      (pss_cons (ps_set (i := 7) sc_L_statement.nd rfl (by first | exact Or.inl rfl | exact Or.inr rfl) (pe_fn G_L_expr hr rfl (pa_cons (pv 0) (pa_cons (pv 8) (pa_cons pe_int pa_nil)))))
      (pss_cons (ps_expr (pe_bm PySem.F.plainAttrs_list PySem.F.slot_list_extend PySem.F.type_list_extend mt_extend (pv 2) (pa_cons (pe_op op_rep (pe_lst (pa_cons (pv 5) pa_nil)) (pe_callTy call_int1 (by rfl) Z.int (by decide +kernel) (pa_cons (pe_cmpR op_notIn_seq (pv 5) (pv 2) (by rfl)) pa_nil))) pa_nil)))
      (pss_one (ps_ret (pe_tup (pa_cons pe_str (pa_cons (pv 5) (pa_cons (pv 7) pa_nil))))))))))))))), ?_⟩
    obtain ⟨ul, hw⟩ := EE.wd_
    -- names, form
    refine ⟨_, rfl, wd, _, rfl, gw_seen hw, _, rfl, sl, kn, _, _, rfl, rfl, EE.sl_, EE.kn_, by rw [List.length_map, List.length_map]; exact szl (m := 1000) (by have := EE.ls; have := EE.lk; omega), fun nl hnl => ⟨_, rfl, d, l, 12, rfl, (EE.new hnl).D, by decide, by decide, fun form H1 f0 f1 D1 x1 => ⟨_, _, rfl, ?_⟩⟩⟩
    have E1 := (EE.new (o := .lst (seen.map V.str ++ ks.map V.str)) hnl).ext D1 x1
    obtain ⟨nn1, nn2⟩ := EE.D.nn hnl
    have N1 : Nms H1 d l nl (seen ++ ks) := ⟨by rw [x1 nl _ upd_same nn1 nn2, List.map_append], nn1, nn2, fun x hx => (List.mem_append.mp hx).elim (EE.os x) (EE.ok x), by have := EE.ls; have := EE.lk; rw [List.length_append]; omega⟩
    have nnk : nl ≠ kn := fun e => by rw [e, EE.kn_] at hnl; cases hnl
    have nnr : nl ≠ rm := fun e => by rw [e, EE.rm_] at hnl; cases hnl
    have X1 : X4 d l kn rm H H1 := (x4_new hnl).trans (x4_ext x1)
    obtain ⟨ul1, hw1⟩ := E1.wd_
    -- x
    refine ⟨_, rfl, wd, _, rfl, gw_words hw1, _, rfl, d, l, 8, rfl, D1, by decide, by decide, fun r2 H2 r20 r21 D2 x2 => ⟨_, _, rfl, rfl, ?_⟩⟩
    have E2 := E1.ext D2 x2
    have hlw := EE.lw
    obtain ⟨y, hy, my⟩ := at_get (xs := ws.map V.str) (r := 6 + r2) (by omega) (by rw [List.length_map]; omega)
    obtain ⟨x, mx, rfl⟩ := List.mem_map.mp my
    have hx := EE.ow x mx
    refine ⟨wl, _, _, _, rfl, rfl, SqL.of E2.wl_, hy, ?_⟩
    -- many
    refine ⟨(by show 5 ≤ sizeLine; decide), fun q hq => ⟨_, rfl, d, l, 5, rfl, D2.new hq, by decide, by decide, fun r3 H3 r30 r31 D3 x3 => ?_⟩⟩
    obtain ⟨nq1, nq2⟩ := D2.nn hq
    obtain ⟨y, hy3, my3⟩ := at_get (xs := [V.int 1, V.int 2, V.int 2, V.int 3, V.int 4]) (r := r3) r30 (by show r3 < 5; omega)
    obtain ⟨many, rfl, m1, m4⟩ : ∃ m, y = .int m ∧ 1 ≤ m ∧ m ≤ 4 := by
      simp only [List.mem_cons, List.not_mem_nil, or_false] at my3
      rcases my3 with rfl | rfl | rfl | rfl | rfl <;> exact ⟨_, rfl, by decide, by decide⟩
    refine ⟨q, _, _, _, rfl, rfl, SqL.of (x3 q _ upd_same nq1 nq2), hy3, ?_⟩
    have E3 := (E2.new (o := .lst [V.int 1, V.int 2, V.int 2, V.int 3, V.int 4]) hq).ext D3 x3
    have X3 : X4 d l kn rm H H3 := (X1.trans (x4_ext x2)).trans ((x4_new hq).trans (x4_ext x3))
    have N3 := ((N1.ext x2).new (o := .lst [V.int 1, V.int 2, V.int 2, V.int 3, V.int 4]) hq).ext x3
    -- draw?
    refine' joinC _ (fun σ H' => σ = [some (.ref d), some (.ref wd), some (.ref kn), some (.ref rm), some (.int deep), some (.str x), some (.int many), none, some (.ref nl), some (.int form), none] ∧ H' = H3) ?fin ?main
    case main =>
      intro fin
      refine ⟨_, rfl, _, _, rfl, rfl, _, rfl, ite2 (fun c1 => ⟨_, rfl, rm, _, _, _, rfl, rfl, SqL.of E3.rm_, rfl, _, rfl, _, _, rfl, rfl, _, rfl, ite2 (fun c2 => ⟨_, rfl, rm, _, _, _, rfl, rfl, SqL.of E3.rm_, rfl, _, _, rfl, rfl, _, rfl, ite2 (fun c3 => ?drw) (fun c3 => ?n1)⟩) (fun c2 => iteF ?n2)⟩) (fun c1 => iteF ?n3)⟩
      case n1 => exact fin _ _ ⟨rfl, rfl⟩
      case n2 => exact fin _ _ ⟨rfl, rfl⟩
      case n3 => exact fin _ _ ⟨rfl, rfl⟩
      have c2' : many ≤ w0 := of_decide_eq_true c2
      have c3' : 0 < w1 := of_decide_eq_true c3
      refine ⟨_, rfl, rm, _, _, _, rfl, rfl, SqL.of E3.rm_, rfl, _, rfl, _, _, rfl, rfl, ⟨by omega, by omega⟩, _, rfl, rm, _, _, _, rfl, rfl, SqL.of E3.rm_, rfl, _, _, rfl, rfl, (by show 2 ≤ sizeLine; decide), fun t ht => ?_⟩
      have E4 := E3.new (o := .tup [.int (w0 / many), .int (w1 - 1)]) ht
      have hdiv1 : 1 ≤ w0 / many := by
        rw [Int.le_ediv_iff_mul_le (by omega)]
        omega
      have hdiv2 : w0 / many ≤ w0 := Int.ediv_le_self _ (by omega)
      refine ⟨t, _, rfl, SqT.of upd_same, rfl, _, _, rfl, _, rfl, rm, _, _, 0, rfl, rfl, E4.rm_, rfl, _, _, rfl, _, rfl, rm, _, _, 1, rfl, rfl, upd_same, rfl, rfl, ?_⟩
      have E5 := E4.room (v0 := w0 / many) (v1 := w1) (v2 := w2) ⟨hdiv1, by omega⟩ b1 b2 EE.lk
      have E6 := E5.room (v0 := w0 / many) (v1 := w1 - 1) (v2 := w2) ⟨hdiv1, by omega⟩ ⟨by omega, by omega⟩ b2 EE.lk
      have N6 : Nms (upd (upd (upd H3 t (.tup [.int (w0 / many), .int (w1 - 1)])) rm (.lst [.int (w0 / many), .int w1, .int w2])) rm (.lst [.int (w0 / many), .int (w1 - 1), .int w2])) d l nl (seen ++ ks) := by
        have N4 := N3.new (o := .tup [.int (w0 / many), .int (w1 - 1)]) ht
        exact ⟨by rw [upd_ne nnr, upd_ne nnr]; exact N4.at_, N3.nd, N3.nl, N3.ok, N3.few⟩
      refine ⟨_, rfl, _, rfl, _, rfl, d, l, nl, _, many, rfl, E6.D, N6, m1, m4, fun v as H7 D7 x7 dp7 hl7 ok7 => ?_⟩
      have E7 := E6.ext D7 x7
      refine know_rd (x := x) rfl rfl E7 hx lk99 fun H8 E8 X8 K8 => ?_
      refine ⟨_, rfl, _, rfl, (by show 3 ≤ sizeLine; decide), fun t9 ht9 => ?_⟩
      have g9 := kt_new ht9 (.tup [.str "draw", .str x, v])
      have hak := addK_len ks x
      refine k (.ref t9) (.draw x as) _ _ _ _ _ (E8.new ht9) ?_ ?_ ⟨hx, by omega, by omega, ok7⟩ rfl (by show (1 : Int) + w2 ≤ w2 + 1; omega) (by omega) hdiv2 (by omega) (by show (0 : Int) + deep ≤ 3; omega)
      · exact X3.trans ((x4_new ht).trans (x4_rm.trans (x4_rm.trans ((x4_ext x7).trans (X8.trans (x4_new ht9))))))
      · exact .tup (SqT.of upd_same) (.cons (.str _) (.cons (.str _) (.cons (Dp.kt (K8.trans g9) _ _ (.tup fun d hd => by obtain ⟨a, _, rfl⟩ := List.mem_map.mp hd; exact altD_tp a) dp7) .nil)))
    case fin =>
    rintro σ H' ⟨rfl, rfl⟩
    -- see?
    refine ⟨_, rfl, (by show 2 ≤ sizeLine; decide), fun t4 ht4 => ⟨t4, _, rfl, .inr (SqT.of upd_same), rfl, rfl, _, rfl, ite2 (fun c => ?see) (fun c => ?nosee)⟩⟩
    case see =>
      refine ⟨_, rfl, _, rfl, d, l, nl, _, rfl, D3.new ht4, N3.new ht4, fun v e H5 D5 x5 he oe de se => ⟨(by show 2 ≤ sizeLine; decide), fun t6 ht6 => ?_⟩⟩
      refine k (.ref t6) (.see e) ks w0 w1 w2 _ (((E3.new ht4).ext D5 x5).new ht6) ?_ ?_ ⟨oe, de, se⟩ rfl (by show (1 : Int) + w2 ≤ w2 + 1; omega) (by omega) (Int.le_refl _) (Int.le_refl _) (by show (0 : Int) + deep ≤ 3; omega)
      · exact X3.trans ((x4_new ht4).trans ((x4_ext x5).trans (x4_new ht6)))
      · exact .tup (SqT.of upd_same) (.cons (.str _) (.cons (he.kt (kt_new ht6 _)) .nil))
    case nosee =>
    refine' joinC _ (fun σ H' => σ = [some (.ref d), some (.ref wd), some (.ref kn), some (.ref rm), some (.int deep), some (.str x), some (.int many), none, some (.ref nl), some (.int form), none] ∧ Envb H' d l wd wl sl kn rm ws seen ks w0 w1 w2 ∧ X4 d l kn rm H H' ∧ Nms H' d l nl (seen ++ ks)) ?fin2 ?main2
    case main2 =>
      intro fin
      refine ⟨_, rfl, (by show 2 ≤ sizeLine; decide), fun t5 ht5 => ?_⟩
      have E5 := (E3.new (o := .tup [V.int 5, V.int 6]) ht4).new (o := .tup [V.int 7, V.int 8]) ht5
      have X5 := X3.trans ((x4_new (o := .tup [V.int 5, V.int 6]) ht4).trans (x4_new (o := .tup [V.int 7, V.int 8]) ht5))
      have N5 := (N3.new (o := .tup [V.int 5, V.int 6]) ht4).new (o := .tup [V.int 7, V.int 8]) ht5
      refine ⟨t5, _, rfl, .inr (SqT.of upd_same), rfl, rfl, _, rfl, ite2 (fun c => ⟨_, rfl, _, _, rfl, rfl, _, rfl, ite2 (fun c2 => ?if_) (fun c2 => ?n1)⟩) (fun c => iteF ?n2)⟩
      case n1 => exact fin _ _ ⟨rfl, E5, X5, N5⟩
      case n2 => exact fin _ _ ⟨rfl, E5, X5, N5⟩
      case if_ =>
        have c2' : deep < 3 := of_decide_eq_true c2
        exact ⟨_, rfl, _, rfl, _, rfl, _, rfl, _, rfl, d, l, wd, wl, sl, kn, rm, ws, seen, ks, w0, w1, w2, deep, rfl, E5, lk99, d0, by omega, dn, fun v st ks' v0 v1 v2 H' E' X' dp ok af c l y0 y1 ns => k v st ks' v0 v1 v2 H' E' (X5.trans X') dp ok af c l y0 y1 ns⟩
    case fin2 =>
    rintro σ H5 ⟨rfl, E5, X5, N5⟩
    refine' joinC _ (fun σ H' => σ = [some (.ref d), some (.ref wd), some (.ref kn), some (.ref rm), some (.int deep), some (.str x), some (.int many), none, some (.ref nl), some (.int form), none] ∧ H' = H5) ?fin3 ?main3
    case main3 =>
      intro fin
      refine ⟨_, rfl, rfl, _, rfl, ite2 (fun c => ⟨_, rfl, _, _, rfl, rfl, _, rfl, ite2 (fun c2 => ?tm_) (fun c2 => ?n1)⟩) (fun c => iteF ?n2)⟩
      case n1 => exact fin _ _ ⟨rfl, rfl⟩
      case n2 => exact fin _ _ ⟨rfl, rfl⟩
      case tm_ =>
        have c2' : deep < 3 := of_decide_eq_true c2
        exact ⟨_, rfl, _, rfl, _, rfl, _, rfl, _, rfl, d, l, wd, wl, sl, kn, rm, ws, seen, ks, w0, w1, w2, deep, rfl, E5, lk99, d0, by omega, dn, fun v st ks' v0 v1 v2 H' E' X' dp ok af c l y0 y1 ns => k v st ks' v0 v1 v2 H' E' (X5.trans X') dp ok af c l y0 y1 ns⟩
    case fin3 =>
    rintro σ H' ⟨rfl, rfl⟩
    refine ⟨_, rfl, _, rfl, d, l, nl, _, 2, rfl, E5.D, N5, by decide, fun v e H6 D6 x6 he oe de se => ?_⟩
    have E6 := E5.ext D6 x6
    refine know_rd (x := x) rfl rfl E6 hx lk99 fun H8 E8 X8 K8 => ?_
    refine ⟨_, rfl, _, rfl, (by show 3 ≤ sizeLine; decide), fun t9 ht9 => ?_⟩
    have hak := addK_len ks x
    refine k (.ref t9) (.set x e) _ _ _ _ _ (E8.new ht9) ?_ ?_ ⟨hx, oe, by omega, se⟩ rfl (by show (1 : Int) + w2 ≤ w2 + 1; omega) (by omega) (Int.le_refl _) (Int.le_refl _) (by show (0 : Int) + deep ≤ 3; omega)
    · exact X5.trans ((x4_ext x6).trans (X8.trans (x4_new ht9)))
    · exact .tup (SqT.of upd_same) (.cons (.str _) (.cons (.str _) (.cons (he.kt (K8.trans (kt_new ht9 _))) .nil)))
end
end My
set_option Elab.async false
set_option maxRecDepth 100000
set_option linter.all false
namespace My
open PySem L2
theorem tif_rd {c : TT} {a b : TE} {σ : St} {H : Hp} {Q : VK} (R : V → Hp → Prop) (hq : ∀ v H', R v H' → Q v H') (h : ∀ Q' : VK, (∀ v H', R v H' → Q' v H') → tIf c a b σ H Q') : tIf c a b σ H Q := h Q hq
section
variable {d l wd wl sl kn rm p q : Addr} {ws seen ks ks' : List Str} {w0 w1 w2 v0 v1 v2 : Int} {H H' H2 : Hp}
theorem Envb.inner (E : Envb H d l wd wl sl kn rm ws seen ks w0 w1 w2) (hp : H p = none) (b0 : 1 ≤ v0 ∧ v0 ≤ 1000) (b1 : 0 ≤ v1 ∧ v1 ≤ 100) (b2 : 0 ≤ v2 ∧ v2 ≤ 100) (lk : (ks.length : Int) + v2 ≤ 100) :
    Envb (upd H p (.lst [.int v0, .int v1, .int v2])) d l wd wl sl kn p ws seen ks v0 v1 v2 := by
  have A := E.ap
  obtain ⟨s, n, ls, h1, h2, h3⟩ := E.D
  obtain ⟨ul, hw⟩ := E.wd_
  have e1 := ne_of_none h1 hp
  have e2 := ne_of_none h2 hp
  have e3 := ne_of_none hw hp
  have e4 := ne_of_none E.wl_ hp
  have e5 := ne_of_none E.sl_ hp
  have e6 := ne_of_none E.kn_ hp
  exact ⟨⟨s, n, ls, by rw [upd_ne e1]; exact h1, by rw [upd_ne e2]; exact h2, h3⟩, ⟨A.dl, A.dw, A.dk, Ne.symm e1, A.lw, A.lwl, A.lsl, A.lk, Ne.symm e2, A.kw, A.kwl, A.ksl, Ne.symm e6, e3, e4, e5, A.wld, A.sld⟩, ⟨ul, by rw [upd_ne e3]; exact hw⟩, by rw [upd_ne e4]; exact E.wl_, by rw [upd_ne e5]; exact E.sl_, by rw [upd_ne e6]; exact E.kn_, upd_same, E.ow, E.os, E.ok, E.lw, E.lw2, E.ls, b0, b1, b2, lk⟩
theorem Envb.own (E : Envb H d l wd wl sl kn rm ws seen ks w0 w1 w2) (hp : H p = none) :
    Envb (upd H p (.lst (ks.map V.str))) d l wd wl sl p rm ws seen ks w0 w1 w2 := by
  have A := E.ap
  obtain ⟨s, n, ls, h1, h2, h3⟩ := E.D
  obtain ⟨ul, hw⟩ := E.wd_
  have e1 := ne_of_none h1 hp
  have e2 := ne_of_none h2 hp
  have e3 := ne_of_none hw hp
  have e4 := ne_of_none E.wl_ hp
  have e5 := ne_of_none E.sl_ hp
  have e6 := ne_of_none E.rm_ hp
  exact ⟨⟨s, n, ls, by rw [upd_ne e1]; exact h1, by rw [upd_ne e2]; exact h2, h3⟩, ⟨A.dl, A.dw, Ne.symm e1, A.dr, A.lw, A.lwl, A.lsl, Ne.symm e2, A.lr, e3, e4, e5, e6, A.rw', A.rwl, A.rsl, A.wld, A.sld⟩, ⟨ul, by rw [upd_ne e3]; exact hw⟩, by rw [upd_ne e4]; exact E.wl_, by rw [upd_ne e5]; exact E.sl_, upd_same, by rw [upd_ne e6]; exact E.rm_, E.ow, E.os, E.ok, E.lw, E.lw2, E.ls, E.b0, E.b1, E.b2, E.lk⟩
theorem Envb.back (E : Envb H d l wd wl sl q p ws seen ks w0 w1 w2) (A : Apart d l wd wl sl kn rm) (hk : H kn = some (.lst (ks'.map V.str))) (ok : ∀ x ∈ ks', NmOk x) (b0 : 1 ≤ v0 ∧ v0 ≤ 1000) (b1 : 0 ≤ v1 ∧ v1 ≤ 100) (b2 : 0 ≤ v2 ∧ v2 ≤ 100) (lk : (ks'.length : Int) + v2 ≤ 100) :
    Envb (upd H rm (.lst [.int v0, .int v1, .int v2])) d l wd wl sl kn rm ws seen ks' v0 v1 v2 := by
  obtain ⟨s, n, ls, h1, h2, h3⟩ := E.D
  exact ⟨⟨s, n, ls, by rw [upd_ne (Ne.symm A.dr)]; exact h1, by rw [upd_ne (Ne.symm A.lr)]; exact h2, h3⟩, A, let ⟨ul, h⟩ := E.wd_; ⟨ul, by rw [upd_ne A.rw']; exact h⟩, by rw [upd_ne A.rwl]; exact E.wl_, by rw [upd_ne A.rsl]; exact E.sl_, by rw [upd_ne (Ne.symm A.kr)]; exact hk, upd_same, E.ow, E.os, ok, E.lw, E.lw2, E.ls, b0, b1, b2, lk⟩
end
section
variable {P : Program} {w : World} {K : PySem.W.Frag} {mg : Str → Option Value} {base : Heap}
set_option maxHeartbeats 4000000 in
theorem ok_times {f : Addr} {fd : FuncData} (n : Nat) (F : Fun K "_law_times" "_law_times" s_L_times f fd) (Z : Zb mg) (G_L_draw : FnIn P w K mg base 1 "_law_draw" ps_L_draw spDraw) (G_L_root : FnIn P w K mg base 1 "_law_root" ps_L_root spRoot)
    (G_L_block : FnIn P w K mg base (3 * n + 9) "_law_block" ps_L_block (spBlock K n)) :
    FnOk P w K mg base CX0 (3 * (n + 1) + 7) f fd ps_L_times (spStmt K (n + 1) 2) := by
  refine F.ok sc_L_times (fun vs H Q E h => ?_) (fun cdv A outer s H vs Q E hr h => ?_)
  · obtain ⟨d, l, wd, wl, sl, kn, rm, ws, seen, ks, w0, w1, w2, deep, rfl, _⟩ := h
    rfl
  · obtain ⟨d, l, wd, wl, sl, kn, rm, ws, seen, ks, w0, w1, w2, deep, rfl, EE, lk99, d0, d3, dn, k⟩ := h
    have hu := hu_of hr
    have b0 := EE.b0
    have b1 := EE.b1
    have b2 := EE.b2
    refine ⟨_, (pss_cons (ps_set (i := 5) sc_L_times.nd rfl (by first | exact Or.inl rfl | exact Or.inr rfl) (pe_op op_add pe_int (pe_fn G_L_draw hr rfl (pa_cons (pv 0) (pa_cons pe_int pa_nil)))))
      (pss_cons (ps_set (i := 6) sc_L_times.nd rfl (by first | exact Or.inl rfl | exact Or.inr rfl) (pe_lst (pa_cons (pe_ifExp (pt_cmpR op_eq (pv 5) pe_int (nomark _)) (pe_ix ix_list (pv 3) pe_int (fun _ _ => rfl)) (pe_fn G_L_root hr rfl (pa_cons (pe_ix ix_list (pv 3) pe_int (fun _ _ => rfl)) (pa_cons (pv 5) pa_nil)))) (pa_cons (pe_op op_fdiv (pe_ix ix_list (pv 3) pe_int (fun _ _ => rfl)) (pv 5)) (pa_cons (pe_callB (call_min2 rfl) (by rfl) Z.min (by decide +kernel) (pa_cons pe_int (pa_cons (pe_ix ix_list (pv 3) pe_int (fun _ _ => rfl)) pa_nil))) pa_nil)))))
      (pss_cons (ps_par (i := 9) (j := 10) (by rfl) sc_L_times.nd rfl rfl (by decide) rfl rfl (pa_cons (pe_ix ix_list (pv 6) pe_int (fun _ _ => rfl)) (pa_cons (pe_ix ix_list (pv 6) pe_int (fun _ _ => rfl)) pa_nil)) (by rfl))
      (pss_cons (ps_set (i := 7) sc_L_times.nd rfl (by first | exact Or.inl rfl | exact Or.inr rfl) (pe_fn G_L_block hr rfl (pa_cons (pv 0) (pa_cons (pv 1) (pa_cons (pv 2) (pa_cons (pv 6) (pa_cons (pe_op op_add (pv 4) pe_int) pa_nil)))))))
      (pss_cons (ps_asg (pe_op op_sub (pe_ix ix_list (pv 3) pe_int (fun _ _ => rfl)) (pe_op op_sub (pv 10) (pe_ix ix_list (pv 6) pe_int (fun _ _ => rfl)))) (pg_sub (pv 3) pe_int set_list))
      (pss_cons (ps_for PassesOwn.never rfl (pi_range1 (by rfl) Z.range (pa_cons (pv 5) pa_nil)) (pg_name (i := 8) sc_L_times.nd rfl (by first | exact Or.inl rfl | exact Or.inr rfl)) (pss_one (ps_asg (pe_callB (call_max2 rfl) (by rfl) Z.max (by decide +kernel) (pa_cons pe_int (pa_cons (pe_op op_fdiv (pe_ix ix_list (pv 3) pe_int (fun _ _ => rfl)) (pe_callB (call_max2 rfl) (by rfl) Z.max (by decide +kernel) (pa_cons pe_int (pa_cons (pe_op op_fdiv (pv 9) (pe_callB (call_max2 rfl) (by rfl) Z.max (by decide +kernel) (pa_cons pe_int (pa_cons (pe_ix ix_list (pv 6) pe_int (fun _ _ => rfl)) pa_nil)))) pa_nil)))) pa_nil))) (pg_sub (pv 3) pe_int set_list))))
      (pss_cons (ps_asg (pe_op op_mul (pe_ix ix_list (pv 6) pe_int (fun _ _ => rfl)) (pv 5)) (pg_sub (pv 3) pe_int set_list))
      (pss_one (ps_ret (pe_tup (pa_cons pe_str (pa_cons (pv 5) (pa_cons (pv 7) pa_nil))))))))))))), ?_⟩
    refine ⟨_, rfl, d, l, 3, rfl, EE.D, by decide, by decide, fun r H1 r0 r1 D1 x1 => ⟨_, _, rfl, rfl, ?_⟩⟩
    obtain ⟨many, em⟩ : ∃ m, m = 1 + r := ⟨_, rfl⟩
    show gName 5 (V.int (1 + r)) _ _ _
    rw [← em]
    have m1 : 1 ≤ many := by omega
    have m3 : many ≤ 3 := by omega
    clear em
    have E1 := EE.ext D1 x1
    have X1 : X4 d l kn rm H H1 := x4_ext x1
    dsimp only [gName, tSeq, tAsg, tLst, tCons]
    refine tif_rd (fun v H' => ∃ u0, v = .int u0 ∧ 1 ≤ u0 ∧ u0 ≤ w0 ∧ Envb H' d l wd wl sl kn rm ws seen ks w0 w1 w2 ∧ X4 d l kn rm H H') ?_ ?_
    rotate_left
    · intro Q' fin
      unfold tIf
      refine ⟨_, rfl, rfl, _, rfl, ite2 (fun c => ⟨_, rfl, rm, _, _, _, rfl, rfl, SqL.of E1.rm_, rfl, fin _ _ ⟨w0, rfl, b0.1, Int.le_refl _, E1, X1⟩⟩) (fun c => ⟨_, rfl, rm, _, _, _, rfl, rfl, SqL.of E1.rm_, rfl, _, rfl, w0, many, rfl, b0.1, b0.2, ?_, fun u H2 u1 u2 _ _ s2 => fin _ _ ⟨u, rfl, u1, u2, E1.same s2, X1.trans (x4_same s2)⟩⟩)⟩
      have : ¬ many = 1 := fun e => c (by rw [e]; rfl)
      omega
    rintro v H2 ⟨u0, rfl, u01, u02, E2, X2⟩
    refine ⟨_, rfl, rm, _, _, _, rfl, rfl, SqL.of E2.rm_, rfl, _, rfl, _, _, rfl, rfl, ⟨by omega, by omega⟩, _, rfl, rm, _, _, _, rfl, rfl, SqL.of E2.rm_, rfl, _, _, rfl, (by show 3 ≤ sizeLine; decide), fun p hp => ?_⟩
    obtain ⟨t3, et3⟩ : ∃ t3, t3 = if w2 < 3 then w2 else 3 := ⟨_, rfl⟩
    rw [← et3]
    have t30 : 0 ≤ t3 := by rw [et3]; split <;> omega
    have t31 : t3 ≤ w2 := by rw [et3]; split <;> omega
    clear et3
    have hdm : w1 / many * many ≤ w1 := Int.ediv_mul_le _ (by omega)
    have hd0 : 0 ≤ w1 / many := Int.ediv_nonneg (by omega) (by omega)
    have hd1 : w1 / many ≤ w1 := Int.ediv_le_self _ (by omega)
    refine ⟨_, rfl, p, _, _, _, rfl, rfl, SqL.of upd_same, rfl, _, rfl, p, _, _, _, rfl, rfl, SqL.of upd_same, rfl, _, _, rfl, ?_⟩
    have E3 := E2.inner (v0 := u0) (v1 := w1 / many) (v2 := t3) hp ⟨u01, by omega⟩ ⟨hd0, by omega⟩ ⟨t30, by omega⟩ (by omega)
    refine ⟨_, rfl, _, rfl, _, rfl, _, rfl, _, rfl, _, _, rfl, rfl, d, l, wd, wl, sl, kn, p, ws, seen, ks, u0, w1 / many, t3, deep + 1, rfl, E3, by omega, by omega, by omega, fun v b ks' v0 v1 v2 H4 E4 X4' dp4 ok4 af4 c4 l4 y0 y1 ns4 => ?_⟩
    have A := EE.ap
    have npr : p ≠ rm := fun e => by rw [e, E2.rm_] at hp; cases hp
    have R4 : H4 rm = some (.lst [.int w0, .int w1, .int w2]) := X4' rm _ (by rw [upd_ne (Ne.symm npr)]; exact E2.rm_) A.dr A.lr A.kr (Ne.symm npr)
    have X24 : X4 d l kn rm H H4 := fun b o h h1 h2 h3 h4 => by
      have h2' := X2 b o h h1 h2 h3 h4
      have nb := ne_of_none h2' hp
      exact X4' b o (by rw [upd_ne nb]; exact h2') h1 h2 h3 nb
    have z0 := E4.b0
    have z1 := E4.b1
    have z2 := E4.b2
    refine ⟨_, rfl, rm, _, _, _, rfl, rfl, SqL.of R4, rfl, _, rfl, _, rfl, p, _, _, _, rfl, rfl, SqL.of E4.rm_, rfl, _, _, rfl, rfl, _, _, rfl, rfl, _, rfl, rm, _, _, 2, rfl, rfl, R4, rfl, ?_⟩
    have E5 := E4.back (v0 := w0) (v1 := w1) (v2 := w2 - (t3 - v2)) A E4.kn_ E4.ok b0 b1 ⟨by omega, by omega⟩ (by omega)
    refine ⟨_, rfl, _, rfl, by omega, by omega, ?_⟩
    refine for_range (lo := 0) (n := many.toNat) (fun i σ H' => ∃ v8 a0, σ = [some (.ref d), some (.ref wd), some (.ref kn), some (.ref rm), some (.int deep), some (.int many), some (.ref p), some v, v8, some (.int u0), some (.int t3)] ∧ 1 ≤ a0 ∧ a0 ≤ w0 ∧ Envb H' d l wd wl sl kn rm ws seen ks' a0 w1 (w2 - (t3 - v2)) ∧ X4 d l kn rm H H' ∧ H' p = some (.lst [.int v0, .int v1, .int v2]) ∧ Dp K H' v (.tuple b.dats))
      ⟨_, w0, rfl, b0.1, Int.le_refl _, E5, X24.trans x4_rm, by rw [upd_ne npr]; exact E4.rm_, Dp.kt (kt_lst R4 _) _ _ (.tup b.tp) dp4⟩ ?_ ?_
    · rintro i σ H6 hi ⟨v8, a0, rfl, a01, a02, E6, X6, P6, dp6⟩
      obtain ⟨m, hm⟩ : ∃ m, m = if v0 > 1 then v0 else 1 := ⟨_, rfl⟩
      have m11 : 1 ≤ m ∧ m ≤ 1000 := by rw [hm]; split <;> omega
      have q0 : 0 ≤ u0 / m := Int.ediv_nonneg (by omega) (by omega)
      have q1 : u0 / m ≤ u0 := Int.ediv_le_self _ (by omega)
      obtain ⟨m', hm'⟩ : ∃ m', m' = if u0 / m > 1 then u0 / m else 1 := ⟨_, rfl⟩
      have m12 : 1 ≤ m' ∧ m' ≤ 1000 := by rw [hm']; split <;> omega
      have q2 : 0 ≤ a0 / m' := Int.ediv_nonneg (by omega) (by omega)
      have q3 : a0 / m' ≤ a0 := Int.ediv_le_self _ (by omega)
      refine ⟨_, rfl, rm, _, _, _, rfl, rfl, SqL.of E6.rm_, rfl, _, rfl, _, rfl, p, _, _, _, rfl, rfl, SqL.of P6, rfl, _, _, rfl, ?_⟩
      rw [← hm]
      refine ⟨_, _, rfl, rfl, ⟨by omega, by omega⟩, _, _, rfl, ?_⟩
      rw [← hm']
      refine ⟨_, _, rfl, rfl, ⟨by omega, by omega⟩, _, _, rfl, _, rfl, rm, _, _, 0, rfl, rfl, E6.rm_, rfl, ?_⟩
      have hb : 1 ≤ (if a0 / m' > 1 then a0 / m' else 1) ∧ (if a0 / m' > 1 then a0 / m' else 1) ≤ w0 := by split <;> omega
      exact ⟨_, _, rfl, hb.1, hb.2, E6.room ⟨hb.1, by omega⟩ b1 E6.b2 E6.lk, X6.trans x4_rm, by rw [upd_ne npr]; exact P6, Dp.kt (kt_lst E6.rm_ _) _ _ (.tup b.tp) dp6⟩
    · rintro σ H6 ⟨v8, a0, rfl, a01, a02, E6, X6, P6, dp6⟩
      have hv : v1 * many ≤ w1 := by
        have := Int.mul_le_mul_of_nonneg_right y1 (show 0 ≤ many by omega)
        omega
      have hv0 : 0 ≤ v1 * many := Int.mul_nonneg z1.1 (by omega)
      refine ⟨_, rfl, p, _, _, _, rfl, rfl, SqL.of P6, rfl, _, rfl, _, _, rfl, rfl, .inl ⟨by omega, by omega⟩, _, rfl, rm, _, _, 1, rfl, rfl, E6.rm_, rfl, ?_⟩
      have E7 := E6.room (v0 := a0) (v1 := v1 * many) (v2 := w2 - (t3 - v2)) ⟨a01, by omega⟩ ⟨hv0, by omega⟩ E6.b2 E6.lk
      refine ⟨_, rfl, _, rfl, (by show 3 ≤ sizeLine; decide), fun t ht => ?_⟩
      refine k (.ref t) (.times many b) ks' a0 (v1 * many) (w2 - (t3 - v2)) _ (E7.new ht) (X6.trans (x4_rm.trans (x4_new ht))) ?_ ⟨⟨m1, m3⟩, ok4⟩ af4 ?_ (by omega) a02 hv ?_
      · exact .tup (SqT.of upd_same) (.cons (.str _) (.cons (.int _) (.cons (Dp.kt ((kt_lst E6.rm_ _).trans (kt_new ht _)) _ _ (.tup b.tp) dp6) .nil)))
      · show ((1 + b.cnt : Nat) : Int) + _ ≤ _
        omega
      · show ((b.nest + 1 : Nat) : Int) + _ ≤ _
        omega
end
end My
set_option Elab.async false
set_option maxRecDepth 100000
set_option linter.all false
namespace My
open PySem L2
mutual
theorem Sm.after_pre : ∀ (s : Sm) (ks : List Str), ∃ nw, s.after ks = ks ++ nw
  | .draw x _, ks => by
    simp only [Sm.after, addK]
    split
    · exact ⟨[], by simp⟩
    · exact ⟨[x], rfl⟩
  | .set x _, ks => by
    simp only [Sm.after, addK]
    split
    · exact ⟨[], by simp⟩
    · exact ⟨[x], rfl⟩
  | .see _, ks => ⟨[], by simp [Sm.after]⟩
  | .ite _ a b, ks => by
    simp only [Sm.after]
    exact ⟨_, rfl⟩
  | .times _ b, ks => by
    simp only [Sm.after]
    exact Bl.after_pre b ks
theorem Bl.after_pre : ∀ (b : Bl) (ks : List Str), ∃ nw, b.after ks = ks ++ nw
  | .nil, ks => ⟨[], by simp [Bl.after]⟩
  | .cons s b, ks => by
    simp only [Bl.after]
    obtain ⟨n1, e1⟩ := Sm.after_pre s ks
    obtain ⟨n2, e2⟩ := Bl.after_pre b (s.after ks)
    exact ⟨n1 ++ n2, by rw [e2, e1, List.append_assoc]⟩
end
theorem both_len (b c : Bl) (ks : List Str) : ((b.after ks).filter (fun x => decide (x ∈ c.after ks) && !decide (x ∈ ks))).length + ks.length ≤ (b.after ks).length := by
  obtain ⟨nw, e⟩ := Bl.after_pre b ks
  rw [e, List.filter_append, List.length_append, List.length_append]
  have h : ks.filter (fun x => decide (x ∈ c.after ks) && !decide (x ∈ ks)) = [] := by
    rw [List.filter_eq_nil_iff]
    intro x hx
    simp [hx]
  have h2 := List.length_filter_le (fun x => decide (x ∈ c.after ks) && !decide (x ∈ ks)) nw
  rw [h]
  simp only [List.length_nil]
  omega
structure Arm where
  b : Bl
  v : V
  o : Addr
  u0 : Int
  u1 : Int
def armCnt : List Arm → Nat
  | [] => 0
  | r :: rs => r.b.cnt + armCnt rs
theorem armCnt_snoc (r : Arm) : ∀ rs : List Arm, armCnt (rs ++ [r]) = armCnt rs + r.b.cnt
  | [] => by simp [armCnt]
  | t :: rs => by simp [armCnt, armCnt_snoc r rs, Nat.add_assoc]
def Fr (p d l wd wl sl kn rm : Addr) : Prop := p ≠ d ∧ p ≠ l ∧ p ≠ wd ∧ p ≠ wl ∧ p ≠ sl ∧ p ≠ kn ∧ p ≠ rm
section
variable {d l wd wl sl kn rm p q : Addr} {ws seen ks ks' : List Str} {w0 w1 w2 v0 v1 v2 : Int} {H H' H2 : Hp}
theorem Envb.fresh (E : Envb H d l wd wl sl kn rm ws seen ks w0 w1 w2) (hp : H p = none) : Fr p d l wd wl sl kn rm := by
  obtain ⟨s, n, ls, h1, h2, h3⟩ := E.D
  obtain ⟨ul, hw⟩ := E.wd_
  exact ⟨Ne.symm (ne_of_none h1 hp), Ne.symm (ne_of_none h2 hp), Ne.symm (ne_of_none hw hp), Ne.symm (ne_of_none E.wl_ hp), Ne.symm (ne_of_none E.sl_ hp), Ne.symm (ne_of_none E.kn_ hp), Ne.symm (ne_of_none E.rm_ hp)⟩
theorem Envb.put {o : HO} (E : Envb H d l wd wl sl kn rm ws seen ks w0 w1 w2) (F : Fr p d l wd wl sl kn rm) : Envb (upd H p o) d l wd wl sl kn rm ws seen ks w0 w1 w2 := by
  obtain ⟨s, n, ls, h1, h2, h3⟩ := E.D
  obtain ⟨ul, hw⟩ := E.wd_
  obtain ⟨f1, f2, f3, f4, f5, f6, f7⟩ := F
  exact ⟨⟨s, n, ls, by rw [upd_ne (Ne.symm f1)]; exact h1, by rw [upd_ne (Ne.symm f2)]; exact h2, h3⟩, E.ap, ⟨ul, by rw [upd_ne (Ne.symm f3)]; exact hw⟩, by rw [upd_ne (Ne.symm f4)]; exact E.wl_, by rw [upd_ne (Ne.symm f5)]; exact E.sl_, by rw [upd_ne (Ne.symm f6)]; exact E.kn_, by rw [upd_ne (Ne.symm f7)]; exact E.rm_, E.ow, E.os, E.ok, E.lw, E.lw2, E.ls, E.b0, E.b1, E.b2, E.lk⟩
end
section
variable {P : Program} {w : World} {K : PySem.W.Frag} {mg : Str → Option Value} {base : Heap}
structure ArmOk (K : PySem.W.Frag) (H : Hp) (seen ks : List Str) (w0 w1 w2 v2 deep : Int) (r : Arm) : Prop where
  dp : Dp K H r.v (.tuple r.b.dats)
  ok : r.b.Ok seen ks
  at_ : H r.o = some (.lst ((r.b.after ks).map V.str))
  b0 : 1 ≤ r.u0 ∧ r.u0 ≤ w0
  b1 : 0 ≤ r.u1 ∧ r.u1 ≤ w1
  ns : (r.b.nest : Int) + (deep + 1) ≤ 3
  ln : ((r.b.after ks).length : Int) + v2 ≤ ks.length + w2
  nm : ∀ x ∈ r.b.after ks, NmOk x
theorem take_fil {p : Str → Bool} {l : List Str} {i : Nat} {x : Str} (h : l[i]? = some x) : (l.take (i + 1)).filter p = (l.take i).filter p ++ (if p x = true then [x] else []) := by
  rw [take_snoc h, List.filter_append]
  congr 1
  by_cases hp : p x = true
  · simp [hp]
  · simp [hp]
set_option maxHeartbeats 8000000 in
theorem ok_if {f : Addr} {fd : FuncData} (n : Nat) (F : Fun K "_law_if" "_law_if" s_L_if f fd) (Z : Zb mg) (G_L_test : FnIn P w K mg base 6 "_law_test" ps_L_test (spTest K))
    (G_L_block : FnIn P w K mg base (3 * n + 9) "_law_block" ps_L_block (spBlock K n)) :
    FnOk P w K mg base CX0 (3 * (n + 1) + 7) f fd ps_L_if (spStmt K (n + 1) 2) := by
  refine F.ok sc_L_if (fun vs H Q E h => ?_) (fun cdv A outer s H vs Q E hr h => ?_)
  · obtain ⟨d, l, wd, wl, sl, kn, rm, ws, seen, ks, w0, w1, w2, deep, rfl, _⟩ := h
    rfl
  · obtain ⟨d, l, wd, wl, sl, kn, rm, ws, seen, ks, w0, w1, w2, deep, rfl, EE, lk99, d0, d3, dn, k⟩ := h
    have hu := hu_of hr
    have b0 := EE.b0
    have b1 := EE.b1
    have b2 := EE.b2
    have AP := EE.ap
    refine ⟨_, (pss_cons (ps_par3 (i := 6) (j := 7) (k := 8) (by rfl) sc_L_if.nd rfl rfl rfl (by decide) (by decide) (by decide) rfl rfl rfl (pa_cons (pe_fn G_L_test hr rfl (pa_cons (pv 0) (pa_cons (pe_op op_cat (pe_dget hu (pv 1) pe_str (fun _ _ => rfl)) (pv 2)) pa_nil))) (pa_cons (pe_lst pa_nil) (pa_cons (pe_lst pa_nil) pa_nil))) (by kernel_rfl))
      (pss_cons (ps_asg (pe_tup (pa_cons (pe_lst pa_nil) (pa_cons (pe_lst pa_nil) pa_nil))) (pg_tup rfl (pgs_cons (pg_name (i := 9) sc_L_if.nd rfl (by first | exact Or.inl rfl | exact Or.inr rfl)) (pgs_cons (pg_name (i := 10) sc_L_if.nd rfl (by first | exact Or.inl rfl | exact Or.inr rfl)) pgs_nil))))
      (pss_cons (ps_for PassesOwn.never rfl (pi_range1 (by rfl) Z.range (pa_cons pe_int pa_nil)) (pg_name (i := 5) sc_L_if.nd rfl (by first | exact Or.inl rfl | exact Or.inr rfl)) (pss_cons (ps_par (i := 11) (j := 12) (by rfl) sc_L_if.nd rfl rfl (by decide) rfl rfl (pa_cons (pe_lst (pa_cons (pe_ix ix_list (pv 3) pe_int (fun _ _ => rfl)) (pa_cons (pe_ix ix_list (pv 3) pe_int (fun _ _ => rfl)) (pa_cons (pe_ix ix_list (pv 3) pe_int (fun _ _ => rfl)) pa_nil)))) (pa_cons (pe_callTy call_list_of (by rfl) Z.list (by decide +kernel) (pa_cons (pv 2) pa_nil)) pa_nil)) (by rfl))
      (pss_cons (ps_expr (pe_bm PySem.F.plainAttrs_list PySem.F.slot_list_append PySem.F.type_list_append mt_append (pv 9) (pa_cons (pe_fn G_L_block hr rfl (pa_cons (pv 0) (pa_cons (pv 1) (pa_cons (pv 12) (pa_cons (pv 11) (pa_cons (pe_op op_add (pv 4) pe_int) pa_nil)))))) pa_nil)))
      (pss_cons (ps_asg (pe_ix ix_list (pv 11) pe_int (fun _ _ => rfl)) (pg_sub (pv 3) pe_int set_list))
      (pss_cons (ps_expr (pe_bm PySem.F.plainAttrs_list PySem.F.slot_list_append PySem.F.type_list_append mt_append (pv 7) (pa_cons (pe_ix ix_list (pv 11) pe_int (fun _ _ => rfl)) pa_nil)))
      (pss_cons (ps_expr (pe_bm PySem.F.plainAttrs_list PySem.F.slot_list_append PySem.F.type_list_append mt_append (pv 8) (pa_cons (pe_ix ix_list (pv 11) pe_int (fun _ _ => rfl)) pa_nil)))
      (pss_one (ps_expr (pe_bm PySem.F.plainAttrs_list PySem.F.slot_list_append PySem.F.type_list_append mt_append (pv 10) (pa_cons (pv 12) pa_nil))))))))))
      (pss_cons (ps_asg (pe_tup (pa_cons (pe_callB (cr_min rfl) (by rfl) Z.min (by decide +kernel) (pa_cons (pv 7) pa_nil)) (pa_cons (pe_callB (cr_min rfl) (by rfl) Z.min (by decide +kernel) (pa_cons (pv 8) pa_nil)) pa_nil))) (pg_tup rfl (pgs_cons (pg_sub (pv 3) pe_int set_list) (pgs_cons (pg_sub (pv 3) pe_int set_list) pgs_nil))))
      (pss_cons (ps_expr (pe_bm PySem.F.plainAttrs_list PySem.F.slot_list_extend PySem.F.type_list_extend mt_extend (pv 2) (pa_cons (pe_lc (own := [("_law_x", 13)]) (g := gName 13) (by rfl) sc_L_if.nd (pi_list (pe_ix ix_list (pv 10) pe_int (fun _ _ => rfl))) (blkOk_by (own := [("_law_x", 13)]) (N := nm_L_if) (sc := defScope s_L_if) (by decide +kernel)) (fun _ _ _ _ _ => (pg_name (i := 13) sc_L_if.nd rfl (by first | exact Or.inl rfl | exact Or.inr rfl))) (fun _ _ _ _ _ => (pts_one (PW.pt (pw_and (pt_cmpR (op_in_seqK (K := K) rfl) (pv 13) (pe_ix (ix_listK (K := K) rfl) (pv 10) pe_int (fun _ _ => rfl)) (by rfl)) (pw_and1 (pt_cmpR (op_notIn_seqK (K := K) rfl) (pv 13) (pv 2) (by rfl))))))) (fun _ _ _ _ _ => (pv 13))) pa_nil)))
      (pss_one (ps_ret (pe_tup (pa_cons pe_str (pa_cons (pv 6) (pa_cons (pe_ix ix_list (pv 9) pe_int (fun _ _ => rfl)) (pa_cons (pe_ix ix_list (pv 9) pe_int (fun _ _ => rfl)) pa_nil)))))))))))), ?_⟩
    obtain ⟨ul, hw⟩ := EE.wd_
    refine ⟨_, rfl, _, rfl, wd, _, rfl, gw_seen hw, _, rfl, sl, kn, _, _, rfl, rfl, EE.sl_, EE.kn_, by rw [List.length_map, List.length_map]; exact szl (m := 1000) (by have := EE.ls; have := EE.lk; omega), fun nl hnl => ?_⟩
    obtain ⟨nn1, nn2⟩ := EE.D.nn hnl
    have N0 : Nms (upd H nl (.lst (seen.map V.str ++ ks.map V.str))) d l nl (seen ++ ks) := ⟨by rw [upd_same, List.map_append], nn1, nn2, fun x hx => (List.mem_append.mp hx).elim (EE.os x) (EE.ok x), by have := EE.ls; have := EE.lk; rw [List.length_append]; omega⟩
    refine ⟨d, l, nl, seen ++ ks, rfl, (EE.new hnl).D, N0, fun v e H1 D1 x1 he oe de se => ⟨(by show 0 ≤ sizeLine; decide), fun pw hpw => ⟨(by show 0 ≤ sizeLine; decide), fun pd hpd => ⟨_, _, _, rfl, (by show 0 ≤ sizeLine; decide), fun pa hpa => ⟨(by show 0 ≤ sizeLine; decide), fun pk hpk => ⟨(by show 2 ≤ sizeLine; decide), fun tt htt => ⟨tt, _, rfl, SqT.of upd_same, rfl, _, _, rfl, _, _, rfl, rfl, ?_⟩⟩⟩⟩⟩⟩⟩
    have E1 := (EE.new (o := .lst (seen.map V.str ++ ks.map V.str)) hnl).ext D1 x1
    have Ea := E1.new (o := .lst []) hpw
    have Eb := Ea.new (o := .lst []) hpd
    have Ec := Eb.new (o := .lst []) hpa
    have Ed := Ec.new (o := .lst []) hpk
    have Ee := Ed.new (o := .tup [.ref pa, .ref pk]) htt
    have Fw := E1.fresh hpw
    have Fd := Ea.fresh hpd
    have Fa := Eb.fresh hpa
    have Fk := Ec.fresh hpk
    have Xe : X4 d l kn rm H _ := ((x4_new hnl).trans (x4_ext x1)).trans ((x4_new (o := .lst []) hpw).trans ((x4_new (o := .lst []) hpd).trans ((x4_new (o := .lst []) hpa).trans ((x4_new (o := .lst []) hpk).trans (x4_new (o := .tup [.ref pa, .ref pk]) htt)))))
    have nwd : pw ≠ pd := ne_of_none upd_same hpd
    have nwa : pw ≠ pa := ne_of_none (show (upd (upd H1 pw (.lst [])) pd (.lst [])) pw = some (.lst []) by rw [upd_ne nwd]; exact upd_same) hpa
    have nda : pd ≠ pa := ne_of_none upd_same hpa
    have nwk : pw ≠ pk := ne_of_none (show (upd (upd (upd H1 pw (.lst [])) pd (.lst [])) pa (.lst [])) pw = some (.lst []) by rw [upd_ne nwa, upd_ne nwd]; exact upd_same) hpk
    have ndk : pd ≠ pk := ne_of_none (show (upd (upd (upd H1 pw (.lst [])) pd (.lst [])) pa (.lst [])) pd = some (.lst []) by rw [upd_ne nda]; exact upd_same) hpk
    have nak : pa ≠ pk := ne_of_none upd_same hpk
    have gw : (upd (upd (upd (upd H1 pw (.lst [])) pd (.lst [])) pa (.lst [])) pk (.lst [])) pw = some (.lst []) := by rw [upd_ne nwk, upd_ne nwa, upd_ne nwd]; exact upd_same
    have gd : (upd (upd (upd (upd H1 pw (.lst [])) pd (.lst [])) pa (.lst [])) pk (.lst [])) pd = some (.lst []) := by rw [upd_ne ndk, upd_ne nda]; exact upd_same
    have ga : (upd (upd (upd (upd H1 pw (.lst [])) pd (.lst [])) pa (.lst [])) pk (.lst [])) pa = some (.lst []) := by rw [upd_ne nak]; exact upd_same
    have gk : (upd (upd (upd (upd H1 pw (.lst [])) pd (.lst [])) pa (.lst [])) pk (.lst [])) pk = some (.lst []) := upd_same
    have hev : IsE K (upd (upd (upd (upd (upd H1 pw (.lst [])) pd (.lst [])) pa (.lst [])) pk (.lst [])) tt (.tup [.ref pa, .ref pk])) v e := ((((he.kt (kt_new hpw _)).kt (kt_new hpd _)).kt (kt_new hpa _)).kt (kt_new hpk _)).kt (kt_new htt _)
    refine ⟨_, rfl, by decide, by decide, ?_⟩
    refine for_range (lo := 0) (n := 2) (fun i σ H3 => ∃ v5 v11 v12 rs v2, σ = [some (.ref d), some (.ref wd), some (.ref kn), some (.ref rm), some (.int deep), v5, some v, some (.ref pw), some (.ref pd), some (.ref pa), some (.ref pk), v11, v12, none] ∧ Envb H3 d l wd wl sl kn rm ws seen ks w0 w1 v2 ∧ X4 d l kn rm H H3 ∧ IsE K H3 v e ∧ rs.length = i ∧
        H3 pa = some (.lst (rs.map Arm.v)) ∧ H3 pk = some (.lst (rs.map fun r => V.ref r.o)) ∧ H3 pw = some (.lst ((rs.map Arm.u0).map V.int)) ∧ H3 pd = some (.lst ((rs.map Arm.u1).map V.int)) ∧ (∀ r ∈ rs, ArmOk K H3 seen ks w0 w1 w2 v2 deep r ∧ Fr r.o d l wd wl sl kn rm ∧ r.o ≠ pa ∧ r.o ≠ pk ∧ r.o ≠ pw ∧ r.o ≠ pd) ∧ (armCnt rs : Int) + v2 ≤ w2 ∧ v2 ≤ w2)
      ⟨_, _, _, [], w2, rfl, Ee, Xe, hev, rfl, by rw [upd_ne (ne_of_none ga htt)]; exact ga, by rw [upd_ne (ne_of_none gk htt)]; exact gk, by rw [upd_ne (ne_of_none gw htt)]; exact gw, by rw [upd_ne (ne_of_none gd htt)]; exact gd, by simp, by simp [armCnt], Int.le_refl _⟩ ?_ ?_
    · rintro i σ H3 hi ⟨v5, v11, v12, rs, v2, rfl, E3, X3, he3, hl3, A3, K3, W3, D3, ok3, c3, z3⟩
      have bb2 := E3.b2
      refine ⟨_, rfl, rm, _, _, _, rfl, rfl, SqL.of E3.rm_, rfl, _, rfl, rm, _, _, _, rfl, rfl, SqL.of E3.rm_, rfl, _, rfl, rm, _, _, _, rfl, rfl, SqL.of E3.rm_, rfl, (by show 3 ≤ sizeLine; decide), fun p hp => ⟨_, rfl, kn, _, rfl, .inl (SqL.of (E3.new hp).kn_), fun q hq => ⟨_, _, rfl, ?_⟩⟩⟩
      have Ep := E3.inner (v0 := w0) (v1 := w1) (v2 := v2) hp b0 b1 bb2 E3.lk
      have E4 := Ep.own hq
      have Fp := E3.fresh hp
      have Fq := (E3.new (o := .lst [.int w0, .int w1, .int v2]) hp).fresh hq
      have npq : p ≠ q := ne_of_none upd_same hq
      have st : ∀ c o, H3 c = some o → (upd (upd H3 p (.lst [.int w0, .int w1, .int v2])) q (.lst (ks.map V.str))) c = some o := fun c o h => by
        have e1 := ne_of_none h hp
        have h2 : (upd H3 p (.lst [.int w0, .int w1, .int v2])) c = some o := by rw [upd_ne e1]; exact h
        rw [upd_ne (ne_of_none h2 hq)]
        exact h2
      have npa : pa ≠ p := ne_of_none A3 hp
      have npk : pk ≠ p := ne_of_none K3 hp
      have npw : pw ≠ p := ne_of_none W3 hp
      have npd : pd ≠ p := ne_of_none D3 hp
      have nq : ∀ c o, H3 c = some o → c ≠ q := fun c o h => ne_of_none (show (upd H3 p (.lst [.int w0, .int w1, .int v2])) c = some o by rw [upd_ne (ne_of_none h hp)]; exact h) hq
      have nqa := nq _ _ A3
      have nqk := nq _ _ K3
      have nqw := nq _ _ W3
      have nqd := nq _ _ D3
      refine ⟨_, rfl, .inl ⟨rfl, _, SqL.of (st _ _ A3)⟩, _, rfl, _, rfl, _, rfl, _, rfl, _, rfl, _, _, rfl, rfl, d, l, wd, wl, sl, q, p, ws, seen, ks, w0, w1, v2, deep + 1, rfl, E4, by omega, by omega, by omega, fun vb b ks1 u0 u1 u2 H5 E5 X5 dp5 okb af5 c5 l5 y0 y1 ns5 => ?_⟩
      have st5 : ∀ c o, H3 c = some o → c ≠ d → c ≠ l → H5 c = some o := fun c o h h1 h2 => X5 c o (st c o h) h1 h2 (nq c o h) (ne_of_none h hp)
      have A5 := st5 _ _ A3 Fa.1 Fa.2.1
      have K5 := st5 _ _ K3 Fk.1 Fk.2.1
      have W5 := st5 _ _ W3 Fw.1 Fw.2.1
      have D5 := st5 _ _ D3 Fd.1 Fd.2.1
      have R5 := st5 _ _ E3.rm_ AP.dr AP.lr
      have N5 := st5 _ _ E3.kn_ AP.dk AP.lk
      refine ⟨pa, _, _, rfl, rfl, A5, by rw [List.length_map]; exact sz (m := 4) (by omega), ?_⟩
      have g5 : KT H3 H5 := ((kt_new hp _).trans (kt_new hq _)).trans (kt_x4 X5 E4)
      have frpa : pa ≠ rm := Fa.2.2.2.2.2.2
      have frpk : pk ≠ rm := Fk.2.2.2.2.2.2
      have frpw : pw ≠ rm := Fw.2.2.2.2.2.2
      have frpd : pd ≠ rm := Fd.2.2.2.2.2.2
      have fpr : p ≠ rm := Fp.2.2.2.2.2.2
      have fqr : q ≠ rm := Fq.2.2.2.2.2.2
      have P6 : (upd H5 pa (.lst (rs.map Arm.v ++ [vb]))) p = some (.lst [.int u0, .int u1, .int u2]) := by rw [upd_ne (Ne.symm npa)]; exact E5.rm_
      have R6 : (upd H5 pa (.lst (rs.map Arm.v ++ [vb]))) rm = some (.lst [.int w0, .int w1, .int v2]) := by rw [upd_ne (Ne.symm frpa)]; exact R5
      refine ⟨_, rfl, p, _, _, _, rfl, rfl, SqL.of P6, rfl, _, rfl, rm, _, _, 2, rfl, rfl, R6, rfl, ?_⟩
      have zz0 := E5.b0
      have zz1 := E5.b1
      have zz2 := E5.b2
      have Fa' : Fr pa d l wd wl sl q p := ⟨Fa.1, Fa.2.1, Fa.2.2.1, Fa.2.2.2.1, Fa.2.2.2.2.1, nqa, npa⟩
      have E6 := E5.put (o := .lst (rs.map Arm.v ++ [vb])) Fa'
      have E7 := E6.back (v0 := w0) (v1 := w1) (v2 := u2) (ks' := ks) AP (by rw [upd_ne (Ne.symm Fa.2.2.2.2.2.1)]; exact N5) EE.ok b0 b1 ⟨zz2.1, by omega⟩ (by have := E3.lk; omega)
      have W7 : (upd (upd H5 pa (.lst (rs.map Arm.v ++ [vb]))) rm (.lst [.int w0, .int w1, .int u2])) pw = some (.lst ((rs.map Arm.u0).map V.int)) := by rw [upd_ne frpw, upd_ne nwa]; exact W5
      have D7 : (upd (upd H5 pa (.lst (rs.map Arm.v ++ [vb]))) rm (.lst [.int w0, .int w1, .int u2])) pd = some (.lst ((rs.map Arm.u1).map V.int)) := by rw [upd_ne frpd, upd_ne nda]; exact D5
      have K7 : (upd (upd H5 pa (.lst (rs.map Arm.v ++ [vb]))) rm (.lst [.int w0, .int w1, .int u2])) pk = some (.lst (rs.map fun r => V.ref r.o)) := by rw [upd_ne frpk, upd_ne (Ne.symm nak)]; exact K5
      have A7 : (upd (upd H5 pa (.lst (rs.map Arm.v ++ [vb]))) rm (.lst [.int w0, .int w1, .int u2])) pa = some (.lst (rs.map Arm.v ++ [vb])) := by rw [upd_ne frpa]; exact upd_same
      have P7 : (upd (upd H5 pa (.lst (rs.map Arm.v ++ [vb]))) rm (.lst [.int w0, .int w1, .int u2])) p = some (.lst [.int u0, .int u1, .int u2]) := by rw [upd_ne fpr]; exact P6
      have g7 : KT H5 (upd (upd H5 pa (.lst (rs.map Arm.v ++ [vb]))) rm (.lst [.int w0, .int w1, .int u2])) := (kt_lst A5 _).trans (kt_lst R6 _)
      have st7 : ∀ c o, H5 c = some o → c ≠ pa → c ≠ rm → (upd (upd H5 pa (.lst (rs.map Arm.v ++ [vb]))) rm (.lst [.int w0, .int w1, .int u2])) c = some o := fun c o h h1 h2 => by rw [upd_ne h2, upd_ne h1]; exact h
      refine ⟨_, rfl, .inl ⟨rfl, _, SqL.of W7⟩, _, rfl, p, _, _, _, rfl, rfl, SqL.of P7, rfl, pw, _, _, rfl, rfl, W7, by rw [List.length_map, List.length_map]; exact sz (m := 4) (by omega), ?_⟩
      have E8 := E7.put (o := .lst ((rs.map Arm.u0).map V.int ++ [.int u0])) Fw
      have D8 : (upd (upd (upd H5 pa (.lst (rs.map Arm.v ++ [vb]))) rm (.lst [.int w0, .int w1, .int u2])) pw (.lst ((rs.map Arm.u0).map V.int ++ [.int u0]))) pd = some (.lst ((rs.map Arm.u1).map V.int)) := by rw [upd_ne (Ne.symm nwd)]; exact D7
      have P8 : (upd (upd (upd H5 pa (.lst (rs.map Arm.v ++ [vb]))) rm (.lst [.int w0, .int w1, .int u2])) pw (.lst ((rs.map Arm.u0).map V.int ++ [.int u0]))) p = some (.lst [.int u0, .int u1, .int u2]) := by rw [upd_ne (Ne.symm npw)]; exact P7
      refine ⟨_, rfl, .inl ⟨rfl, _, SqL.of D8⟩, _, rfl, p, _, _, _, rfl, rfl, SqL.of P8, rfl, pd, _, _, rfl, rfl, D8, by rw [List.length_map, List.length_map]; exact sz (m := 4) (by omega), ?_⟩
      have E9 := E8.put (o := .lst ((rs.map Arm.u1).map V.int ++ [.int u1])) Fd
      have K9 : (upd (upd (upd (upd H5 pa (.lst (rs.map Arm.v ++ [vb]))) rm (.lst [.int w0, .int w1, .int u2])) pw (.lst ((rs.map Arm.u0).map V.int ++ [.int u0]))) pd (.lst ((rs.map Arm.u1).map V.int ++ [.int u1]))) pk = some (.lst (rs.map fun r => V.ref r.o)) := by rw [upd_ne (Ne.symm ndk), upd_ne (Ne.symm nwk)]; exact K7
      refine ⟨_, rfl, .inl ⟨rfl, _, SqL.of K9⟩, _, rfl, pk, _, _, rfl, rfl, K9, by rw [List.length_map]; exact sz (m := 4) (by omega), ?_⟩
      have E10 := E9.put (o := .lst ((rs.map fun r => V.ref r.o) ++ [.ref q])) Fk
      have g10 := ((kt_lst W7 (.lst ((rs.map Arm.u0).map V.int ++ [.int u0]))).trans (kt_lst D8 (.lst ((rs.map Arm.u1).map V.int ++ [.int u1])))).trans (kt_lst K9 (.lst ((rs.map fun r => V.ref r.o) ++ [.ref q])))
      have st10 : ∀ c o, H5 c = some o → c ≠ pa → c ≠ rm → c ≠ pw → c ≠ pd → c ≠ pk → (upd (upd (upd (upd (upd H5 pa (.lst (rs.map Arm.v ++ [vb]))) rm (.lst [.int w0, .int w1, .int u2])) pw (.lst ((rs.map Arm.u0).map V.int ++ [.int u0]))) pd (.lst ((rs.map Arm.u1).map V.int ++ [.int u1]))) pk (.lst ((rs.map fun r => V.ref r.o) ++ [.ref q]))) c = some o := fun c o h h1 h2 h3 h4 h5 => by
        rw [upd_ne h5, upd_ne h4, upd_ne h3]; exact st7 c o h h1 h2
      refine ⟨_, _, _, rs ++ [⟨b, vb, q, u0, u1⟩], u2, rfl, E10, fun c o h h1 h2 h3 h4 => ?_, ((he3.kt g5).kt g7).kt g10, by simp [hl3], ?_, ?_, ?_, ?_, fun r hr => ?_, ?_, by omega⟩
      · have n0 : ∀ x, H x = none → c ≠ x := fun x hx => ne_of_none h hx
        have hc1 : H1 c = some o := x1 c o (by rw [upd_ne (ne_of_none h hnl)]; exact h) h1 h2
        have c1 := ne_of_none hc1 hpw
        have hc2 : (upd H1 pw (.lst [])) c = some o := by rw [upd_ne c1]; exact hc1
        have c2 := ne_of_none hc2 hpd
        have hc3 : (upd (upd H1 pw (.lst [])) pd (.lst [])) c = some o := by rw [upd_ne c2]; exact hc2
        have c3' := ne_of_none hc3 hpa
        have hc4 : (upd (upd (upd H1 pw (.lst [])) pd (.lst [])) pa (.lst [])) c = some o := by rw [upd_ne c3']; exact hc3
        have c4 := ne_of_none hc4 hpk
        exact st10 c o (st5 c o (X3 c o h h1 h2 h3 h4) h1 h2) c3' h4 c1 c2 c4
      · rw [List.map_append, upd_ne nak, upd_ne (Ne.symm nda), upd_ne (Ne.symm nwa)]
        exact A7
      · rw [upd_same, List.map_append]
        rfl
      · rw [upd_ne nwk, upd_ne nwd, upd_same, List.map_append, List.map_append]
        rfl
      · rw [upd_ne ndk, upd_same, List.map_append, List.map_append]
        rfl
      · rcases List.mem_append.mp hr with hr | hr
        · obtain ⟨o3, f3, f4, f5, f6, f7⟩ := ok3 r hr
          refine ⟨⟨Dp.kt ((g5.trans g7).trans g10) _ _ (.tup r.b.tp) o3.dp, o3.ok, ?_, o3.b0, o3.b1, o3.ns, by have := o3.ln; omega, o3.nm⟩, f3, f4, f5, f6, f7⟩
          exact st10 _ _ (st5 _ _ o3.at_ f3.1 f3.2.1) f4 f3.2.2.2.2.2.2 f6 f7 f5
        · rw [List.mem_singleton.mp hr]
          refine ⟨⟨Dp.kt (g7.trans g10) _ _ (.tup b.tp) dp5, okb, ?_, ⟨zz0.1, y0⟩, ⟨zz1.1, y1⟩, ns5, by rw [af5]; omega, by rw [af5]; exact E5.ok⟩, Fq, Ne.symm nqa, Ne.symm nqk, Ne.symm nqw, Ne.symm nqd⟩
          rw [af5]
          exact st10 _ _ E5.kn_ (Ne.symm nqa) fqr (Ne.symm nqw) (Ne.symm nqd) (Ne.symm nqk)
      · rw [armCnt_snoc]
        show ((armCnt rs + b.cnt : Nat) : Int) + u2 ≤ w2
        omega
    · rintro σ H3 ⟨v5, v11, v12, rs, v2, rfl, E3, X3, he3, hl3, A3, K3, W3, D3, ok3, c3, z3⟩
      obtain ⟨r1, r2, rfl⟩ : ∃ r1 r2, rs = [r1, r2] := by
        match rs, hl3 with
        | [a, b], _ => exact ⟨a, b, rfl⟩
      obtain ⟨o1, f1, _⟩ := ok3 r1 (by simp)
      obtain ⟨o2, f2, _⟩ := ok3 r2 (by simp)
      have o1b0 := o1.b0
      have o1b1 := o1.b1
      have o2b0 := o2.b0
      have o2b1 := o2.b1
      have bb2 := E3.b2
      refine ⟨_, rfl, pw, [r1.u0, r2.u0], rfl, SqL.of W3, by simp, fun m mm _ => ⟨_, rfl, pd, [r1.u1, r2.u1], rfl, SqL.of D3, by simp, fun m' mm' _ => ⟨(by show 2 ≤ sizeLine; decide), fun t ht => ?_⟩⟩⟩
      have hm : 1 ≤ m ∧ m ≤ w0 := by
        simp only [List.mem_cons, List.not_mem_nil, or_false] at mm
        rcases mm with rfl | rfl
        · exact o1b0
        · exact o2b0
      have hm' : 0 ≤ m' ∧ m' ≤ w1 := by
        simp only [List.mem_cons, List.not_mem_nil, or_false] at mm'
        rcases mm' with rfl | rfl
        · exact o1b1
        · exact o2b1
      have Et := E3.new (o := .tup [.int m, .int m']) ht
      refine ⟨t, _, rfl, SqT.of upd_same, rfl, _, _, rfl, _, rfl, rm, _, _, 0, rfl, rfl, Et.rm_, rfl, _, _, rfl, _, rfl, rm, _, _, 1, rfl, rfl, upd_same, rfl, rfl, ?_⟩
      have E5 := Et.room (v0 := m) (v1 := w1) (v2 := v2) ⟨hm.1, by omega⟩ b1 bb2 E3.lk
      have E6 := E5.room (v0 := m) (v1 := m') (v2 := v2) ⟨hm.1, by omega⟩ ⟨hm'.1, by omega⟩ bb2 E3.lk
      have st : ∀ c o, H3 c = some o → c ≠ rm → (upd (upd (upd H3 t (.tup [.int m, .int m'])) rm (.lst [.int m, .int w1, .int v2])) rm (.lst [.int m, .int m', .int v2])) c = some o := fun c o h h1 => by
        rw [upd_ne h1, upd_ne h1, upd_ne (ne_of_none h ht)]; exact h
      have g6 : KT H3 (upd (upd (upd H3 t (.tup [.int m, .int m'])) rm (.lst [.int m, .int w1, .int v2])) rm (.lst [.int m, .int m', .int v2])) := (kt_new ht _).trans ((kt_lst Et.rm_ _).trans (kt_lst E5.rm_ _))
      have K6 := st _ _ K3 Fk.2.2.2.2.2.2
      have A6 := st _ _ A3 Fa.2.2.2.2.2.2
      have O1 := st _ _ o1.at_ f1.2.2.2.2.2.2
      have O2 := st _ _ o2.at_ f2.2.2.2.2.2.2
      have N6 := E6.kn_
      refine ⟨_, rfl, .inl ⟨rfl, _, SqL.of N6⟩, _, rfl, pk, _, _, _, rfl, rfl, SqL.of K6, rfl, r1.o, rfl, ⟨_, SqL.of O1⟩, fun B hB => ?_⟩
      refine lc_list (xs := (r1.b.after ks).map V.str) (fun i H' => Same (upd (upd (upd H3 t (.tup [.int m, .int m'])) rm (.lst [.int m, .int w1, .int v2])) rm (.lst [.int m, .int m', .int v2])) H' ∧ H' B = some (.lst ((((r1.b.after ks).take i).filter (fun x => decide (x ∈ r2.b.after ks) && !decide (x ∈ ks))).map V.str)))
        ⟨same_new hB _, upd_same⟩ (fun i H' _ h => SqL.of (h.1 _ _ O1)) ?_ ?_
      · rintro i x H' hx ⟨s', hB'⟩
        rw [List.getElem?_map] at hx
        obtain ⟨y, hy, rfl⟩ := Option.map_eq_some_iff.mp hx
        have hlen : ((((r1.b.after ks).take i).filter (fun x => decide (x ∈ r2.b.after ks) && !decide (x ∈ ks))).map V.str).length ≤ 1000 := by
          rw [List.length_map]
          have q1 := List.length_filter_le (fun x => decide (x ∈ r2.b.after ks) && !decide (x ∈ ks)) ((r1.b.after ks).take i)
          have q2 : ((r1.b.after ks).take i).length ≤ (r1.b.after ks).length := by rw [List.length_take]; omega
          have q3 := o1.ln
          omega
        refine ⟨rfl, _, rfl, _, rfl, pk, _, _, _, rfl, rfl, SqL.of (s' _ _ K6), rfl, r2.o, _, rfl, .inl (SqL.of (s' _ _ O2)), rfl, flat_strs _, _, rfl, ite2 (fun c => ⟨_, rfl, _, rfl, kn, _, rfl, .inl (SqL.of (s' _ _ N6)), rfl, flat_strs _, _, rfl, ite2 (fun c2 => ⟨_, rfl, _, hB', sz hlen, ?_⟩) (fun c2 => ?_)⟩) (fun c => iteF ?_)⟩
        · have e1 : decide (y ∈ r2.b.after ks) = true := by rw [← inV_str]; exact c
          have e2 : (!decide (y ∈ ks)) = true := by rw [← inV_str]; exact c2
          refine ⟨same_upd s' hB _, ?_⟩
          rw [take_fil hy, upd_same, e1, e2, List.map_append]
          rfl
        · have e2 : ¬ (!decide (y ∈ ks)) = true := by rw [← inV_str]; exact c2
          refine ⟨s', ?_⟩
          rw [take_fil hy, Bool.eq_false_iff.mpr e2, Bool.and_false, if_neg (by decide), List.append_nil]
          exact hB'
        · have e1 : ¬ decide (y ∈ r2.b.after ks) = true := by rw [← inV_str]; exact c
          refine ⟨s', ?_⟩
          rw [take_fil hy, Bool.eq_false_iff.mpr e1, Bool.false_and, if_neg (by decide), List.append_nil]
          exact hB'
      · rintro H8 ⟨s8, hB8⟩
        rw [List.length_map, List.take_length] at hB8
        have bl := both_len r1.b r2.b ks
        have q3 := o1.ln
        have E8 := E6.same s8
        refine ⟨kn, B, _, _, rfl, rfl, E8.kn_, hB8, ?_, ?_⟩
        · rw [List.length_map, List.length_map]
          exact szl (m := 1000) (by omega)
        rw [← List.map_append]
        have E9 := E8.know (ks' := ks ++ (r1.b.after ks).filter (fun x => decide (x ∈ r2.b.after ks) && !decide (x ∈ ks))) (fun x hx => (List.mem_append.mp hx).elim (EE.ok x) fun h => o1.nm x (List.mem_filter.mp h).1) (by rw [List.length_append]; omega)
        have A8 := s8 _ _ A6
        have A9 : (upd H8 kn (.lst ((ks ++ (r1.b.after ks).filter (fun x => decide (x ∈ r2.b.after ks) && !decide (x ∈ ks))).map V.str))) pa = some (.lst ([r1, r2].map Arm.v)) := by rw [upd_ne Fa.2.2.2.2.2.1]; exact A8
        refine ⟨_, rfl, _, rfl, pa, _, _, _, rfl, rfl, SqL.of A9, rfl, _, rfl, pa, _, _, _, rfl, rfl, SqL.of A9, rfl, (by show 4 ≤ sizeLine; decide), fun t9 ht9 => ?_⟩
        have g9 := (g6.trans (kt_same s8)).trans ((kt_lst E8.kn_ (.lst ((ks ++ (r1.b.after ks).filter (fun x => decide (x ∈ r2.b.after ks) && !decide (x ∈ ks))).map V.str))).trans (kt_new ht9 (.tup [.str "if", v, r1.v, r2.v])))
        refine k (.ref t9) (.ite e r1.b r2.b) _ m m' v2 _ (E9.new ht9) ?_ ?_ ⟨⟨oe, de, se⟩, o1.ok, o2.ok⟩ rfl ?_ (by rw [List.length_append]; omega) hm.2 hm'.2 ?_
        · exact X3.trans ((x4_new ht).trans (x4_rm.trans (x4_rm.trans ((x4_same s8).trans (x4_kn.trans (x4_new ht9))))))
        · exact .tup (SqT.of upd_same) (.cons (.str _) (.cons (he3.kt g9) (.cons (Dp.kt g9 _ _ (.tup r1.b.tp) o1.dp) (.cons (Dp.kt g9 _ _ (.tup r2.b.tp) o2.dp) .nil))))
        · show ((1 + r1.b.cnt + r2.b.cnt : Nat) : Int) + v2 ≤ w2 + 1
          simp only [armCnt] at c3
          omega
        · show ((max r1.b.nest r2.b.nest + 1 : Nat) : Int) + deep ≤ 3
          have := o1.ns
          have := o2.ns
          omega
end
end My
set_option Elab.async false
set_option maxRecDepth 100000
set_option linter.all false
namespace My
open PySem L2
section
variable {P : Program} {w : World} {K : PySem.W.Frag} {mg : Str → Option Value} {base : Heap}
theorem rec_bk {fi ft fs fb : Addr} {di dt ds db : FuncData} (Fi : Fun K "_law_if" "_law_if" s_L_if fi di) (mi : mg "_law_if" = some (.ref fi)) (bi : Binds K di ps_L_if [])
    (Ft : Fun K "_law_times" "_law_times" s_L_times ft dt) (mt : mg "_law_times" = some (.ref ft)) (bt : Binds K dt ps_L_times [])
    (Fs : Fun K "_law_statement" "_law_statement" s_L_statement fs ds) (ms : mg "_law_statement" = some (.ref fs)) (bs : Binds K ds ps_L_statement [])
    (Fb : Fun K "_law_block" "_law_block" s_L_block fb db) (mb : mg "_law_block" = some (.ref fb)) (bb : Binds K db ps_L_block []) (Z : Zb mg)
    (G_L_draw : FnIn P w K mg base 1 "_law_draw" ps_L_draw spDraw) (G_L_root : FnIn P w K mg base 1 "_law_root" ps_L_root spRoot)
    (G_L_expr : FnIn P w K mg base 5 "_law_expr" ps_L_expr (spExpr K 3)) (G_L_test : FnIn P w K mg base 6 "_law_test" ps_L_test (spTest K)) (G_L_mild : FnIn P w K mg base 7 "_law_mild" ps_L_mild (spTest K)) (G_L_alts : FnIn P w K mg base 6 "_law_alts" ps_L_alts (spAlts K)) :
    ∀ n : Nat, FnIn P w K mg base (3 * n + 7) "_law_if" ps_L_if (spStmt K n 2) ∧ FnIn P w K mg base (3 * n + 7) "_law_times" ps_L_times (spStmt K n 2) ∧ FnIn P w K mg base (3 * n + 9) "_law_block" ps_L_block (spBlock K n) := by
  have up : ∀ n : Nat, FnIn P w K mg base (3 * n + 7) "_law_if" ps_L_if (spStmt K n 2) → FnIn P w K mg base (3 * n + 7) "_law_times" ps_L_times (spStmt K n 2) → FnIn P w K mg base (3 * n + 9) "_law_block" ps_L_block (spBlock K n) := fun n gi gt =>
    ⟨fb, db, ok_block n Fb Z G_L_draw ⟨fs, ds, ok_statement n Fs Z G_L_draw G_L_expr G_L_mild G_L_alts gi gt, ms, Fs.kp, bs⟩, mb, Fb.kp, bb⟩
  intro n
  induction n with
  | zero =>
    have no : ∀ vs H Q E, ¬ spStmt K 0 2 vs H Q E := fun vs H Q E h => by
      obtain ⟨_, _, _, _, _, _, _, _, _, _, _, _, _, _, _, _, _, h1, h2, h3, _⟩ := h
      omega
    have gi : FnIn P w K mg base (3 * 0 + 7) "_law_if" ps_L_if (spStmt K 0 2) := ⟨fi, di, ⟨fun vs H Q E h => absurd h (no vs H Q E), fun A outer s H args us vs Q E _ _ _ _ h => absurd h (no vs H Q E)⟩, mi, Fi.kp, bi⟩
    have gt : FnIn P w K mg base (3 * 0 + 7) "_law_times" ps_L_times (spStmt K 0 2) := ⟨ft, dt, ⟨fun vs H Q E h => absurd h (no vs H Q E), fun A outer s H args us vs Q E _ _ _ _ h => absurd h (no vs H Q E)⟩, mt, Ft.kp, bt⟩
    exact ⟨gi, gt, up 0 gi gt⟩
  | succ n ih =>
    have gi : FnIn P w K mg base (3 * (n + 1) + 7) "_law_if" ps_L_if (spStmt K (n + 1) 2) := ⟨fi, di, ok_if n Fi Z G_L_test ih.2.2, mi, Fi.kp, bi⟩
    have gt : FnIn P w K mg base (3 * (n + 1) + 7) "_law_times" ps_L_times (spStmt K (n + 1) 2) := ⟨ft, dt, ok_times n Ft Z G_L_draw G_L_root ih.2.2, mt, Ft.kp, bt⟩
    exact ⟨gi, gt, up (n + 1) gi gt⟩
end
def wordsL : List Str := ["num", "op", "name", "slot", "field", "row", "put", "take", "change", "back", "begin", "branch", "none", "key"]
theorem words_eq : Txt.split "num op name slot field row put take change back begin branch none key" " " = wordsL := by decide +kernel
theorem words_ok : ∀ x ∈ wordsL, NmOk x := fun z m => ⟨by
  have h : ∀ z ∈ wordsL, z.length ≤ 6 := by decide +kernel
  exact h z m, asc_by (by
  have h : wordsL.all (fun z => z.cps.toList.all (fun c => decide (c < 128))) = true := by decide +kernel
  exact List.all_eq_true.mp h z m)⟩
def spWords : Sp := fun vs H Q _ => ∃ (d l : Addr), vs = [.ref d, .int 60] ∧ Deal H d l ∧
  ∀ (p : Addr) (ws : List Str) (H' : Hp), H p = none → Deal H' d l → Ext d l H H' → H' p = some (.lst (ws.map V.str)) → ws.length = 60 → (∀ x ∈ ws, NmOk x) → p ≠ d → p ≠ l → Q (.ref p) H'
theorem cut_two (z : Str) (i : Int) (h0 : 0 ≤ i) (h1 : i ≤ z.length) : (cutS z none (some i)).length + (cutS z (some i) none).length ≤ z.length := by
  have e1 : (cutS z none (some i)).length ≤ i.toNat := by
    obtain ⟨n, rfl⟩ := Int.eq_ofNat_of_zero_le h0
    exact cutS_hi z n
  have e2 : (cutS z (some i) none).length ≤ z.length - i.toNat := by
    show (((z.cps.toList.drop (HT.sIx z.length 0 (some i))).take (HT.sIx z.length z.length none - HT.sIx z.length 0 (some i))).toArray).size ≤ z.length - i.toNat
    rw [List.size_toArray, List.length_take]
    simp only [HT.sIx]
    split <;> omega
  omega
theorem sum_ones {acc : List Str} (h : ∀ x ∈ acc, x.length = 1 ∧ Asc x) : (acc.map (·.length)).sum = acc.length := by
  induction acc with
  | nil => rfl
  | cons x r ih =>
    rw [List.map_cons, List.sum_cons, (h x (by simp)).1, ih fun y hy => h y (by simp [hy]), List.length_cons]
    omega
theorem Ext.none {H H' : Hp} {d l p : Addr} (x : Ext d l H H') (hp : H' p = Option.none) (nd : p ≠ d) (nl : p ≠ l) : H p = Option.none := by
  cases q : H p with
  | none => rfl
  | some o => rw [x p o q nd nl] at hp; cases hp
theorem Ext.upd {H H' : Hp} {d l p : Addr} (x : Ext d l H H') (hp : H p = Option.none) (o : HO) : Ext d l H (upd H' p o) := fun b u q h1 h2 => by
  rw [upd_ne (ne_of_none q hp)]; exact x b u q h1 h2
theorem Deal.put {H : Hp} {d l p : Addr} (D : Deal H d l) (nd : p ≠ d) (nl : p ≠ l) (o : HO) : Deal (upd H p o) d l := by
  obtain ⟨b1, b2, b3, b4, b5, b6⟩ := D
  exact ⟨b1, b2, b3, by rw [upd_ne (Ne.symm nd)]; exact b4, by rw [upd_ne (Ne.symm nl)]; exact b5, b6⟩
def qxzj : Str := "qxzj"
theorem asc_qxzj : Asc qxzj := asc_by (by decide +kernel)
theorem qxzj_len : qxzj.cps.toList.length = 4 := by decide +kernel
section
variable {P : Program} {w : World} {K : PySem.W.Frag} {mg : Str → Option Value} {base : Heap}
set_option maxHeartbeats 8000000 in
theorem ok_words {f : Addr} {fd : FuncData} (F : Fun K "_law_words" "_law_words" s_L_words f fd) (Z : Zb mg) (G_L_draw : FnIn P w K mg base 1 "_law_draw" ps_L_draw spDraw) : FnOk P w K mg base CX0 2 f fd ps_L_words spWords := by
  refine F.ok sc_L_words (fun vs H Q E h => ?_) (fun cdv A outer s H vs Q E hr h => ?_)
  · obtain ⟨d, l, rfl, _⟩ := h
    rfl
  · obtain ⟨d, l, rfl, D, k⟩ := h
    refine ⟨_, (pss_cons (ps_set (i := 2) sc_L_words.nd rfl (by first | exact Or.inl rfl | exact Or.inr rfl) pe_str)
      (pss_cons (ps_set (i := 3) sc_L_words.nd rfl (by first | exact Or.inl rfl | exact Or.inr rfl) (pe_join pe_str (pe_lc (own := [("_law_k", 5)]) (g := gName 5) (by rfl) sc_L_words.nd (pi_range1 (by rfl) Z.range (pa_cons (pe_fn G_L_draw hr rfl (pa_cons (pv 0) (pa_cons pe_int pa_nil))) pa_nil)) (blkOk_by (own := [("_law_k", 5)]) (N := nm_L_words) (sc := defScope s_L_words) (by decide +kernel)) (fun _ _ _ _ _ => (pg_name (i := 5) sc_L_words.nd rfl (by first | exact Or.inl rfl | exact Or.inr rfl))) (fun _ _ _ _ _ => pts_nil) (fun _ _ _ _ _ => (pe_ix ix_str (pv 2) (pe_fn G_L_draw hr rfl (pa_cons (pv 0) (pa_cons pe_int pa_nil))) (fun _ _ => rfl))))))
      (pss_cons (ps_par (i := 7) (j := 8) (by rfl) sc_L_words.nd rfl rfl (by decide) rfl rfl (pa_cons (pe_fn G_L_draw hr rfl (pa_cons (pv 0) (pa_cons (pe_op op_add (pe_callB call_len_str (by rfl) Z.len (by decide +kernel) (pa_cons (pv 3) pa_nil)) pe_int) pa_nil))) (pa_cons (pe_fn G_L_draw hr rfl (pa_cons (pv 0) (pa_cons pe_int pa_nil))) pa_nil)) (by rfl))
      (pss_cons (ps_set (i := 4) sc_L_words.nd rfl (by first | exact Or.inl rfl | exact Or.inr rfl) (pe_lst pa_nil))
      (pss_cons (ps_for PassesOwn.never rfl (pi_range1 (by rfl) Z.range (pa_cons (pv 1) pa_nil)) (pg_name (i := 5) sc_L_words.nd rfl (by first | exact Or.inl rfl | exact Or.inr rfl)) (pss_cons (ps_set (i := 9) sc_L_words.nd rfl (by first | exact Or.inl rfl | exact Or.inr rfl) (pe_op op_add_str (pe_ix ix_str (pv 2) (pe_op op_mod (pe_op op_add (pv 8) (pv 5)) pe_int) (fun _ _ => rfl)) (pe_ix ix_str pe_str (pe_op op_fdiv (pv 5) pe_int) (fun _ _ => rfl))))
      (pss_one (ps_expr (pe_bm PySem.F.plainAttrs_list PySem.F.slot_list_append PySem.F.type_list_append mt_append (pv 4) (pa_cons (pe_op op_add_str (pe_op op_add_str (pe_op op_add_str (pe_slice sl_str (pv 3) po_none (po_some (pv 7))) (pv 9)) (pe_slice sl_str (pv 3) (po_some (pv 7)) po_none)) (pe_op op_mul_str pe_str (pe_op op_mod (pv 5) pe_int))) pa_nil))))))
      (pss_cons (ps_set (i := 6) sc_L_words.nd rfl (by first | exact Or.inl rfl | exact Or.inr rfl) (pe_fn G_L_draw hr rfl (pa_cons (pv 0) (pa_cons pe_int pa_nil))))
      (pss_cons (ps_if (pt_cmpR op_eq (pv 6) pe_int (nomark _)) (pss_one (ps_asg (pe_split pe_str pe_str) (pg_slice (pv 4) po_none (po_some pe_int)))) pss_nil)
      (pss_cons (ps_if (pt_cmpR op_eq (pv 6) pe_int (nomark _)) (pss_cons (ps_set (i := 10) sc_L_words.nd rfl (by first | exact Or.inl rfl | exact Or.inr rfl) (pe_op op_add_str pe_str (pe_join pe_str (pe_lc (own := [("_law_k", 5)]) (g := gName 5) (by rfl) sc_L_words.nd (pi_range1 (by rfl) Z.range (pa_cons pe_int pa_nil)) (blkOk_by (own := [("_law_k", 5)]) (N := nm_L_words) (sc := defScope s_L_words) (by decide +kernel)) (fun _ _ _ _ _ => (pg_name (i := 5) sc_L_words.nd rfl (by first | exact Or.inl rfl | exact Or.inr rfl))) (fun _ _ _ _ _ => pts_nil) (fun _ _ _ _ _ => (pe_ix ix_str (pv 2) (pe_fn G_L_draw hr rfl (pa_cons (pv 0) (pa_cons pe_int pa_nil))) (fun _ _ => rfl)))))))
      (pss_one (ps_asg (pe_lc (own := [("_law_k", 5)]) (g := gName 5) (by rfl) sc_L_words.nd (pi_range1 (by rfl) Z.range (pa_cons pe_int pa_nil)) (blkOk_by (own := [("_law_k", 5)]) (N := nm_L_words) (sc := defScope s_L_words) (by decide +kernel)) (fun _ _ _ _ _ => (pg_name (i := 5) sc_L_words.nd rfl (by first | exact Or.inl rfl | exact Or.inr rfl))) (fun _ _ _ _ _ => pts_nil) (fun _ _ _ _ _ => (pe_slice sl_str (pv 10) po_none (po_some (pe_op op_add (pv 5) pe_int))))) (pg_slice (pv 4) (po_some pe_int) (po_some pe_int))))) pss_nil)
      (pss_one (ps_ret (pv 4))))))))))), ?_⟩
    refine ⟨⟨_, rfl⟩, _, rfl, d, l, 4, rfl, D, by decide, by decide, fun r H1 r0 r1 D1 x1 => ⟨_, rfl, by omega, by omega, fun B hB => ?_⟩⟩
    obtain ⟨nBd, nBl⟩ := D1.nn hB
    refine lc_range (lo := 0) (n := r.toNat) (fun i H4 => Deal H4 d l ∧ Ext d l H H4 ∧ ∃ acc : List Str, H4 B = some (.lst (acc.map V.str)) ∧ acc.length ≤ i ∧ ∀ x ∈ acc, x.length = 1 ∧ Asc x)
      ⟨D1.new hB, x1.trans (Ext.new hB), [], upd_same, Nat.le_refl _, by simp⟩ ?_ ?_
    · rintro i H4 hi ⟨D4, x4, acc, a1, a2, a3⟩
      refine ⟨rfl, _, rfl, _, rfl, d, l, 26, rfl, D4, by decide, by decide, fun c H5 c0 c1 D5 x5 => ?_⟩
      obtain ⟨u, hu, mu⟩ := at_get (xs := letters.cps.toList) c0 (by rw [letters_len]; omega)
      refine ⟨_, _, u, rfl, rfl, by decide +kernel, hu, _, x5 B _ a1 nBd nBl, by rw [List.length_map]; exact sz (m := 7) (by omega), ?_⟩
      refine ⟨D5.put nBd nBl _, (x4.trans x5).upd (x1.none hB nBd nBl) _, acc ++ [⟨#[u]⟩], by rw [upd_same]; simp, by simp; omega, fun x hx => ?_⟩
      rcases List.mem_append.mp hx with q | q
      · exact a3 x q
      · rw [List.mem_singleton.mp q]; exact ⟨rfl, asc_letters.one mu⟩
    · rintro H4 ⟨D4, x4, acc, a1, a2, a3⟩
      have hsum := sum_ones a3
      refine ⟨_, B, acc, rfl, rfl, .inl (SqL.of a1), ?_, ?_⟩
      · rw [hsum]
        show acc.length + acc.length * 0 ≤ 16777216
        omega
      have hj : (Txt.join "" acc).length ≤ 3 := by rw [join0_len, hsum]; omega
      have ja : Asc (Txt.join "" acc) := Asc.join0 fun x hx => (a3 x hx).2
      generalize Txt.join "" acc = core at hj ja
      -- spot, turn
      refine ⟨_, rfl, _, rfl, _, rfl, szl (m := 3) hj, _, _, rfl, rfl, d, l, _, rfl, D4, by omega, by omega, fun spot H5 s0 s1 D5 x5 => ⟨_, rfl, d, l, 26, rfl, D5, by decide, by decide, fun turn H6 t0 t1 D6 x6 => ⟨_, _, rfl, (by show 0 ≤ sizeLine; decide), fun p hp => ?_⟩⟩⟩
      obtain ⟨npd, npl⟩ := D6.nn hp
      have x06 := x4.trans (x5.trans x6)
      have hp0 := x06.none hp npd npl
      refine ⟨_, rfl, _, rfl, by decide, by decide, ?_⟩
      refine for_range (lo := 0) (n := 60) (fun i σ H' => ∃ v5 v9 acc, σ = [some (.ref d), some (.int 60), some (.str letters), some (.str core), some (.ref p), v5, none, some (.int spot), some (.int turn), v9, none] ∧ Deal H' d l ∧ Ext d l H H' ∧ H' p = some (.lst (acc.map V.str)) ∧ acc.length = i ∧ ∀ x ∈ acc, NmOk x)
        ⟨_, _, [], rfl, D6.new hp, x06.trans (Ext.new hp), upd_same, rfl, by simp⟩ ?_ ?_
      · rintro i σ H7 hi ⟨v5, v9, acc, rfl, D7, x7, P7, hl7, ok7⟩
        have e1 : 0 ≤ (turn + (0 + (i : Int))) % 26 ∧ (turn + (0 + (i : Int))) % 26 < 26 := by omega
        have e2 : 0 ≤ (0 + (i : Int)) / 26 ∧ (0 + (i : Int)) / 26 < 4 := by omega
        obtain ⟨u, hu, mu⟩ := at_get (xs := letters.cps.toList) e1.1 (by rw [letters_len]; exact e1.2)
        obtain ⟨u', hu', mu'⟩ := at_get (xs := qxzj.cps.toList) e2.1 (by rw [qxzj_len]; exact e2.2)
        refine ⟨_, rfl, _, rfl, _, rfl, _, _, rfl, rfl, _, _, rfl, rfl, (by show (0 : Int) < 26; decide), _, _, u, rfl, rfl, by decide +kernel, hu, _, rfl, _, _, rfl, rfl, ⟨by decide, by decide⟩, _, _, u', rfl, rfl, by decide +kernel, hu', _, _, rfl, rfl, (by show 2 ≤ sizeLine; decide), ?_⟩
        have c2 := cut_two core spot s0 (by omega)
        have h2 : ((⟨#[u]⟩ : Str) ++ (⟨#[u']⟩ : Str)).length = 2 := rfl
        have e3 : 0 ≤ (0 + (i : Int)) % 2 ∧ (0 + (i : Int)) % 2 < 2 := by omega
        have h3 : (repS "z" ((0 + (i : Int)) % 2)).length ≤ 1 := by
          rw [repS_len]
          show 1 * ((0 + (i : Int)) % 2).toNat ≤ 1
          omega
        refine ⟨_, rfl, .inl ⟨rfl, _, SqL.of P7⟩, _, rfl, _, rfl, _, rfl, _, rfl, szl (m := 3) hj, _, rfl, _, _, rfl, rfl, szl (m := 10) (by omega), _, rfl, _, rfl, _, rfl, _, rfl, szl (m := 3) hj, _, _, rfl, rfl, szl (m := 10) (by rw [app_len]; omega), _, rfl, _, _, rfl, rfl, (by show (0 : Int) < 2; decide), _, _, rfl, rfl, by omega, by omega, ?_, (by show 1 ≤ sizeLine; decide), _, _, rfl, rfl, szl (m := 10) (by rw [app_len, app_len]; omega), p, _, _, rfl, rfl, P7, by rw [List.length_map]; exact sz (m := 60) (by omega), ?_⟩
        · show 1 * ((0 + (i : Int)) % 2).toNat ≤ sizeLine
          exact szl (m := 2) (by omega)
        refine ⟨_, _, acc ++ [cutS core none (some spot) ++ ((⟨#[u]⟩ : Str) ++ (⟨#[u']⟩ : Str)) ++ cutS core (some spot) none ++ repS ("z" : Str) ((0 + (i : Int)) % 2)], rfl, D7.put npd npl _, x7.upd hp0 _, by rw [upd_same, List.map_append]; rfl, by simp [hl7], fun x hx => ?_⟩
        rcases List.mem_append.mp hx with q | q
        · exact ok7 x q
        · rw [List.mem_singleton.mp q]
          refine ⟨by rw [app_len, app_len, app_len]; omega, ?_⟩
          exact (((ja.cut _ _).app ((asc_letters.one mu).app (asc_qxzj.one mu'))).app (ja.cut _ _)).app ((asc_by (by decide +kernel)).rep _)
      · rintro σ H7 ⟨v5, v9, acc, rfl, D7, x7, P7, hl7, ok7⟩
        refine ⟨_, rfl, d, l, 6, rfl, D7, by decide, by decide, fun form H8 f0 f1 D8 x8 => ?_⟩
        have P8 := x8 p _ P7 npd npl
        refine' joinC _ (fun σ H' => ∃ ws : List Str, σ = [some (.ref d), some (.int 60), some (.str letters), some (.str core), some (.ref p), v5, some (.int form), some (.int spot), some (.int turn), v9, none] ∧ Deal H' d l ∧ Ext d l H H' ∧ H' p = some (.lst (ws.map V.str)) ∧ ws.length = 60 ∧ ∀ x ∈ ws, NmOk x) ?fin ?main
        case main =>
          intro fin
          refine ⟨_, rfl, rfl, _, rfl, ite2 (fun c => ?case0) (fun c => ?case1)⟩
          case case1 => exact fin _ _ ⟨acc, rfl, D8, x7.trans x8, P8, hl7, ok7⟩
          case case0 =>
            refine ⟨⟨_, rfl⟩, _, _, rfl, rfl, by decide +kernel, by decide +kernel, fun q hq => ?_⟩
            rw [words_eq]
            have npq : p ≠ q := ne_of_none P8 hq
            refine ⟨_, rfl, _, rfl, p, q, acc.map V.str, wordsL.map V.str, 0, 14, rfl, rfl, by rw [upd_ne npq]; exact P8, upd_same, npq, rfl, .inl ⟨rfl, rfl⟩, by decide, by rw [List.length_map]; omega, by rw [List.length_map, List.length_map]; exact szl (m := 100) (by show _ + 14 ≤ 100; omega), ?_⟩
            refine fin _ _ ⟨acc.take 0 ++ wordsL ++ acc.drop 14, rfl, (D8.new hq).put npd npl _, ((x7.trans x8).trans (Ext.new hq)).upd hp0 _, ?_, ?_, fun x hx => ?_⟩
            · rw [upd_same, List.map_append, List.map_append, List.map_take, List.map_drop]
            · rw [List.length_append, List.length_append, List.length_take, List.length_drop]
              show min 0 _ + 14 + _ = 60
              omega
            · rcases List.mem_append.mp hx with q | q
              · rcases List.mem_append.mp q with q | q
                · exact ok7 x (List.mem_of_mem_take q)
                · exact words_ok x q
              · exact ok7 x (List.mem_of_mem_drop q)
        case fin =>
        rintro σ H9 ⟨ws, rfl, D9, x9, P9, hl9, ok9⟩
        refine' joinC _ (fun σ H' => ∃ (ws : List Str) (v10 : Option V), σ = [some (.ref d), some (.int 60), some (.str letters), some (.str core), some (.ref p), v5, some (.int form), some (.int spot), some (.int turn), v9, v10] ∧ Deal H' d l ∧ Ext d l H H' ∧ H' p = some (.lst (ws.map V.str)) ∧ ws.length = 60 ∧ ∀ x ∈ ws, NmOk x) ?fin2 ?main2
        case main2 =>
          intro fin
          refine ⟨_, rfl, rfl, _, rfl, ite2 (fun c => ?case2) (fun c => ?case3)⟩
          case case3 => exact fin _ _ ⟨ws, _, rfl, D9, x9, P9, hl9, ok9⟩
          case case2 =>
            refine ⟨⟨_, rfl⟩, _, rfl, by decide, by decide, fun B hB => ?_⟩
            obtain ⟨nBd, nBl⟩ := D9.nn hB
            have npB : p ≠ B := ne_of_none P9 hB
            refine lc_range (lo := 0) (n := 5) (fun i H4 => Deal H4 d l ∧ Ext d l H H4 ∧ H4 p = some (.lst (ws.map V.str)) ∧ ∃ acc : List Str, H4 B = some (.lst (acc.map V.str)) ∧ acc.length ≤ i ∧ ∀ x ∈ acc, x.length = 1 ∧ Asc x)
              ⟨D9.new hB, x9.trans (Ext.new hB), by rw [upd_ne npB]; exact P9, [], upd_same, Nat.le_refl _, by simp⟩ ?_ ?_
            · rintro i H4 hi ⟨D4, x4, P4, acc, a1, a2, a3⟩
              refine ⟨rfl, _, rfl, _, rfl, d, l, 9, rfl, D4, by decide, by decide, fun c H5 c0 c1 D5 x5 => ?_⟩
              obtain ⟨u, hu, mu⟩ := at_get (xs := letters.cps.toList) c0 (by rw [letters_len]; omega)
              refine ⟨_, _, u, rfl, rfl, by decide +kernel, hu, _, x5 B _ a1 nBd nBl, by rw [List.length_map]; exact sz (m := 7) (by omega), ?_⟩
              refine ⟨D5.put nBd nBl _, (x4.trans x5).upd (x9.none hB nBd nBl) _, by rw [upd_ne npB]; exact x5 p _ P4 npd npl, acc ++ [⟨#[u]⟩], by rw [upd_same]; simp, by simp; omega, fun x hx => ?_⟩
              rcases List.mem_append.mp hx with q | q
              · exact a3 x q
              · rw [List.mem_singleton.mp q]; exact ⟨rfl, asc_letters.one mu⟩
            · rintro H4 ⟨D4, x4, P4, acc, a1, a2, a3⟩
              have hsum := sum_ones a3
              refine ⟨_, B, acc, rfl, rfl, .inl (SqL.of a1), ?_, ?_⟩
              · rw [hsum]
                show acc.length + acc.length * 0 ≤ 16777216
                omega
              have hj : (Txt.join "" acc).length ≤ 5 := by rw [join0_len, hsum]; omega
              have ja : Asc (Txt.join "" acc) := Asc.join0 fun x hx => (a3 x hx).2
              generalize Txt.join "" acc = tl at hj ja
              refine ⟨_, _, rfl, rfl, szl (m := 10) (by show 1 + _ ≤ 10; omega), ?_⟩
              have ch6 : (("j" : Str) ++ tl).length ≤ 6 := by
                rw [app_len]
                show 1 + _ ≤ 6
                omega
              have cha : Asc (("j" : Str) ++ tl) := (asc_by (by decide +kernel)).app ja
              generalize ("j" : Str) ++ tl = chain at ch6 cha
              refine ⟨_, rfl, by decide, by decide, fun C hC => ?_⟩
              obtain ⟨nCd, nCl⟩ := D4.nn hC
              have npC : p ≠ C := ne_of_none P4 hC
              refine lc_range (lo := 0) (n := 6) (fun i H5 => Deal H5 d l ∧ Ext d l H H5 ∧ H5 p = some (.lst (ws.map V.str)) ∧ ∃ acc : List Str, H5 C = some (.lst (acc.map V.str)) ∧ acc.length = i ∧ ∀ x ∈ acc, NmOk x)
                ⟨D4.new hC, x4.trans (Ext.new hC), by rw [upd_ne npC]; exact P4, [], upd_same, rfl, by simp⟩ ?_ ?_
              · rintro i H5 hi ⟨D5, x5, P5, acc, a1, a2, a3⟩
                refine ⟨rfl, _, rfl, _, rfl, _, _, rfl, rfl, _, rfl, _, rfl, szl (m := 6) ch6, _, a1, by rw [List.length_map]; exact sz (m := 7) (by omega), ?_⟩
                refine ⟨D5.put nCd nCl _, x5.upd (x4.none hC nCd nCl) _, by rw [upd_ne npC]; exact P5, acc ++ [cutS chain none (some (0 + (i : Int) + 1))], by rw [upd_same, List.map_append]; rfl, by simp [a2], fun x hx => ?_⟩
                rcases List.mem_append.mp hx with q | q
                · exact a3 x q
                · rw [List.mem_singleton.mp q]; exact ⟨Nat.le_trans (cutS_length _ _ _) ch6, cha.cut _ _⟩
              · rintro H5 ⟨D5, x5, P5, acc, a1, a2, a3⟩
                refine ⟨_, rfl, _, rfl, _, rfl, p, C, ws.map V.str, acc.map V.str, 6, 12, rfl, rfl, P5, a1, npC, rfl, .inr rfl, by decide, by rw [List.length_map]; omega, by rw [List.length_map, List.length_map]; exact szl (m := 100) (by omega), ?_⟩
                refine fin _ _ ⟨ws.take 6 ++ acc ++ ws.drop 12, _, rfl, D5.put npd npl _, x5.upd hp0 _, ?_, ?_, fun x hx => ?_⟩
                · rw [upd_same, List.map_append, List.map_append, List.map_take, List.map_drop]
                · rw [List.length_append, List.length_append, List.length_take, List.length_drop]
                  omega
                · rcases List.mem_append.mp hx with q | q
                  · rcases List.mem_append.mp q with q | q
                    · exact ok9 x (List.mem_of_mem_take q)
                    · exact a3 x q
                  · exact ok9 x (List.mem_of_mem_drop q)
        case fin2 =>
          rintro σ H' ⟨ws, v10, rfl, D', x', P', hl', ok'⟩
          exact ⟨_, rfl, k p ws H' hp0 D' x' P' hl' ok' npd npl⟩
end
end My
set_option Elab.async false
set_option maxRecDepth 100000
set_option linter.all false
namespace My
open PySem L2
structure Bk where
  us : List (Str × List (Ex × Ex))
  fs : List Str
  b : Bl
def unkD (u : Str × List (Ex × Ex)) : PyData := .tuple [.str u.1, .tuple (u.2.map altD)]
def Bk.dat (k : Bk) : PyData := .tuple [.tuple (k.us.map unkD), .tuple (k.fs.map PyData.str), .tuple k.b.dats]
structure Bk.Ok (k : Bk) : Prop where
  u3 : k.us.length ≤ 3
  f3 : k.fs.length ≤ 3
  un : ∀ u ∈ k.us, NmOk u.1 ∧ 1 ≤ u.2.length ∧ u.2.length ≤ 4
  ua : ∀ i u, k.us[i]? = some u → ∀ a ∈ u.2, okA ((k.us.take i).map (·.1)) a
  fn : ∀ x ∈ k.fs, NmOk x
  bo : k.b.Ok (k.us.map (·.1) ++ k.fs) []
  bc : k.b.cnt ≤ 9
  bn : k.b.nest ≤ 3
theorem unkD_tp (u : Str × List (Ex × Ex)) : Tp (unkD u) := .tup fun d h => by
  simp only [List.mem_cons, List.not_mem_nil, or_false] at h
  rcases h with rfl | rfl
  · constructor
  · exact .tup fun d hd => by
      obtain ⟨a, _, rfl⟩ := List.mem_map.mp hd
      exact altD_tp a
theorem unk_tps (us : List (Str × List (Ex × Ex))) : ∀ d ∈ us.map unkD, Tp d := fun d hd => by
  obtain ⟨a, _, rfl⟩ := List.mem_map.mp hd
  exact unkD_tp a
theorem strs_tps (fs : List Str) : ∀ d ∈ fs.map PyData.str, Tp d := fun d hd => by
  obtain ⟨a, _, rfl⟩ := List.mem_map.mp hd
  constructor
theorem Bk.tp (k : Bk) : Tp k.dat := .tup fun d h => by
  simp only [List.mem_cons, List.not_mem_nil, or_false] at h
  rcases h with rfl | rfl | rfl
  · exact .tup (unk_tps _)
  · exact .tup (strs_tps _)
  · exact .tup k.b.tp
theorem dp_strs {K : PySem.W.Frag} {H : Hp} : ∀ fs : List Str, DpAll K H (fs.map V.str) (fs.map PyData.str)
  | [] => .nil
  | x :: r => .cons (.str x) (dp_strs r)
theorem kt_dk {H : Hp} {p : Addr} {xs : List (Key × V)} (h : H p = some (.dK xs)) (o : HO) : KT H (upd H p o) := fun b ys q => by
  rcases q with q | ⟨u, q⟩
  · exact .inl (by rw [upd_ne (ne_of q h (by intro z; cases z))]; exact q)
  · exact .inr ⟨u, by rw [upd_ne (ne_of q h (by intro z; cases z))]; exact q⟩
theorem mergeW (wl ul sl : Addr) : mergeK [] [(Sum.inr "words", .ref wl), (Sum.inr "unknowns", .ref ul), (Sum.inr "seen", .ref sl)] = worldKV wl ul sl := by
  have e1 : ¬ ("words" : Str) = "unknowns" := by decide +kernel
  have e2 : ¬ ("words" : Str) = "seen" := by decide +kernel
  have e3 : ¬ ("unknowns" : Str) = "seen" := by decide +kernel
  simp [mergeK, putK, worldKV, e1, e2, e3]
def knownKV (wl ul sl kn : Addr) : List (Key × V) := [(Sum.inr "words", .ref wl), (Sum.inr "unknowns", .ref ul), (Sum.inr "seen", .ref sl), (Sum.inr "known", .ref kn)]
theorem put_known (wl ul sl kn : Addr) : putK (worldKV wl ul sl) (Sum.inr "known") (.ref kn) = knownKV wl ul sl kn := by
  have e1 : ¬ ("words" : Str) = "known" := by decide +kernel
  have e2 : ¬ ("unknowns" : Str) = "known" := by decide +kernel
  have e3 : ¬ ("seen" : Str) = "known" := by decide +kernel
  simp [putK, worldKV, knownKV, e1, e2, e3]
theorem cut_fields (ws : List Str) (r : Int) (h : ws.length = 60) (r0 : 0 ≤ r) (r4 : r < 4) : cutV (ws.map V.str) (some 3) (some (3 + r)) = ((ws.drop 3).take r.toNat).map V.str := by
  rw [cutV_map]
  have e1 : HT.sIx ws.length 0 (some 3) = 3 := by
    simp only [HT.sIx]
    rw [if_neg (by decide), h]
    rfl
  have e2 : HT.sIx ws.length ws.length (some (3 + r)) = 3 + r.toNat := by
    simp only [HT.sIx]
    rw [if_neg (by omega), h]
    omega
  rw [e1, e2]
  congr 2
  omega
structure WorldAt (H : Hp) (wd wl ul sl kn : Addr) (ws : List Str) (k : Bk) : Prop where
  wd_ : H wd = some (.dK (knownKV wl ul sl kn))
  wl_ : H wl = some (.lst (ws.map V.str))
  ul_ : H ul = some (.lst ((k.us.map (·.1)).map V.str))
  sl_ : H sl = some (.lst ((k.us.map (·.1) ++ k.fs).map V.str))
  kn_ : H kn = some (.lst ((k.b.after []).map V.str))
  lw : ws.length = 60
  ow : ∀ x ∈ ws, NmOk x
def spBook (K : PySem.W.Frag) : Sp := fun vs H Q _ => ∃ (d l : Addr), vs = [.ref d] ∧ Deal H d l ∧
  ∀ (t wd wl ul sl kn : Addr) (vb : V) (ws : List Str) (bk : Bk) (H' : Hp), Deal H' d l → Ext d l H H' → SqT K H' t [.ref wd, vb] → Dp K H' vb bk.dat → bk.Ok → WorldAt H' wd wl ul sl kn ws bk → Q (.ref t) H'
section
variable {P : Program} {w : World} {K : PySem.W.Frag} {mg : Str → Option Value} {base : Heap}
set_option maxHeartbeats 8000000 in
theorem ok_book {f : Addr} {fd : FuncData} (F : Fun K "_law_book" "_law_book" s_L_book f fd) (Z : Zb mg) (G_L_draw : FnIn P w K mg base 1 "_law_draw" ps_L_draw spDraw) (G_L_words : FnIn P w K mg base 2 "_law_words" ps_L_words spWords)
    (G_L_alts : FnIn P w K mg base 6 "_law_alts" ps_L_alts (spAlts K)) (G_L_block : FnIn P w K mg base 21 "_law_block" ps_L_block (spBlock K 4)) : FnOk P w K mg base CX0 22 f fd ps_L_book (spBook K) := by
  refine F.ok sc_L_book (fun vs H Q E h => ?_) (fun cdv A outer s H vs Q E hr h => ?_)
  · obtain ⟨d, l, rfl, _⟩ := h
    rfl
  · obtain ⟨d, l, rfl, D, k⟩ := h
    have hu := hu_of hr
    refine ⟨_, (pss_cons (ps_set (i := 1) sc_L_book.nd rfl (by first | exact Or.inl rfl | exact Or.inr rfl) (pe_fn G_L_words hr rfl (pa_cons (pv 0) (pa_cons pe_int pa_nil))))
      (pss_cons (ps_par (i := 5) (j := 6) (by rfl) sc_L_book.nd rfl rfl (by decide) rfl rfl (pa_cons (pe_lst pa_nil) (pa_cons (pe_lst pa_nil) pa_nil)) (by rfl))
      (pss_cons (ps_for PassesOwn.never rfl (pi_range1 (by rfl) Z.range (pa_cons (pe_ix ix_list (pe_lst (pa_cons pe_int (pa_cons pe_int (pa_cons pe_int (pa_cons pe_int (pa_cons pe_int pa_nil)))))) (pe_fn G_L_draw hr rfl (pa_cons (pv 0) (pa_cons pe_int pa_nil))) (fun _ _ => rfl)) pa_nil)) (pg_name (i := 2) sc_L_book.nd rfl (by first | exact Or.inl rfl | exact Or.inr rfl)) (pss_cons (ps_expr (pe_bm PySem.F.plainAttrs_list PySem.F.slot_list_append PySem.F.type_list_append mt_append (pv 5) (pa_cons (pe_tup (pa_cons (pe_ix ix_list (pv 1) (pv 2) (fun _ _ => rfl)) (pa_cons (pe_fn G_L_alts hr rfl (pa_cons (pv 0) (pa_cons (pv 6) (pa_cons (pe_op op_add pe_int (pe_fn G_L_draw hr rfl (pa_cons (pv 0) (pa_cons (pe_ix ix_list (pe_lst (pa_cons pe_int (pa_cons pe_int (pa_cons pe_int pa_nil)))) (pv 2) (fun _ _ => rfl)) pa_nil)))) pa_nil)))) pa_nil))) pa_nil)))
      (pss_one (ps_expr (pe_bm PySem.F.plainAttrs_list PySem.F.slot_list_append PySem.F.type_list_append mt_append (pv 6) (pa_cons (pe_ix ix_list (pv 1) (pv 2) (fun _ _ => rfl)) pa_nil))))))
      (pss_cons (ps_set (i := 3) sc_L_book.nd rfl (by first | exact Or.inl rfl | exact Or.inr rfl) (pe_slice sl_list (pv 1) (po_some pe_int) (po_some (pe_op op_add pe_int (pe_fn G_L_draw hr rfl (pa_cons (pv 0) (pa_cons pe_int pa_nil)))))))
      (pss_cons (ps_par (i := 7) (j := 8) (by rfl) sc_L_book.nd rfl rfl (by decide) rfl rfl (pa_cons (pe_disp (pps_cons pe_str (pv 1) (pps_cons pe_str (pv 6) (pps_cons pe_str (pe_op op_cat (pv 6) (pv 3)) pps_nil))) (by rfl) (by rfl) (fun z => by cases z) (by decide)) (pa_cons (pe_lst pa_nil) pa_nil)) (by rfl))
      (pss_cons (ps_set (i := 4) sc_L_book.nd rfl (by first | exact Or.inl rfl | exact Or.inr rfl) (pe_fn G_L_block hr rfl (pa_cons (pv 0) (pa_cons (pv 7) (pa_cons (pv 8) (pa_cons (pe_lst (pa_cons pe_int (pa_cons pe_int (pa_cons pe_int pa_nil)))) (pa_cons pe_int pa_nil)))))))
      (pss_cons (ps_dput hu (pv 7) pe_str (pv 8) rfl)
      (pss_one (ps_ret (pe_tup (pa_cons (pv 7) (pa_cons (pe_tup (pa_cons (pe_callTy call_tuple_of (by rfl) Z.tuple (by decide +kernel) (pa_cons (pv 5) pa_nil)) (pa_cons (pe_callTy call_tuple_of (by rfl) Z.tuple (by decide +kernel) (pa_cons (pv 3) pa_nil)) (pa_cons (pv 4) pa_nil)))) pa_nil)))))))))))), ?_⟩
    refine ⟨_, rfl, d, l, rfl, D, fun wl ws H1 hwl D1 x1 W1 lw okw nwd nwl => ⟨(by show 0 ≤ sizeLine; decide), fun pu hpu => ⟨(by show 0 ≤ sizeLine; decide), fun pn hpn => ⟨_, _, rfl, ?_⟩⟩⟩⟩
    obtain ⟨nud, nul⟩ := D1.nn hpu
    obtain ⟨nnd, nnl⟩ := (D1.new (o := .lst []) hpu).nn hpn
    have nwu : wl ≠ pu := ne_of_none W1 hpu
    have nun : pu ≠ pn := ne_of_none upd_same hpn
    have W2 : (upd (upd H1 pu (.lst [])) pn (.lst [])) wl = some (.lst (ws.map V.str)) := by
      rw [upd_ne (ne_of_none (show (upd H1 pu (.lst [])) wl = some (.lst (ws.map V.str)) by rw [upd_ne nwu]; exact W1) hpn), upd_ne nwu]; exact W1
    have nwn : wl ≠ pn := ne_of_none (show (upd H1 pu (.lst [])) wl = some (.lst (ws.map V.str)) by rw [upd_ne nwu]; exact W1) hpn
    have U2 : (upd (upd H1 pu (.lst [])) pn (.lst [])) pu = some (.lst []) := by rw [upd_ne nun]; exact upd_same
    have D2 := (D1.new (o := .lst []) hpu).new (o := .lst []) hpn
    have x2 := (x1.trans (Ext.new (o := .lst []) hpu)).trans (Ext.new (o := .lst []) hpn)
    have hu0 : H pu = none := x1.none hpu nud nul
    have hn0 : H pn = none := (x1.trans (Ext.new (o := .lst []) hpu)).none hpn nnd nnl
    -- how many unknowns
    refine ⟨(by show 5 ≤ sizeLine; decide), fun q hq => ⟨_, rfl, d, l, 5, rfl, D2.new hq, by decide, by decide, fun r H3 r0 r1 D3 x3 => ?_⟩⟩
    obtain ⟨nq1, nq2⟩ := D2.nn hq
    obtain ⟨y, hy, my⟩ := at_get (xs := [V.int 0, V.int 1, V.int 2, V.int 2, V.int 3]) (r := r) r0 (by show r < 5; omega)
    obtain ⟨many, rfl, m0, m3⟩ : ∃ m, y = .int m ∧ 0 ≤ m ∧ m ≤ 3 := by
      simp only [List.mem_cons, List.not_mem_nil, or_false] at my
      rcases my with rfl | rfl | rfl | rfl | rfl <;> exact ⟨_, rfl, by decide, by decide⟩
    refine ⟨q, _, _, _, rfl, rfl, SqL.of (x3 q _ upd_same nq1 nq2), hy, _, rfl, by omega, by omega, ?_⟩
    have st3 : ∀ c o, (upd (upd H1 pu (.lst [])) pn (.lst [])) c = some o → c ≠ d → c ≠ l → H3 c = some o := fun c o h h1 h2 => x3 c o (by rw [upd_ne (ne_of_none h hq)]; exact h) h1 h2
    refine for_range (lo := 0) (n := many.toNat) (fun i σ H' => ∃ v2 vs us, σ = [some (.ref d), some (.ref wl), v2, none, none, some (.ref pu), some (.ref pn), none, none] ∧ Deal H' d l ∧ Ext d l H H' ∧ H' wl = some (.lst (ws.map V.str)) ∧ H' pu = some (.lst vs) ∧ DpAll K H' vs (us.map unkD) ∧ H' pn = some (.lst ((us.map (·.1)).map V.str)) ∧ us.length = i ∧
        (∀ u ∈ us, NmOk u.1 ∧ 1 ≤ u.2.length ∧ u.2.length ≤ 4) ∧ ∀ i u, us[i]? = some u → ∀ a ∈ u.2, okA ((us.take i).map (·.1)) a)
      ⟨_, [], [], rfl, D3, (x2.trans (Ext.new (o := .lst [V.int 0, V.int 1, V.int 2, V.int 2, V.int 3]) hq)).trans x3, st3 _ _ W2 nwd nwl, st3 _ _ U2 nud nul, .nil, st3 _ _ upd_same nnd nnl, rfl, by simp, by simp⟩ ?_ ?_
    · rintro i σ H4 hi ⟨v2, vs, us, rfl, D4, x4, W4, U4, dp4, N4, hl4, ok4, ua4⟩
      obtain ⟨y, hy, my⟩ := at_get (xs := ws.map V.str) (r := 0 + (i : Int)) (by omega) (by rw [List.length_map]; omega)
      obtain ⟨x, mx, rfl⟩ := List.mem_map.mp my
      obtain ⟨y, hz, mz⟩ := at_get (xs := [V.int 3, V.int 3, V.int 2]) (r := 0 + (i : Int)) (by omega) (by show _ < (3 : Int); omega)
      obtain ⟨z, rfl, z0, z1⟩ : ∃ m, y = .int m ∧ 2 ≤ m ∧ m ≤ 3 := by
        simp only [List.mem_cons, List.not_mem_nil, or_false] at mz
        rcases mz with rfl | rfl | rfl <;> exact ⟨_, rfl, by decide, by decide⟩
      refine ⟨_, rfl, .inl ⟨rfl, _, SqL.of U4⟩, _, rfl, _, rfl, wl, _, _, _, rfl, rfl, SqL.of W4, hy, _, rfl, _, rfl, _, rfl, (by show 3 ≤ sizeLine; decide), fun q3 hq3 => ⟨_, rfl, q3, _, _, _, rfl, rfl, SqL.of upd_same, hz, d, l, z, rfl, D4.new hq3, by omega, by omega, fun r4 H5 r40 r41 D5 x5 => ⟨_, _, rfl, rfl, ?_⟩⟩⟩
      have x45 := (Ext.new (o := .lst [V.int 3, V.int 3, V.int 2]) hq3).trans x5
      have NN : Nms H5 d l pn (us.map (·.1)) := ⟨x45 pn _ N4 nnd nnl, nnd, nnl, fun x hx => by
        obtain ⟨u, hu', rfl⟩ := List.mem_map.mp hx
        exact (ok4 u hu').1, by rw [List.length_map]; omega⟩
      refine ⟨d, l, pn, _, 1 + r4, rfl, D5, NN, by omega, by omega, fun va as H6 D6 x6 dp6 hl6 ok6 => ⟨(by show 2 ≤ sizeLine; decide), fun t ht => ?_⟩⟩
      have U6 := x6 pu _ (x45 pu _ U4 nud nul) nud nul
      have N6 := x6 pn _ (x45 pn _ N4 nnd nnl) nnd nnl
      have W6 := x6 wl _ (x45 wl _ W4 nwd nwl) nwd nwl
      have U7 : (upd H6 t (.tup [.str x, va])) pu = some (.lst vs) := by rw [upd_ne (ne_of_none U6 ht)]; exact U6
      have N7 : (upd H6 t (.tup [.str x, va])) pn = some (.lst ((us.map (·.1)).map V.str)) := by rw [upd_ne (ne_of_none N6 ht)]; exact N6
      have W7 : (upd H6 t (.tup [.str x, va])) wl = some (.lst (ws.map V.str)) := by rw [upd_ne (ne_of_none W6 ht)]; exact W6
      refine ⟨pu, _, _, rfl, rfl, U7, sz (m := 4) (by rw [DpAll.len dp4, List.length_map]; omega), ?_⟩
      have N8 : (upd (upd H6 t (.tup [.str x, va])) pu (.lst (vs ++ [.ref t]))) pn = some (.lst ((us.map (·.1)).map V.str)) := by rw [upd_ne (Ne.symm nun)]; exact N7
      have W8 : (upd (upd H6 t (.tup [.str x, va])) pu (.lst (vs ++ [.ref t]))) wl = some (.lst (ws.map V.str)) := by rw [upd_ne nwu]; exact W7
      refine ⟨_, rfl, .inl ⟨rfl, _, SqL.of N8⟩, _, rfl, _, rfl, wl, _, _, _, rfl, rfl, SqL.of W8, hy, pn, _, _, rfl, rfl, N8, by rw [List.length_map, List.length_map]; exact sz (m := 4) (by omega), ?_⟩
      have g7 := kt_new ht (.tup [.str x, va])
      have g8 := (kt_lst U7 (.lst (vs ++ [.ref t]))).trans (kt_lst N8 (.lst ((us.map (·.1)).map V.str ++ [.str x])))
      have g48 := ((kt_ext (x45.trans x6) D4).trans g7).trans g8
      refine ⟨_, vs ++ [.ref t], us ++ [(x, as)], rfl, ((D6.new ht).put nud nul _).put nnd nnl _, ((((x4.trans x45).trans x6).trans (Ext.new ht)).upd hu0 _).upd hn0 _, by rw [upd_ne nwn]; exact W8, by rw [upd_ne nun]; exact upd_same, ?_, by rw [upd_same]; simp, by simp [hl4], fun u hu' => ?_, fun j u hj a ha => ?_⟩
      · rw [List.map_append]
        exact DpAll.app (Dp.ktAll g48 _ _ (unk_tps us) dp4) (.cons (.tup (sqt_kt (SqT.of upd_same) g8) (.cons (.str _) (.cons (Dp.kt (g7.trans g8) _ _ (.tup fun d hd => by obtain ⟨a, _, rfl⟩ := List.mem_map.mp hd; exact altD_tp a) dp6) .nil))) .nil)
      · rcases List.mem_append.mp hu' with h | h
        · exact ok4 u h
        · rw [List.mem_singleton.mp h]
          exact ⟨okw x mx, by show 1 ≤ as.length; omega, by show as.length ≤ 4; omega⟩
      · by_cases hjl : j < us.length
        · rw [List.getElem?_append_left hjl] at hj
          rw [List.take_append_of_le_length (Nat.le_of_lt hjl)]
          exact ua4 j u hj a ha
        · have hjl' := lt_of_get hj
          rw [List.length_append] at hjl'
          have ej : j = us.length := by simp at hjl'; omega
          subst ej
          rw [List.getElem?_append_right (Nat.le_refl _), Nat.sub_self] at hj
          have hu2 : u = (x, as) := by simpa using hj.symm
          rw [List.take_append_of_le_length (Nat.le_refl _), List.take_length]
          rw [hu2] at ha
          exact ok6 a ha
    · rintro σ H4 ⟨v2, vs, us, rfl, D4, x4, W4, U4, dp4, N4, hl4, ok4, ua4⟩
      -- fields
      refine ⟨_, rfl, _, rfl, _, rfl, d, l, 4, rfl, D4, by decide, by decide, fun r5 H5 r50 r51 D5 x5 => ⟨_, _, rfl, rfl, _, rfl, wl, _, rfl, SqL.of (x5 wl _ W4 nwd nwl), fun pf hpf => ?_⟩⟩
      rw [cut_fields ws r5 lw r50 r51]
      have hfl : ((ws.drop 3).take r5.toNat).length ≤ 3 := by rw [List.length_take]; omega
      have hfo : ∀ x ∈ (ws.drop 3).take r5.toNat, NmOk x := fun x hx => okw x (List.mem_of_mem_drop (List.mem_of_mem_take hx))
      generalize (ws.drop 3).take r5.toNat = fs at hfl hfo ⊢
      obtain ⟨nfd, nfl⟩ := D5.nn hpf
      have st5 : ∀ c o, H4 c = some o → c ≠ d → c ≠ l → (upd H5 pf (.lst (fs.map V.str))) c = some o := fun c o h h1 h2 => by
        have h3 := x5 c o h h1 h2
        rw [upd_ne (ne_of_none h3 hpf)]
        exact h3
      have Wf := st5 _ _ W4 nwd nwl
      have Uf := st5 _ _ U4 nud nul
      have Nf := st5 _ _ N4 nnd nnl
      have Pf : (upd H5 pf (.lst (fs.map V.str))) pf = some (.lst (fs.map V.str)) := upd_same
      have Df := D5.new (o := .lst (fs.map V.str)) hpf
      have xf := (x4.trans x5).trans (Ext.new (o := .lst (fs.map V.str)) hpf)
      have gf : KT H4 (upd H5 pf (.lst (fs.map V.str))) := (kt_ext x5 D4).trans (kt_new hpf _)
      have dpf := Dp.ktAll gf _ _ (unk_tps us) dp4
      generalize hHf : upd H5 pf (.lst (fs.map V.str)) = Hf at Wf Uf Nf Pf Df xf dpf
      -- world, known
      intro wd hwd
      have s1 : Same Hf (upd Hf wd (.dK [])) := same_new hwd _
      refine ⟨_, rfl, _, rfl, _, rfl, _, rfl, pn, pf, _, _, rfl, rfl, s1 _ _ Nf, s1 _ _ Pf, by rw [List.length_map, List.length_map, List.length_map]; exact szl (m := 10) (by omega), fun sl hsl => ?_⟩
      rw [← List.map_append]
      have nws : wd ≠ sl := ne_of_none upd_same hsl
      refine ⟨by rw [upd_ne nws]; exact upd_same, [(Sum.inr "words", .ref wl), (Sum.inr "unknowns", .ref pn), (Sum.inr "seen", .ref sl)], rfl, (by show 3 ≤ 15; decide), ?_⟩
      rw [mergeW]
      have hsl0 : Hf sl = none := s1.free hsl
      have sW : Same Hf (upd (upd (upd Hf wd (.dK [])) sl (.lst ((us.map (·.1) ++ fs).map V.str))) wd (.dK (worldKV wl pn sl))) := same_upd (same_upd s1 hsl0 _) hwd _
      have Swd : (upd (upd (upd Hf wd (.dK [])) sl (.lst ((us.map (·.1) ++ fs).map V.str))) wd (.dK (worldKV wl pn sl))) wd = some (.dK (worldKV wl pn sl)) := upd_same
      have Ssl : (upd (upd (upd Hf wd (.dK [])) sl (.lst ((us.map (·.1) ++ fs).map V.str))) wd (.dK (worldKV wl pn sl))) sl = some (.lst ((us.map (·.1) ++ fs).map V.str)) := by rw [upd_ne (Ne.symm nws)]; exact upd_same
      refine ⟨(by show 0 ≤ sizeLine; decide), fun kn hkn => ⟨_, _, rfl, _, rfl, _, rfl, _, rfl, (by show 3 ≤ sizeLine; decide), fun rm hrm => ?_⟩⟩
      have nw : ∀ b o, Hf b = some o → b ≠ wd := fun b o h => ne_of_none h hwd
      have ns : ∀ b o, Hf b = some o → b ≠ sl := fun b o h => ne_of_none h hsl0
      have s2 := same_new hkn (.lst [])
      have s3 := same_new hrm (.lst [.int 30, .int 5, .int 9])
      have hkn0 : Hf kn = none := sW.free hkn
      have hrm1 := s2.free hrm
      have hrm0 : Hf rm = none := sW.free hrm1
      have sB := (sW.trans s2).trans s3
      obtain ⟨ds, dn, dl, d1, d2, d3⟩ := Df
      have Df : Deal Hf d l := ⟨ds, dn, dl, d1, d2, d3⟩
      have ndl : d ≠ l := ne_of d1 d2 (by intro z; cases z)
      have nkr : rm ≠ kn := fun e => by rw [e, upd_same] at hrm; cases hrm
      have EE : Envb (upd (upd (upd (upd (upd Hf wd (.dK [])) sl (.lst ((us.map (·.1) ++ fs).map V.str))) wd (.dK (worldKV wl pn sl))) kn (.lst [])) rm (.lst [.int 30, .int 5, .int 9])) d l wd wl sl kn rm ws (us.map (·.1) ++ fs) [] 30 5 9 :=
        ⟨Df.same sB, ⟨ndl, Ne.symm (nw _ _ d1), Ne.symm (ne_of_none d1 hkn0), Ne.symm (ne_of_none d1 hrm0), Ne.symm (nw _ _ d2), nwl, Ne.symm (ns _ _ d2), Ne.symm (ne_of_none d2 hkn0), Ne.symm (ne_of_none d2 hrm0),
          ne_of_none Swd hkn, ne_of_none Wf hkn0, ne_of_none Ssl hkn, nkr, ne_of_none Swd hrm1, ne_of_none Wf hrm0, ne_of_none Ssl hrm1, nwd, Ne.symm (ns _ _ d1)⟩, ⟨pn, s3 _ _ (s2 _ _ Swd)⟩, sB _ _ Wf, s3 _ _ (s2 _ _ Ssl), s3 _ _ upd_same, upd_same, okw, fun x hx => ?_, by simp, by omega, by omega, ?_, by decide, by decide, by decide, by decide⟩
      rotate_left
      · rcases List.mem_append.mp hx with h | h
        · obtain ⟨u, hu', rfl⟩ := List.mem_map.mp h
          exact (ok4 u hu').1
        · exact hfo x h
      · rw [List.length_append, List.length_map]
        omega
      refine ⟨d, l, wd, wl, sl, kn, rm, ws, us.map (·.1) ++ fs, [], 30, 5, 9, 0, rfl, EE, by decide, by decide, by decide, fun v b ks' v0 v1 v2 H9 E9 X9 dp9 ok9 af9 c9 l9 _ _ ns9 => ?_⟩
      have AP := EE.ap
      have st9 : ∀ c o, Hf c = some o → c ≠ d → c ≠ l → H9 c = some o := fun c o h h1 h2 => X9 c o (sB c o h) h1 h2 (ne_of_none h hkn0) (ne_of_none h hrm0)
      have W9 := st9 _ _ Wf nwd nwl
      have U9 := st9 _ _ Uf nud nul
      have N9 := st9 _ _ Nf nnd nnl
      have P9 := st9 _ _ Pf nfd nfl
      have wd9 : H9 wd = some (.dK (worldKV wl pn sl)) := X9 wd _ (s3 _ _ (s2 _ _ Swd)) AP.dw AP.lw AP.kw AP.rw'
      have g9 : KT Hf H9 := (kt_same sB).trans (kt_x4 X9 EE)
      refine ⟨_, rfl, _, rfl, wd, _, rfl, .inl ⟨_, Sum.inr "known", wd9, rfl, (by show 3 < sizeLine; decide), rfl⟩, ?_⟩
      rw [put_known]
      have ex : ∀ c o, H9 c = some o → c ≠ wd → (upd H9 wd (.dK (knownKV wl pn sl kn))) c = some o := fun c o h h1 => by rw [upd_ne h1]; exact h
      have g10 := kt_dk wd9 (.dK (knownKV wl pn sl kn))
      have W10 := ex _ _ W9 (nw _ _ Wf)
      have U10 := ex _ _ U9 (nw _ _ Uf)
      have N10 := ex _ _ N9 (nw _ _ Nf)
      have P10 := ex _ _ P9 (nw _ _ Pf)
      have S10 := ex _ _ E9.sl_ (Ne.symm nws)
      have K10 := ex _ _ E9.kn_ (Ne.symm AP.kw)
      have D10 : Deal (upd H9 wd (.dK (knownKV wl pn sl kn))) d l := E9.D.put AP.dw AP.lw _
      have wd10 : (upd H9 wd (.dK (knownKV wl pn sl kn))) wd = some (.dK (knownKV wl pn sl kn)) := upd_same
      have x10 : Ext d l H (upd H9 wd (.dK (knownKV wl pn sl kn))) := fun c o h h1 h2 => ex _ _ (st9 c o (xf c o h h1 h2) h1 h2) (nw _ _ (xf c o h h1 h2))
      have dpu := Dp.ktAll (g9.trans g10) _ _ (unk_tps us) dpf
      have dpb := Dp.kt g10 _ _ (.tup b.tp) dp9
      generalize upd H9 wd (.dK (knownKV wl pn sl kn)) = H10 at W10 U10 N10 P10 S10 K10 D10 wd10 x10 dpu dpb ⊢
      refine ⟨_, rfl, _, rfl, pu, _, rfl, .inl ⟨SqL.of U10, fun t1 ht1 => ⟨_, rfl, pf, _, rfl, .inl ⟨SqL.of (same_new ht1 _ _ _ P10), fun t2 ht2 => ⟨_, rfl, (by show 3 ≤ sizeLine; decide), fun t3 ht3 => ⟨(by show 2 ≤ sizeLine; decide), fun t4 ht4 => ?_⟩⟩⟩⟩⟩⟩
      have q1 := same_new ht1 (.tup vs)
      have q2 := same_new ht2 (.tup (fs.map V.str))
      have q3 := same_new ht3 (.tup [.ref t1, .ref t2, v])
      have q4 := same_new ht4 (.tup [.ref wd, .ref t3])
      have qq := ((q1.trans q2).trans q3).trans q4
      refine k t4 wd wl pn sl kn (.ref t3) ws ⟨us, fs, b⟩ _ (D10.same qq) (x10.trans (Ext.ofSame qq)) (SqT.of upd_same) ?_ ⟨by show us.length ≤ 3; omega, hfl, ok4, ua4, hfo, ok9, by show b.cnt ≤ 9; have := E9.b2; omega, by show b.nest ≤ 3; omega⟩ ⟨qq _ _ wd10, qq _ _ W10, qq _ _ N10, qq _ _ S10, by rw [af9]; exact qq _ _ K10, lw, okw⟩
      refine .tup (SqT.of (q4 _ _ upd_same)) (.cons (.tup (SqT.of (q4 _ _ (q3 _ _ (q2 _ _ upd_same)))) ?_) (.cons (.tup (SqT.of (q4 _ _ (q3 _ _ upd_same))) (dp_strs fs)) (.cons ?_ .nil)))
      · exact Dp.ktAll (kt_same qq) _ _ (unk_tps us) dpu
      · exact Dp.kt (kt_same qq) _ _ (.tup b.tp) dpb
end
end My
set_option Elab.async false
set_option maxRecDepth 100000
set_option linter.all false
namespace My
open PySem L2
theorem tupOpen {K : PySem.W.Frag} {H : Hp} {v : V} {ds : List PyData} (h : Dp K H v (.tuple ds)) : ∃ a vs, v = .ref a ∧ SqT K H a vs ∧ DpAll K H vs ds := by
  cases h with
  | tup hs ha => exact ⟨_, _, rfl, hs, ha⟩
theorem iteST {x : Str} {A B : Prop} (h : A) : if decide (V.str x = V.str x) = true then A else B := by
  rw [decide_eq_true rfl]
  exact iteT h
theorem iteSF {x y : Str} {A B : Prop} (hn : x ≠ y) (h : B) : if decide (V.str x = V.str y) = true then A else B := by
  rw [decide_eq_false (fun e => hn (V.str.inj e))]
  exact iteF h
theorem iteB {b : Bool} {A B : Prop} (e : b = false) (h : B) : if b = true then A else B := by subst e; exact iteF h
theorem iteBT {b : Bool} {A B : Prop} (e : b = true) (h : A) : if b = true then A else B := by subst e; exact iteT h
theorem cut_tail (x : V) (tl : List V) : cutV (x :: tl) (some 1) none = tl := by
  have e1 : HT.sIx (x :: tl).length 0 (some 1) = 1 := by
    simp only [HT.sIx]
    rw [if_neg (by decide), List.length_cons]
    omega
  have e2 : HT.sIx (x :: tl).length (x :: tl).length none = (x :: tl).length := rfl
  unfold cutV
  rw [e1, e2]
  simp
theorem nw_tail (x : V) (tl : List V) : ¬ (HT.sIx (x :: tl).length 0 (some 1) = 0 ∧ HT.sIx (x :: tl).length (x :: tl).length none = (x :: tl).length) := by
  have e1 : HT.sIx (x :: tl).length 0 (some 1) = 1 := by
    simp only [HT.sIx]
    rw [if_neg (by decide), List.length_cons]
    omega
  rw [e1]
  omega
def Bl.toL : Bl → List Sm
  | .nil => []
  | .cons s b => s :: b.toL
theorem Bl.dats_toL : ∀ b : Bl, b.dats = b.toL.map Sm.dat
  | .nil => by simp [Bl.dats, Bl.toL]
  | .cons s b => by simp [Bl.dats, Bl.toL, Bl.dats_toL b]
theorem Bl.nest_toL : ∀ (b : Bl) (s : Sm), s ∈ b.toL → s.nest ≤ b.nest
  | .nil, s, h => by simp [Bl.toL] at h
  | .cons t b, s, h => by
    simp only [Bl.toL, List.mem_cons] at h
    simp only [Bl.nest]
    rcases h with rfl | h
    · omega
    · have := Bl.nest_toL b s h; omega
def X1 (p : Addr) (H H' : Hp) : Prop := ∀ b o, H b = some o → b ≠ p → H' b = some o
theorem X1.refl {p : Addr} {H : Hp} : X1 p H H := fun _ _ h _ => h
theorem X1.trans {p : Addr} {H H1 H2 : Hp} (a : X1 p H H1) (b : X1 p H1 H2) : X1 p H H2 := fun c o h n => b c o (a c o h n) n
theorem x1_same {p : Addr} {H H' : Hp} (s : Same H H') : X1 p H H' := fun b o h _ => s b o h
theorem x1_put {p : Addr} {H : Hp} {o : HO} : X1 p H (upd H p o) := fun b u h n => by rw [upd_ne n]; exact h
theorem kt_x1 {p : Addr} {H H' : Hp} {xs : List V} (x : X1 p H H') (g : H p = some (.lst xs)) : KT H H' := fun b ys h => by
  rcases h with h | ⟨o, h⟩
  · exact .inl (x _ _ h (ne_of h g (by intro z; cases z)))
  · exact .inr ⟨o, x _ _ h (ne_of h g (by intro z; cases z))⟩
/-- a statement opened -/
theorem Sm.open {K : PySem.W.Frag} {H : Hp} {v : V} {s : Sm} (h : Dp K H v s.dat) : ∃ a xs, v = .ref a ∧ SqT K H a xs ∧ (match s with
    | .draw x _ => ∃ va, xs = [.str "draw", .str x, va]
    | .set x _ => ∃ ve, xs = [.str "set", .str x, ve]
    | .see _ => ∃ ve, xs = [.str "see", ve]
    | .ite _ b c => ∃ ve vb vc, xs = [.str "if", ve, vb, vc] ∧ Dp K H vb (.tuple b.dats) ∧ Dp K H vc (.tuple c.dats)
    | .times k b => ∃ vb, xs = [.str "times", .int k, vb] ∧ Dp K H vb (.tuple b.dats)) := by
  cases s with
  | draw x as =>
    simp only [Sm.dat] at h
    obtain ⟨a, vs, rfl, hs, hd⟩ := tupOpen h
    cases hd with | cons h1 r => cases h1; cases r with | cons h2 r => cases h2; cases r with | cons h3 r => cases r; exact ⟨_, _, rfl, hs, _, rfl⟩
  | set x e =>
    simp only [Sm.dat] at h
    obtain ⟨a, vs, rfl, hs, hd⟩ := tupOpen h
    cases hd with | cons h1 r => cases h1; cases r with | cons h2 r => cases h2; cases r with | cons h3 r => cases r; exact ⟨_, _, rfl, hs, _, rfl⟩
  | see e =>
    simp only [Sm.dat] at h
    obtain ⟨a, vs, rfl, hs, hd⟩ := tupOpen h
    cases hd with | cons h1 r => cases h1; cases r with | cons h2 r => cases r; exact ⟨_, _, rfl, hs, _, rfl⟩
  | ite e b c =>
    simp only [Sm.dat] at h
    obtain ⟨a, vs, rfl, hs, hd⟩ := tupOpen h
    cases hd with | cons h1 r => cases h1; cases r with | cons h2 r => cases r with | cons h3 r => cases r with | cons h4 r => cases r; exact ⟨_, _, rfl, hs, _, _, _, rfl, h3, h4⟩
  | times k b =>
    simp only [Sm.dat] at h
    obtain ⟨a, vs, rfl, hs, hd⟩ := tupOpen h
    cases hd with | cons h1 r => cases h1; cases r with | cons h2 r => cases h2; cases r with | cons h3 r => cases r; exact ⟨_, _, rfl, hs, _, rfl, h3⟩
end My
set_option Elab.async false
set_option maxRecDepth 100000
set_option linter.all false
namespace My
open PySem L2
/-- statements of any sort, by their sizes -/
def eF (e : Ex) : Prop := e.parts.length ≤ 100
mutual
def Sm.Ft : Sm → Prop
  | .draw x as => NmOk x ∧ as.length ≤ 10 ∧ ∀ a ∈ as, eF a.1 ∧ eF a.2
  | .set x e => NmOk x ∧ eF e
  | .see e => eF e
  | .ite e a b => eF e ∧ a.Ft ∧ b.Ft
  | .times k b => (1 ≤ k ∧ k ≤ 100) ∧ b.Ft
def Bl.Ft : Bl → Prop
  | .nil => True
  | .cons s b => s.Ft ∧ b.Ft
end
mutual
def Sm.mr : Sm → Nat
  | .draw _ _ => 1
  | .set _ _ => 1
  | .see _ => 1
  | .ite _ a b => 1 + a.mr + b.mr
  | .times k b => k.toNat * b.mr
def Bl.mr : Bl → Nat
  | .nil => 0
  | .cons s b => s.mr + b.mr
end
mutual
def Sm.unr : Sm → List Sm
  | .draw x as => [.draw x as]
  | .set x e => [.set x e]
  | .see e => [.see e]
  | .ite e a b => [.ite e a b]
  | .times k b => (List.replicate k.toNat b.unr).flatten
def Bl.unr : Bl → List Sm
  | .nil => []
  | .cons s b => s.unr ++ b.unr
end
def mrL (ss : List Sm) : Nat := (ss.map Sm.mr).sum
theorem mrL_app (a b : List Sm) : mrL (a ++ b) = mrL a + mrL b := by simp [mrL]
theorem mrL_rep (n : Nat) (a : List Sm) : mrL (List.replicate n a).flatten = n * mrL a := by
  induction n with
  | zero => simp [mrL]
  | succ n ih => rw [List.replicate_succ, List.flatten_cons, mrL_app, ih, Nat.succ_mul, Nat.add_comm]
/-- not a times -/
def Sm.flat : Sm → Bool
  | .times _ _ => false
  | _ => true
structure Un (nest : Nat) (s : Sm) : Prop where
  f : s.Ft
  n : s.nest ≤ nest
  t : s.flat = true
mutual
theorem Sm.mr_unr : ∀ s : Sm, mrL s.unr = s.mr
  | .draw _ _ => by simp [Sm.unr, mrL, Sm.mr]
  | .set _ _ => by simp [Sm.unr, mrL, Sm.mr]
  | .see _ => by simp [Sm.unr, mrL, Sm.mr]
  | .ite _ _ _ => by simp [Sm.unr, mrL, Sm.mr]
  | .times k b => by simp only [Sm.unr, mrL_rep, Sm.mr, Bl.mr_unr b]
theorem Bl.mr_unr : ∀ b : Bl, mrL b.unr = b.mr
  | .nil => by simp [Bl.unr, mrL, Bl.mr]
  | .cons s b => by simp only [Bl.unr, mrL_app, Bl.mr, Sm.mr_unr s, Bl.mr_unr b]
end
mutual
theorem Sm.unr_ok : ∀ (s : Sm), s.Ft → ∀ q ∈ s.unr, Un s.nest q
  | .draw x as, h, q, hq => by simp only [Sm.unr, List.mem_singleton] at hq; subst hq; exact ⟨h, Nat.le_refl _, rfl⟩
  | .set x e, h, q, hq => by simp only [Sm.unr, List.mem_singleton] at hq; subst hq; exact ⟨h, Nat.le_refl _, rfl⟩
  | .see e, h, q, hq => by simp only [Sm.unr, List.mem_singleton] at hq; subst hq; exact ⟨h, Nat.le_refl _, rfl⟩
  | .ite e a b, h, q, hq => by simp only [Sm.unr, List.mem_singleton] at hq; subst hq; exact ⟨h, Nat.le_refl _, rfl⟩
  | .times k b, h, q, hq => by
    simp only [Sm.unr] at hq
    simp only [Sm.Ft] at h
    obtain ⟨l, hl, hq⟩ := List.mem_flatten.mp hq
    rw [(List.mem_replicate.mp hl).2] at hq
    have := Bl.unr_ok b h.2 q hq
    exact ⟨this.f, by simp only [Sm.nest]; have := this.n; omega, this.t⟩
theorem Bl.unr_ok : ∀ (b : Bl), b.Ft → ∀ q ∈ b.unr, Un b.nest q
  | .nil, h, q, hq => by simp [Bl.unr] at hq
  | .cons s b, h, q, hq => by
    simp only [Bl.unr] at hq
    simp only [Bl.Ft] at h
    simp only [Bl.nest]
    rcases List.mem_append.mp hq with hq | hq
    · have := Sm.unr_ok s h.1 q hq
      exact ⟨this.f, by have := this.n; omega, this.t⟩
    · have := Bl.unr_ok b h.2 q hq
      exact ⟨this.f, by have := this.n; omega, this.t⟩
end
theorem Sm.mr_pos {s : Sm} (h : s.flat = true) : 1 ≤ s.mr := by
  cases s <;> simp [Sm.flat] at h <;> simp [Sm.mr] <;> omega
theorem len_mrL : ∀ {ss : List Sm}, (∀ s ∈ ss, s.flat = true) → ss.length ≤ mrL ss
  | [], _ => Nat.zero_le _
  | s :: r, h => by
    have := len_mrL (ss := r) fun q hq => h q (by simp [hq])
    have := Sm.mr_pos (h s (by simp))
    unfold mrL at *
    simp only [List.map_cons, List.sum_cons, List.length_cons]
    omega
theorem mrL_take (ss : List Sm) (i : Nat) : mrL (ss.take i) ≤ mrL ss := by
  have : mrL (ss.take i) + mrL (ss.drop i) = mrL ss := by rw [← mrL_app, List.take_append_drop]
  omega
abbrev AreS (K : PySem.W.Frag) (H : Hp) (vs : List V) (ss : List Sm) : Prop := DpAll K H vs (ss.map Sm.dat)
theorem smTps (ss : List Sm) : ∀ d ∈ ss.map Sm.dat, Tp d := fun d h => by
  obtain ⟨s, _, rfl⟩ := List.mem_map.mp h
  exact s.tp
section
variable {K : PySem.W.Frag} {H H' : Hp}
theorem AreS.kt {vs : List V} {ss : List Sm} (h : AreS K H vs ss) (k : KT H H') : AreS K H' vs ss := Dp.ktAll k _ _ (smTps ss) h
theorem AreS.app {vs us : List V} {ss ts : List Sm} (h : AreS K H vs ss) (h' : AreS K H us ts) : AreS K H (vs ++ us) (ss ++ ts) := by
  show DpAll K H _ ((ss ++ ts).map Sm.dat)
  rw [List.map_append]
  exact DpAll.app h h'
theorem AreS.len {vs : List V} {ss : List Sm} (h : AreS K H vs ss) : vs.length = ss.length := by have := DpAll.len h; simpa using this
theorem AreS.get {vs : List V} {ss : List Sm} {i : Nat} {v : V} (h : AreS K H vs ss) (hv : vs[i]? = some v) : ∃ s, ss[i]? = some s ∧ Dp K H v s.dat := by
  obtain ⟨d, hd, q⟩ := DpAll.get h hv
  rw [List.getElem?_map] at hd
  obtain ⟨s, hs, rfl⟩ := Option.map_eq_some_iff.mp hd
  exact ⟨s, hs, q⟩
theorem AreS.rep {vs : List V} {ss : List Sm} (h : AreS K H vs ss) : ∀ n, AreS K H (List.replicate n vs).flatten (List.replicate n ss).flatten
  | 0 => .nil
  | n + 1 => by
    rw [List.replicate_succ, List.flatten_cons, List.replicate_succ, List.flatten_cons]
    exact h.app (AreS.rep h n)
end
def spUn (K : PySem.W.Frag) (n : Nat) : Sp := fun vs H Q _ => ∃ (v : V) (b : Bl), vs = [v] ∧ Dp K H v (.tuple b.dats) ∧ b.Ft ∧ b.nest < n ∧ b.mr ≤ 1000 ∧ ∀ (r : Addr) (ys : List V) (H' : Hp), H r = none → Same H H' → H' r = some (.lst ys) → AreS K H' ys b.unr → Q (.ref r) H'
def spMR (K : PySem.W.Frag) (n : Nat) : Sp := fun vs H Q _ => ∃ (v : V) (b : Bl), vs = [v] ∧ Dp K H v (.tuple b.dats) ∧ b.Ft ∧ b.nest < n ∧ b.mr ≤ 1000 ∧ ∀ H', Same H H' → Q (.int (b.mr : Int)) H'
def unrL (ss : List Sm) : List Sm := ss.flatMap Sm.unr
theorem Bl.unr_toL : ∀ b : Bl, b.unr = unrL b.toL
  | .nil => by simp [Bl.unr, unrL, Bl.toL]
  | .cons s b => by simp only [Bl.unr, unrL, Bl.toL, List.flatMap_cons, Bl.unr_toL b]
theorem unrL_snoc (ss : List Sm) (s : Sm) : unrL (ss ++ [s]) = unrL ss ++ s.unr := by simp [unrL]
theorem Bl.ft_toL : ∀ b : Bl, b.Ft ↔ ∀ s ∈ b.toL, s.Ft
  | .nil => by simp [Bl.Ft, Bl.toL]
  | .cons s b => by simp [Bl.Ft, Bl.toL, Bl.ft_toL b]
theorem Bl.mr_toL : ∀ b : Bl, b.mr = mrL b.toL
  | .nil => by simp [Bl.mr, mrL, Bl.toL]
  | .cons s b => by simp [Bl.mr, mrL, Bl.toL, Bl.mr_toL b]
theorem mrL_unrL (ss : List Sm) : mrL (unrL ss) = mrL ss := by
  induction ss with
  | nil => rfl
  | cons s r ih =>
    show mrL (s.unr ++ unrL r) = _
    rw [mrL_app, ih, Sm.mr_unr]
    simp [mrL]
section
variable {P : Program} {w : World} {K : PySem.W.Frag} {mg : Str → Option Value} {base : Heap}
set_option maxHeartbeats 8000000 in
theorem ok_un {f : Addr} {fd : FuncData} (n : Nat) (F : Fun K "unrolled" "unrolled" s_unrolled f fd) (Z : Zb mg) (G_unrolled : FnIn P w K mg base (n + 1) "unrolled" ps_unrolled (spUn K n)) : FnOk P w K mg base CX0 (n + 2) f fd ps_unrolled (spUn K (n + 1)) := by
  refine F.ok sc_unrolled (fun vs H Q E h => ?_) (fun cdv A outer s H vs Q E hr h => ?_)
  · obtain ⟨v, b, rfl, _⟩ := h
    rfl
  · obtain ⟨v, b, rfl, hb, hf, hn, h1000, k⟩ := h
    refine ⟨_, (pss_cons (ps_set (i := 1) sc_unrolled.nd rfl (by first | exact Or.inl rfl | exact Or.inr rfl) (pe_lst pa_nil))
      (pss_cons (ps_for PassesOwn.never rfl (pi_tup (pv 0)) (pg_name (i := 2) sc_unrolled.nd rfl (by first | exact Or.inl rfl | exact Or.inr rfl)) (pss_one (ps_if (pt_cmpR op_eq (pe_ix ix_tup (pv 2) pe_int (fun _ _ => rfl)) pe_str (nomark _)) (pss_one (ps_expr (pe_bm PySem.F.plainAttrs_list PySem.F.slot_list_extend PySem.F.type_list_extend mt_extend (pv 1) (pa_cons (pe_op op_rep (pe_fn G_unrolled hr rfl (pa_cons (pe_ix ix_tup (pv 2) pe_int (fun _ _ => rfl)) pa_nil)) (pe_ix ix_tup (pv 2) pe_int (fun _ _ => rfl))) pa_nil)))) (pss_one (ps_expr (pe_bm PySem.F.plainAttrs_list PySem.F.slot_list_append PySem.F.type_list_append mt_append (pv 1) (pa_cons (pv 2) pa_nil)))))))
      (pss_one (ps_ret (pv 1))))), ?_⟩
    obtain ⟨ba, bvs, rfl, hsq, hdp⟩ := tupOpen hb
    rw [Bl.dats_toL] at hdp
    have hlen := DpAll.len hdp
    rw [List.length_map] at hlen
    refine ⟨(by show 0 ≤ sizeLine; decide), fun p hp => ?_⟩
    refine ⟨_, rfl, ba, rfl, ⟨_, sqt_kt hsq (kt_new hp _)⟩, ?_⟩
    refine for_tup (K := K) (a := ba) (xs := bvs) (fun i σ Hi => ∃ acc v2, σ = [some (.ref ba), some (.ref p), v2] ∧ Same H Hi ∧ Hi p = some (.lst acc) ∧ AreS K Hi acc (unrL (b.toL.take i)))
      ⟨[], _, rfl, same_new hp _, upd_same, .nil⟩ (fun i σ Hi _ ⟨_, _, _, s, _⟩ => sqt_kt hsq (kt_same s)) ?_ ?_
    · rintro i u σ Hi hu' ⟨acc, v2, rfl, si, gp, ha⟩
      obtain ⟨dd, hd, hvd⟩ := DpAll.get hdp hu'
      rw [List.getElem?_map] at hd
      obtain ⟨sm, hsm, rfl⟩ := Option.map_eq_some_iff.mp hd
      have mem := List.mem_of_getElem? hsm
      have sf := (Bl.ft_toL b).mp hf sm mem
      have nn := Bl.nest_toL b sm mem
      have hvi := Dp.kt (kt_same si) _ _ (Sm.tp sm) hvd
      have fl : ∀ q ∈ unrL (b.toL.take (i + 1)), q.flat = true := fun q hq => by
        obtain ⟨z, hz, hq⟩ := List.mem_flatMap.mp hq
        exact (Sm.unr_ok z ((Bl.ft_toL b).mp hf z (List.mem_of_mem_take hz)) q hq).t
      have lall : (unrL (b.toL.take (i + 1))).length ≤ 1000 := by
        have h1 := len_mrL fl
        rw [mrL_unrL] at h1
        have h2 := mrL_take b.toL (i + 1)
        rw [← Bl.mr_toL] at h2
        omega
      rw [take_snoc hsm, unrL_snoc, List.length_append] at lall
      have lacc := ha.len
      obtain ⟨a, xs, rfl, hs, hx⟩ := Sm.open hvi
      have one : ∀ (hu1 : sm.unr = [sm]), ∃ acc' v2', [some (V.ref ba), some (.ref p), some (.ref a)] = [some (V.ref ba), some (.ref p), v2'] ∧ Same H (upd Hi p (.lst (acc ++ [.ref a]))) ∧ upd Hi p (.lst (acc ++ [.ref a])) p = some (.lst acc') ∧ AreS K (upd Hi p (.lst (acc ++ [.ref a]))) acc' (unrL (b.toL.take (i + 1))) := fun hu1 => by
        have kp := kt_lst gp (.lst (acc ++ [.ref a]))
        refine ⟨acc ++ [.ref a], _, rfl, same_upd si hp _, upd_same, ?_⟩
        rw [take_snoc hsm, unrL_snoc, hu1]
        exact (ha.kt kp).app (.cons (Dp.kt kp _ _ (Sm.tp sm) hvi) .nil)
      cases sm with
      | draw x as =>
        obtain ⟨va, rfl⟩ := hx
        refine ⟨_, rfl, a, _, _, .str "draw", rfl, rfl, hs, rfl, rfl, _, rfl, iteSF (by decide +kernel) ?_⟩
        exact ⟨_, rfl, .inl ⟨rfl, _, SqL.of gp⟩, _, rfl, p, _, _, rfl, rfl, gp, sz (m := 1000) (by omega), one (by simp [Sm.unr])⟩
      | set x e =>
        obtain ⟨va, rfl⟩ := hx
        refine ⟨_, rfl, a, _, _, .str "set", rfl, rfl, hs, rfl, rfl, _, rfl, iteSF (by decide +kernel) ?_⟩
        exact ⟨_, rfl, .inl ⟨rfl, _, SqL.of gp⟩, _, rfl, p, _, _, rfl, rfl, gp, sz (m := 1000) (by omega), one (by simp [Sm.unr])⟩
      | see e =>
        obtain ⟨va, rfl⟩ := hx
        refine ⟨_, rfl, a, _, _, .str "see", rfl, rfl, hs, rfl, rfl, _, rfl, iteSF (by decide +kernel) ?_⟩
        exact ⟨_, rfl, .inl ⟨rfl, _, SqL.of gp⟩, _, rfl, p, _, _, rfl, rfl, gp, sz (m := 1000) (by omega), one (by simp [Sm.unr])⟩
      | ite e b1 c1 =>
        obtain ⟨ve, vb, vc, rfl, _⟩ := hx
        refine ⟨_, rfl, a, _, _, .str "if", rfl, rfl, hs, rfl, rfl, _, rfl, iteSF (by decide +kernel) ?_⟩
        exact ⟨_, rfl, .inl ⟨rfl, _, SqL.of gp⟩, _, rfl, p, _, _, rfl, rfl, gp, sz (m := 1000) (by omega), one (by simp [Sm.unr])⟩
      | times m b1 =>
        obtain ⟨vb, rfl, hb1⟩ := hx
        simp only [Sm.Ft] at sf
        simp only [Sm.nest] at nn
        have h2 := mrL_take b.toL (i + 1)
        rw [take_snoc hsm, mrL_app, ← Bl.mr_toL] at h2
        have h3 : mrL [Sm.times m b1] = m.toNat * b1.mr := by simp [mrL, Sm.mr]
        rw [h3] at h2
        have h4 := Nat.le_mul_of_pos_left b1.mr (show 0 < m.toNat by omega)
        have f1 : ∀ q ∈ b1.unr, q.flat = true := fun q hq => (Bl.unr_ok b1 sf.2 q hq).t
        have l1 := len_mrL f1
        rw [Bl.mr_unr] at l1
        have l2 := Nat.mul_le_mul_right m.toNat l1
        rw [Nat.mul_comm b1.mr] at l2
        refine ⟨_, rfl, a, _, _, .str "times", rfl, rfl, hs, rfl, rfl, _, rfl, iteST ?_⟩
        refine ⟨_, rfl, .inl ⟨rfl, _, SqL.of gp⟩, _, rfl, a, _, _, vb, rfl, rfl, hs, rfl, vb, b1, rfl, hb1, sf.2, by omega, by omega, fun r ys H2 hr2 s2 g2 h2' => ?_⟩
        have ly := h2'.len
        refine ⟨_, rfl, a, _, _, .int m, rfl, rfl, sqt_kt hs (kt_same s2), rfl, r, m, ys, rfl, rfl, g2, by omega, by omega, szl (m := 1000) (by rw [ly]; omega), fun q hq => ?_⟩
        have s3 := same_new hq (.lst (List.replicate m.toNat ys).flatten)
        have gp3 := s3 _ _ (s2 _ _ gp)
        have lr : (List.replicate m.toNat ys).flatten.length = ys.length * m.toNat := by simp [Nat.mul_comm]
        refine ⟨p, q, _, _, rfl, rfl, gp3, upd_same, szl (m := 3000) (by rw [lr, ly]; omega), ?_⟩
        have kp := kt_lst gp3 (.lst (acc ++ (List.replicate m.toNat ys).flatten))
        refine ⟨_, _, rfl, same_upd ((si.trans s2).trans s3) hp _, upd_same, ?_⟩
        rw [take_snoc hsm, unrL_snoc]
        simp only [Sm.unr]
        exact (ha.kt (((kt_same s2).trans (kt_same s3)).trans kp)).app ((h2'.rep m.toNat).kt ((kt_same s3).trans kp))
    · rintro σ Hi ⟨acc, v2, rfl, si, gp, ha⟩
      rw [hlen, List.take_length, ← Bl.unr_toL] at ha
      exact ⟨_, rfl, k p acc Hi hp si gp ha⟩
end
end My
set_option Elab.async false
set_option maxRecDepth 100000
set_option linter.all false
namespace My
open PySem L2
theorem Sm.openF {K : PySem.W.Frag} {H : Hp} {v : V} {s : Sm} (h : Dp K H v s.dat) (hf : s.flat = true) : ∃ a tg tl, v = .ref a ∧ SqT K H a (.str tg :: tl) ∧ ((tg ≠ "if" ∧ s.mr = 1 ∧ 1 ≤ tl.length ∧ tl.length ≤ 2) ∨ ∃ ve vb vc e b c, tg = "if" ∧ tl = [ve, vb, vc] ∧ s = .ite e b c ∧ IsE K H ve e ∧ Dp K H vb (.tuple b.dats) ∧ Dp K H vc (.tuple c.dats)) := by
  cases s with
  | times k b => cases hf
  | ite e b c =>
    simp only [Sm.dat] at h
    obtain ⟨a, vs, rfl, hs, hd⟩ := tupOpen h
    cases hd with | cons h1 r => cases h1; cases r with | cons h2 r => cases r with | cons h3 r => cases r with | cons h4 r => cases r; exact ⟨_, _, _, rfl, hs, .inr ⟨_, _, _, e, b, c, rfl, rfl, rfl, h2, h3, h4⟩⟩
  | draw x as =>
    obtain ⟨a, xs, rfl, hs, va, rfl⟩ := Sm.open h
    exact ⟨a, "draw", _, rfl, hs, .inl ⟨by decide +kernel, by simp [Sm.mr], by simp, by simp⟩⟩
  | set x e =>
    obtain ⟨a, xs, rfl, hs, va, rfl⟩ := Sm.open h
    exact ⟨a, "set", _, rfl, hs, .inl ⟨by decide +kernel, by simp [Sm.mr], by simp, by simp⟩⟩
  | see e =>
    obtain ⟨a, xs, rfl, hs, va, rfl⟩ := Sm.open h
    exact ⟨a, "see", _, rfl, hs, .inl ⟨by decide +kernel, by simp [Sm.mr], by simp, by simp⟩⟩
section
variable {P : Program} {w : World} {K : PySem.W.Frag} {mg : Str → Option Value} {base : Heap}
theorem rec_un {f : Addr} {fd : FuncData} (F : Fun K "unrolled" "unrolled" s_unrolled f fd) (hm : mg "unrolled" = some (.ref f)) (hb : Binds K fd ps_unrolled []) (Z : Zb mg) :
    ∀ n : Nat, FnIn P w K mg base (n + 1) "unrolled" ps_unrolled (spUn K n)
  | 0 => by
    have no : ∀ vs H Q E, ¬ spUn K 0 vs H Q E := fun vs H Q E h => by
      obtain ⟨_, _, _, _, _, h1, _⟩ := h
      omega
    exact ⟨f, fd, ⟨fun vs H Q E h => absurd h (no vs H Q E), fun A outer s H args us vs Q E _ _ _ _ h => absurd h (no vs H Q E)⟩, hm, F.kp, hb⟩
  | n + 1 => ⟨f, fd, ok_un n F Z (rec_un F hm hb Z n), hm, F.kp, hb⟩
set_option maxHeartbeats 8000000 in
theorem ok_mr {f : Addr} {fd : FuncData} (n : Nat) (hn4 : n ≤ 5) (F : Fun K "many_rows" "many_rows" s_many_rows f fd) (Z : Zb mg) (G_unrolled : FnIn P w K mg base 7 "unrolled" ps_unrolled (spUn K 6)) (G_many_rows : FnIn P w K mg base (n + 8) "many_rows" ps_many_rows (spMR K n)) : FnOk P w K mg base CX0 (n + 9) f fd ps_many_rows (spMR K (n + 1)) := by
  refine F.ok sc_many_rows (fun vs H Q E h => ?_) (fun cdv A outer s H vs Q E hr h => ?_)
  · obtain ⟨v, b, rfl, _⟩ := h
    rfl
  · obtain ⟨v, b, rfl, hb, hf, hn, h1000, k⟩ := h
    refine ⟨_, (pss_cons (ps_set (i := 1) sc_many_rows.nd rfl (by first | exact Or.inl rfl | exact Or.inr rfl) pe_int)
      (pss_cons (ps_for PassesOwn.never rfl (pi_list (pe_fn G_unrolled hr rfl (pa_cons (pv 0) pa_nil))) (pg_name (i := 2) sc_many_rows.nd rfl (by first | exact Or.inl rfl | exact Or.inr rfl)) (pss_cons (ps_aug (i := 1) sc_many_rows.nd rfl (by first | exact Or.inl rfl | exact Or.inr rfl) pe_int ip_add)
      (pss_one (ps_if (pt_cmpR op_eq (pe_ix ix_tup (pv 2) pe_int (fun _ _ => rfl)) pe_str (nomark _)) (pss_one (ps_aug (i := 1) sc_many_rows.nd rfl (by first | exact Or.inl rfl | exact Or.inr rfl) (pe_op op_add (pe_fn G_many_rows hr rfl (pa_cons (pe_ix ix_tup (pv 2) pe_int (fun _ _ => rfl)) pa_nil)) (pe_fn G_many_rows hr rfl (pa_cons (pe_ix ix_tup (pv 2) pe_int (fun _ _ => rfl)) pa_nil))) ip_add)) pss_nil))))
      (pss_one (ps_ret (pv 1))))), ?_⟩
    refine ⟨_, rfl, v, b, rfl, hb, hf, by omega, h1000, fun r ys H1 hr1 s1 g1 ha => ⟨r, rfl, ⟨_, SqL.of g1⟩, ?_⟩⟩
    have ly := ha.len
    refine for_list (K := K) (a := r) (xs := ys) (fun i σ Hi => ∃ v2, σ = [some v, some (.int (mrL (b.unr.take i) : Int)), v2] ∧ Same H1 Hi) ⟨_, rfl, fun _ _ h => h⟩ (fun i σ Hi _ ⟨_, _, s⟩ => SqL.of (s _ _ g1)) ?_ ?_
    · rintro i u σ Hi hu' ⟨v2, rfl, si⟩
      obtain ⟨sm, hsm, ism⟩ := ha.get hu'
      have un := Bl.unr_ok b hf sm (List.mem_of_getElem? hsm)
      have mt := mrL_take b.unr (i + 1)
      rw [take_snoc hsm, mrL_app, Bl.mr_unr] at mt
      have e1 : mrL [sm] = sm.mr := by simp [mrL]
      obtain ⟨a, tg, tl, rfl, hs, hx⟩ := Sm.openF (Dp.kt (kt_same si) _ _ (Sm.tp sm) ism) un.t
      refine ⟨_, rfl, _, _, rfl, rfl, ?_⟩
      rcases hx with ⟨ht, hm1, _, _⟩ | ⟨ve, vb, vc, e, b1, c1, rfl, rfl, rfl, _, hb1, hc1⟩
      · refine ⟨_, rfl, a, _, _, .str tg, rfl, rfl, hs, at_ofA (j := 0) rfl rfl, rfl, _, rfl, iteSF ht ?_⟩
        have e5 : ((mrL (b.unr.take (i + 1)) : Nat) : Int) = (mrL (b.unr.take i) : Int) + 1 := by rw [take_snoc hsm, mrL_app, e1, hm1]; omega
        exact ⟨some (.ref a), by rw [e5]; rfl, si⟩
      · have uf := un.f
        have un' := un.n
        simp only [Sm.Ft] at uf
        simp only [Sm.nest] at un'
        simp only [Sm.mr] at e1
        refine ⟨_, rfl, a, _, _, .str "if", rfl, rfl, hs, at_ofA (j := 0) rfl rfl, rfl, _, rfl, iteST ?_⟩
        refine ⟨_, rfl, _, rfl, a, _, _, vb, rfl, rfl, hs, at_ofA (j := 2) rfl rfl, vb, b1, rfl, hb1, uf.2.1, by omega, by omega, fun H2 s2 => ?_⟩
        refine ⟨_, rfl, a, _, _, vc, rfl, rfl, sqt_kt hs (kt_same s2), at_ofA (j := 3) rfl rfl, vc, c1, rfl, Dp.kt (kt_same s2) _ _ (.tup (Bl.tp c1)) hc1, uf.2.2, by omega, by omega, fun H3 s3 => ⟨_, _, rfl, rfl, _, _, rfl, rfl, ?_⟩⟩
        have e5 : ((mrL (b.unr.take (i + 1)) : Nat) : Int) = (mrL (b.unr.take i) : Int) + 1 + ((b1.mr : Int) + (c1.mr : Int)) := by rw [take_snoc hsm, mrL_app, e1]; omega
        exact ⟨some (.ref a), by rw [e5]; rfl, (si.trans s2).trans s3⟩
    · rintro σ Hi ⟨v2, rfl, si⟩
      rw [ly, List.take_length, Bl.mr_unr]
      exact ⟨_, rfl, k Hi (s1.trans si)⟩
theorem rec_mr {f : Addr} {fd : FuncData} (F : Fun K "many_rows" "many_rows" s_many_rows f fd) (hm : mg "many_rows" = some (.ref f)) (hb : Binds K fd ps_many_rows []) (Z : Zb mg) (G_unrolled : FnIn P w K mg base 7 "unrolled" ps_unrolled (spUn K 6)) :
    ∀ n : Nat, n ≤ 6 → FnIn P w K mg base (n + 8) "many_rows" ps_many_rows (spMR K n)
  | 0, _ => by
    have no : ∀ vs H Q E, ¬ spMR K 0 vs H Q E := fun vs H Q E h => by
      obtain ⟨_, _, _, _, _, h1, _⟩ := h
      omega
    exact ⟨f, fd, ⟨fun vs H Q E h => absurd h (no vs H Q E), fun A outer s H args us vs Q E _ _ _ _ h => absurd h (no vs H Q E)⟩, hm, F.kp, hb⟩
  | n + 1, h => ⟨f, fd, ok_mr n (by omega) F Z G_unrolled (rec_mr F hm hb Z G_unrolled n (by omega)), hm, F.kp, hb⟩
end
theorem alts_tp (as : List (Ex × Ex)) : Tp (.tuple (as.map altD)) := .tup fun d hd => by
  obtain ⟨a, _, rfl⟩ := List.mem_map.mp hd
  exact altD_tp a
inductive Rw where
  | draw (x : Str) (as : List (Ex × Ex)) (f : Int)
  | set (x : Str) (e : Ex) (f : Int)
  | see (e : Ex) (f : Int)
  | branch (e : Ex) (a b : Int)
  | fin (e : Ex)
def Rw.dat : Rw → PyData
  | .draw x as f => .tuple [.str "draw", .str x, .tuple (as.map altD), .int f]
  | .set x e f => .tuple [.str "set", .str x, e.dat, .int f]
  | .see e f => .tuple [.str "see", e.dat, .int f]
  | .branch e a b => .tuple [.str "branch", e.dat, .int a, .int b]
  | .fin e => .tuple [.str "end", e.dat]
def Rw.Ft : Rw → Prop
  | .draw x as _ => NmOk x ∧ as.length ≤ 10 ∧ ∀ a ∈ as, eF a.1 ∧ eF a.2
  | .set x e _ => NmOk x ∧ eF e
  | .see e _ => eF e
  | .branch e _ _ => eF e
  | .fin e => eF e
theorem Rw.tp (r : Rw) : Tp r.dat := by
  cases r with
  | draw x as f =>
    refine .tup fun d h => ?_
    simp only [List.mem_cons, List.not_mem_nil, or_false] at h
    rcases h with rfl | rfl | rfl | rfl
    · constructor
    · constructor
    · exact .tup fun d hd => by
        obtain ⟨a, _, rfl⟩ := List.mem_map.mp hd
        exact altD_tp a
    · constructor
  | set x e f =>
    refine .tup fun d h => ?_
    simp only [List.mem_cons, List.not_mem_nil, or_false] at h
    rcases h with rfl | rfl | rfl | rfl
    · constructor
    · constructor
    · exact e.tp
    · constructor
  | see e f =>
    refine .tup fun d h => ?_
    simp only [List.mem_cons, List.not_mem_nil, or_false] at h
    rcases h with rfl | rfl | rfl
    · constructor
    · exact e.tp
    · constructor
  | branch e a b =>
    refine .tup fun d h => ?_
    simp only [List.mem_cons, List.not_mem_nil, or_false] at h
    rcases h with rfl | rfl | rfl | rfl
    · constructor
    · exact e.tp
    · constructor
    · constructor
  | fin e =>
    refine .tup fun d h => ?_
    simp only [List.mem_cons, List.not_mem_nil, or_false] at h
    rcases h with rfl | rfl
    · constructor
    · exact e.tp
theorem rwTps (rs : List Rw) : ∀ d ∈ rs.map Rw.dat, Tp d := fun d h => by
  obtain ⟨r, _, rfl⟩ := List.mem_map.mp h
  exact r.tp
abbrev AreR (K : PySem.W.Frag) (H : Hp) (vs : List V) (rs : List Rw) : Prop := DpAll K H vs (rs.map Rw.dat)
section
variable {K : PySem.W.Frag} {H H' : Hp}
theorem AreR.kt {vs : List V} {rs : List Rw} (h : AreR K H vs rs) (k : KT H H') : AreR K H' vs rs := Dp.ktAll k _ _ (rwTps rs) h
theorem AreR.app {vs us : List V} {rs ts : List Rw} (h : AreR K H vs rs) (h' : AreR K H us ts) : AreR K H (vs ++ us) (rs ++ ts) := by
  show DpAll K H _ ((rs ++ ts).map Rw.dat)
  rw [List.map_append]
  exact DpAll.app h h'
theorem AreR.len {vs : List V} {rs : List Rw} (h : AreR K H vs rs) : vs.length = rs.length := by have := DpAll.len h; simpa using this
theorem AreR.get {vs : List V} {rs : List Rw} {i : Nat} {v : V} (h : AreR K H vs rs) (hv : vs[i]? = some v) : ∃ r, rs[i]? = some r ∧ Dp K H v r.dat := by
  obtain ⟨d, hd, q⟩ := DpAll.get h hv
  rw [List.getElem?_map] at hd
  obtain ⟨s, hs, rfl⟩ := Option.map_eq_some_iff.mp hd
  exact ⟨s, hs, q⟩
end
end My
set_option Elab.async false
set_option maxRecDepth 100000
set_option linter.all false
namespace My
open PySem L2
inductive Rh where
  | draw (x : Str) (as : List (Ex × Ex)) (f : Option Int)
  | set (x : Str) (e : Ex) (f : Option Int)
  | see (e : Ex) (f : Option Int)
  | branch (e : Ex) (a b : Option Int)
def Rh.rw : Rh → Rw
  | .draw x as f => .draw x as (f.getD 0)
  | .set x e f => .set x e (f.getD 0)
  | .see e f => .see e (f.getD 0)
  | .branch e a b => .branch e (a.getD 0) (b.getD 0)
mutual
def Sm.ly : Sm → Nat → Option Int → List Rh
  | .draw x as, _, f => [.draw x as f]
  | .set x e, _, f => [.set x e f]
  | .see e, _, f => [.see e f]
  | .ite e a b, n, f => .branch e (if a.mr = 0 then f else some ((n + 1 : Nat) : Int)) (if b.mr = 0 then f else some ((n + 1 + a.mr : Nat) : Int)) :: (a.ly (n + 1) f ++ b.ly (n + 1 + a.mr) f)
  | .times k b, n, f => (List.range k.toNat).flatMap fun i => b.ly (n + i * b.mr) (if i + 1 < k.toNat then some ((n + (i + 1) * b.mr : Nat) : Int) else f)
def Bl.ly : Bl → Nat → Option Int → List Rh
  | .nil, _, _ => []
  | .cons s b, n, f => s.ly n (if b.mr = 0 then f else some ((n + s.mr : Nat) : Int)) ++ b.ly (n + s.mr) f
end
theorem len_flat {α : Type} {g : Nat → List α} {m : Nat} (h : ∀ i, (g i).length = m) : ∀ k, ((List.range k).flatMap g).length = k * m
  | 0 => by simp
  | k + 1 => by
    rw [List.range_succ, List.flatMap_append, List.length_append, len_flat h k]
    simp [h, Nat.succ_mul]
theorem flat_ext {α : Type} {g h : Nat → List α} : ∀ {l : List Nat}, (∀ i ∈ l, g i = h i) → l.flatMap g = l.flatMap h
  | [], _ => rfl
  | i :: l, q => by
    rw [List.flatMap_cons, List.flatMap_cons, q i (by simp), flat_ext fun j hj => q j (by simp [hj])]
mutual
theorem Sm.ly_len : ∀ (s : Sm) (n : Nat) (f : Option Int), (s.ly n f).length = s.mr
  | .draw _ _, _, _ => by simp [Sm.ly, Sm.mr]
  | .set _ _, _, _ => by simp [Sm.ly, Sm.mr]
  | .see _, _, _ => by simp [Sm.ly, Sm.mr]
  | .ite e a b, n, f => by
    simp only [Sm.ly, Sm.mr, List.length_cons, List.length_append, Bl.ly_len a, Bl.ly_len b]
    omega
  | .times k b, n, f => by
    simp only [Sm.ly, Sm.mr]
    exact len_flat (fun i => Bl.ly_len b _ _) _
theorem Bl.ly_len : ∀ (b : Bl) (n : Nat) (f : Option Int), (b.ly n f).length = b.mr
  | .nil, _, _ => by simp [Bl.ly, Bl.mr]
  | .cons s b, n, f => by simp only [Bl.ly, Bl.mr, List.length_append, Sm.ly_len s, Bl.ly_len b]
end
theorem Bl.ly_nil {b : Bl} (h : b.mr = 0) (n : Nat) (f : Option Int) : b.ly n f = [] := List.eq_nil_of_length_eq_zero (by rw [Bl.ly_len]; exact h)
/-- statements one behind the other, none a times -/
def lyU : List Sm → Nat → Option Int → List Rh
  | [], _, _ => []
  | s :: r, n, f => s.ly n (if mrL r = 0 then f else some ((n + s.mr : Nat) : Int)) ++ lyU r (n + s.mr) f
theorem lyU_len : ∀ (ss : List Sm) (n : Nat) (f : Option Int), (lyU ss n f).length = mrL ss
  | [], _, _ => rfl
  | s :: r, n, f => by
    rw [lyU, List.length_append, Sm.ly_len, lyU_len r]
    simp [mrL]
theorem mrL_cons (s : Sm) (r : List Sm) : mrL (s :: r) = s.mr + mrL r := by simp [mrL]
theorem lyU_app : ∀ (xs ys : List Sm) (n : Nat) (f : Option Int), lyU (xs ++ ys) n f = lyU xs n (if mrL ys = 0 then f else some ((n + mrL xs : Nat) : Int)) ++ lyU ys (n + mrL xs) f
  | [], ys, n, f => by
    simp [lyU, mrL]
  | s :: r, ys, n, f => by
    rw [List.cons_append, lyU, lyU, lyU_app r ys, mrL_app, mrL_cons, List.append_assoc]
    have e1 : n + s.mr + mrL r = n + (s.mr + mrL r) := by omega
    rw [e1]
    congr 2
    by_cases h : mrL r = 0
    · rw [if_pos h, h, Nat.zero_add, Nat.add_zero]
    · rw [if_neg h, if_neg (by omega)]
mutual
theorem Sm.lyU_unr : ∀ (s : Sm) (n : Nat) (f : Option Int), lyU s.unr n f = s.ly n f
  | .draw x as, n, f => by simp [Sm.unr, lyU, Sm.ly, mrL]
  | .set x e, n, f => by simp [Sm.unr, lyU, Sm.ly, mrL]
  | .see e, n, f => by simp [Sm.unr, lyU, Sm.ly, mrL]
  | .ite e a b, n, f => by
    simp only [Sm.unr, lyU]
    simp [mrL]
  | .times k b, n, f => by
    by_cases h0 : b.mr = 0
    · have e1 : mrL (Sm.times k b).unr = 0 := by rw [Sm.mr_unr, Sm.mr, h0, Nat.mul_zero]
      have e2 : (Sm.times k b).mr = 0 := by rw [Sm.mr, h0, Nat.mul_zero]
      have l1 : lyU (Sm.times k b).unr n f = [] := List.eq_nil_of_length_eq_zero (by rw [lyU_len]; exact e1)
      have l2 : (Sm.times k b).ly n f = [] := List.eq_nil_of_length_eq_zero (by rw [Sm.ly_len]; exact e2)
      rw [l1, l2]
    · simp only [Sm.unr, Sm.ly]
      generalize k.toNat = m
      have key : ∀ (m : Nat) (f : Option Int), lyU (List.replicate m b.unr).flatten n f = (List.range m).flatMap fun i => b.ly (n + i * b.mr) (if i + 1 < m then some ((n + (i + 1) * b.mr : Nat) : Int) else f) := by
        intro m
        induction m with
        | zero => intro f; rfl
        | succ m ih =>
          intro f
          have e1 : (List.replicate (m + 1) b.unr).flatten = (List.replicate m b.unr).flatten ++ b.unr := by
            rw [List.replicate_succ', List.flatten_append]
            simp
          rw [e1, lyU_app, ih, Bl.lyU_unr b, Bl.mr_unr, if_neg h0, mrL_rep, Bl.mr_unr, List.range_succ, List.flatMap_append]
          congr 1
          · refine flat_ext fun i hi => ?_
            have hi := List.mem_range.mp hi
            by_cases c : i + 1 < m
            · rw [if_pos c, if_pos (by omega)]
            · rw [if_neg c, if_pos (by omega), show i + 1 = m by omega]
          · simp
      exact key m f
theorem Bl.lyU_unr : ∀ (b : Bl) (n : Nat) (f : Option Int), lyU b.unr n f = b.ly n f
  | .nil, n, f => by simp [Bl.unr, lyU, Bl.ly]
  | .cons s b, n, f => by
    simp only [Bl.unr, Bl.ly]
    rw [lyU_app, Sm.lyU_unr s, Bl.lyU_unr b, Bl.mr_unr, Sm.mr_unr]
end
def Rh.fillS (p : Nat → Bool) (v : Int) : Rh → Rh
  | .draw x as f => .draw x as (if p 3 then some v else f)
  | .set x e f => .set x e (if p 3 then some v else f)
  | .see e f => .see e (if p 2 then some v else f)
  | .branch e a b => .branch e (if p 2 then some v else a) (if p 3 then some v else b)
/-- the spots of a row that are loose -/
def Rh.hole : Rh → Nat → Prop
  | .draw _ _ f, s => s = 3 ∧ f = none
  | .set _ _ f, s => s = 3 ∧ f = none
  | .see _ f, s => s = 2 ∧ f = none
  | .branch _ a b, s => (s = 2 ∧ a = none) ∨ (s = 3 ∧ b = none)
def fillAt (L : List (Nat × Nat)) (v : Int) (Z : List Rh) : List Rh := Z.mapIdx fun r z => z.fillS (fun s => decide ((r, s) ∈ L)) v
/-- all holes of rows from n on -/
def HolesOf (n : Nat) (Y : List Rh) (q : Nat × Nat) : Prop := ∃ z, n ≤ q.1 ∧ Y[q.1 - n]? = some z ∧ z.hole q.2
/-- none filled -/
def Rh.fill (v : Int) : Rh → Rh
  | .draw x as f => .draw x as (f.orElse fun _ => some v)
  | .set x e f => .set x e (f.orElse fun _ => some v)
  | .see e f => .see e (f.orElse fun _ => some v)
  | .branch e a b => .branch e (a.orElse fun _ => some v) (b.orElse fun _ => some v)
theorem fillS_none (v : Int) (z : Rh) {p : Nat → Bool} (h : ∀ s, p s = false) : z.fillS p v = z := by
  cases z <;> simp [Rh.fillS, h]
theorem fillS_holes (v : Int) (z : Rh) {p : Nat → Bool} (h : ∀ s, p s = true ↔ z.hole s) : z.fillS p v = z.fill v := by
  cases z with
  | draw x as f =>
    have h3 := h 3
    simp only [Rh.hole, true_and] at h3
    simp only [Rh.fillS, Rh.fill]
    cases f with
    | none => rw [if_pos (h3.mpr rfl)]; rfl
    | some w => rw [if_neg (fun e => by have := h3.mp e; cases this)]; rfl
  | set x e f =>
    have h3 := h 3
    simp only [Rh.hole, true_and] at h3
    simp only [Rh.fillS, Rh.fill]
    cases f with
    | none => rw [if_pos (h3.mpr rfl)]; rfl
    | some w => rw [if_neg (fun e => by have := h3.mp e; cases this)]; rfl
  | see e f =>
    have h3 := h 2
    simp only [Rh.hole, true_and] at h3
    simp only [Rh.fillS, Rh.fill]
    cases f with
    | none => rw [if_pos (h3.mpr rfl)]; rfl
    | some w => rw [if_neg (fun e => by have := h3.mp e; cases this)]; rfl
  | branch e a b =>
    have h2 := h 2
    have h3 := h 3
    simp only [Rh.hole, true_and, Nat.reduceEqDiff, false_and, or_false, false_or] at h2 h3
    simp only [Rh.fillS, Rh.fill]
    congr 1
    · cases a with
      | none => rw [if_pos (h2.mpr rfl)]; rfl
      | some w => rw [if_neg (fun e => by have := h2.mp e; cases this)]; rfl
    · cases b with
      | none => rw [if_pos (h3.mpr rfl)]; rfl
      | some w => rw [if_neg (fun e => by have := h3.mp e; cases this)]; rfl
mutual
theorem Sm.ly_fill (v : Int) : ∀ (s : Sm) (n : Nat) (f : Option Int), (s.ly n f).map (Rh.fill v) = s.ly n (f.orElse fun _ => some v)
  | .draw _ _, _, _ => by simp [Sm.ly, Rh.fill]
  | .set _ _, _, _ => by simp [Sm.ly, Rh.fill]
  | .see _, _, _ => by simp [Sm.ly, Rh.fill]
  | .ite e a b, n, f => by
    simp only [Sm.ly, List.map_cons, List.map_append, Bl.ly_fill v a, Bl.ly_fill v b, Rh.fill]
    congr 1
    congr 1
    · split <;> rfl
    · split <;> rfl
  | .times k b, n, f => by
    simp only [Sm.ly, List.map_flatMap, Bl.ly_fill v b]
    refine flat_ext fun i _ => ?_
    congr 1
    split <;> rfl
theorem Bl.ly_fill (v : Int) : ∀ (b : Bl) (n : Nat) (f : Option Int), (b.ly n f).map (Rh.fill v) = b.ly n (f.orElse fun _ => some v)
  | .nil, _, _ => by simp [Bl.ly]
  | .cons s b, n, f => by
    simp only [Bl.ly, List.map_append, Sm.ly_fill v s, Bl.ly_fill v b]
    congr 2
    split <;> rfl
end
/-- filling just the holes of what stands behind -/
theorem fillAt_app (L : List (Nat × Nat)) (v : Int) (X Y : List Rh) (h : ∀ q, q ∈ L ↔ HolesOf X.length Y q) : fillAt L v (X ++ Y) = X ++ Y.map (Rh.fill v) := by
  unfold fillAt
  refine List.ext_getElem? fun i => ?_
  rw [List.getElem?_mapIdx]
  by_cases hi : i < X.length
  · rw [List.getElem?_append_left hi, List.getElem?_append_left hi]
    cases hz : X[i]? with
    | none => rfl
    | some z =>
      simp only [Option.map_some]
      congr 1
      refine fillS_none v z fun s => decide_eq_false fun m => ?_
      obtain ⟨_, h1, _⟩ := (h _).mp m
      simp only at h1
      omega
  · rw [List.getElem?_append_right (by omega), List.getElem?_append_right (by omega), List.getElem?_map]
    cases hz : Y[i - X.length]? with
    | none => rfl
    | some z =>
      simp only [Option.map_some]
      congr 1
      refine fillS_holes v z fun s => ?_
      rw [decide_eq_true_iff, h]
      constructor
      · rintro ⟨z', _, h2, h3⟩
        simp only at h2
        rw [hz] at h2
        cases h2
        exact h3
      · intro h3
        exact ⟨z, by simp only; omega, hz, h3⟩
end My
set_option Elab.async false
set_option maxRecDepth 100000
set_option linter.all false
namespace My
open PySem L2
theorem pickJ {σ : St} {H : Hp} {Q : VK} {i j k : Nat} {a b c : Int} (h1 : σ[i]? = some (some (.int a))) (h2 : σ[j]? = some (some (.int b))) (h3 : σ[k]? = some (some (.int c))) (q : ∀ g : Int, g = (if a < b then a else c) → Q (.int g) H) : tIf (tTest (tOp (rI0 fun i j => V.bl (decide (i < j))) (tVar i) (tVar j))) (tVar i) (tVar k) σ H Q := ⟨_, h1, _, h2, _, _, rfl, rfl, _, rfl, ite2 (fun c => ⟨_, h1, q _ (by rw [if_pos (of_decide_eq_true c)])⟩) (fun c => ⟨_, h3, q _ (by rw [if_neg fun h => c (decide_eq_true h)])⟩)⟩
abbrev rwL (Y : List Rh) : List Rw := Y.map Rh.rw
def RPost (K : PySem.W.Frag) (H : Hp) (p : Addr) (ts : List V) (Y : List Rh) (Q : VK) : Prop :=
  ∀ (us : List V) (H' : Hp), X1 p H H' → H' p = some (.lst (ts ++ us)) → AreR K H' us (rwL Y) → Q .non H'
def spPB (K : PySem.W.Frag) (n : Nat) : Sp := fun vs H Q _ => ∃ (v : V) (b : Bl) (p : Addr) (f : Int) (ts : List V), vs = [.ref p, v, .int f] ∧ Dp K H v (.tuple b.dats) ∧ H p = some (.lst ts) ∧ b.Ft ∧ b.nest < n ∧ ts.length + b.mr ≤ 1000 ∧ RPost K H p ts (b.ly ts.length (some f)) Q
def spPS (K : PySem.W.Frag) (n : Nat) : Sp := fun vs H Q _ => ∃ (v : V) (s : Sm) (p : Addr) (f : Int) (ts : List V), vs = [.ref p, v, .int f] ∧ Dp K H v s.dat ∧ H p = some (.lst ts) ∧ s.Ft ∧ s.flat = true ∧ s.nest < n ∧ ts.length + s.mr ≤ 1000 ∧ RPost K H p ts (s.ly ts.length (some f)) Q
section
variable {P : Program} {w : World} {K : PySem.W.Frag} {mg : Str → Option Value} {base : Heap}
set_option maxHeartbeats 8000000 in
theorem ok_pb {f : Addr} {fd : FuncData} (n : Nat) (hn4 : n ≤ 6) (F : Fun K "put_block" "put_block" s_put_block f fd) (Z : Zb mg) (G_unrolled : FnIn P w K mg base 7 "unrolled" ps_unrolled (spUn K 6)) (G_many_rows : FnIn P w K mg base 14 "many_rows" ps_many_rows (spMR K 6)) (G_put_statement : FnIn P w K mg base (2 * n + 16) "put_statement" ps_put_statement (spPS K n)) : FnOk P w K mg base CX0 (2 * n + 17) f fd ps_put_block (spPB K n) := by
  refine F.ok sc_put_block (fun vs H Q E h => ?_) (fun cdv A outer s H vs Q E hr h => ?_)
  · obtain ⟨v, b, p, f, ts, rfl, _⟩ := h
    rfl
  · obtain ⟨v, b, p, f, ts, rfl, hb, gp, hf, hn, h1000, post⟩ := h
    refine ⟨_, (pss_cons (ps_set (i := 3) sc_put_block.nd rfl (by first | exact Or.inl rfl | exact Or.inr rfl) (pe_fn G_unrolled hr rfl (pa_cons (pv 1) pa_nil)))
      (pss_one (ps_for PassesOwn.never rfl (pi_enum (by rfl) Z.enumerate (pa_cons (pv 3) pa_nil)) (pg_tup rfl (pgs_cons (pg_name (i := 4) sc_put_block.nd rfl (by first | exact Or.inl rfl | exact Or.inr rfl)) (pgs_cons (pg_name (i := 5) sc_put_block.nd rfl (by first | exact Or.inl rfl | exact Or.inr rfl)) pgs_nil))) (pss_cons (ps_set (i := 6) sc_put_block.nd rfl (by first | exact Or.inl rfl | exact Or.inr rfl) (pv 2))
      (pss_cons (ps_if (pt_cmpR op_lt (pe_op op_add (pv 4) pe_int) (pe_callB call_len_seq (by rfl) Z.len (by decide +kernel) (pa_cons (pv 3) pa_nil)) (nomark _)) (pss_one (ps_set (i := 6) sc_put_block.nd rfl (by first | exact Or.inl rfl | exact Or.inr rfl) (pe_op op_add (pe_callB call_len_seq (by rfl) Z.len (by decide +kernel) (pa_cons (pv 0) pa_nil)) (pe_fn G_many_rows hr rfl (pa_cons (pe_tup (pa_cons (pv 5) pa_nil)) pa_nil))))) pss_nil)
      (pss_one (ps_expr (pe_fn G_put_statement hr rfl (pa_cons (pv 0) (pa_cons (pv 5) (pa_cons (pv 6) pa_nil))))))))))), ?_⟩
    refine ⟨_, rfl, v, b, rfl, hb, hf, by omega, by omega, fun r ys H1 hr1 s1 g1 ha => ⟨_, rfl, r, ys, rfl, SqL.of g1, ?_⟩⟩
    have ly := ha.len
    have nrp : r ≠ p := Ne.symm (ne_of_none gp hr1)
    have gp1 := s1 _ _ gp
    refine for_enum (K := K) (a := r) (xs := ys) (fun i σ Hi => ∃ v3 v4 v5 v6 us, σ = [some (.ref p), some v, some (.int f), v3, v4, v5, v6] ∧ v3 = some (.ref r) ∧ X1 p H1 Hi ∧ Hi p = some (.lst (ts ++ us)) ∧ AreR K Hi us (rwL (lyU (b.unr.take i) ts.length (if mrL (b.unr.drop i) = 0 then some f else some ((ts.length + mrL (b.unr.take i) : Nat) : Int)))))
      ⟨_, _, _, _, [], rfl, rfl, X1.refl, by rw [List.append_nil]; exact gp1, .nil⟩ (fun i σ Hi _ ⟨_, _, _, _, _, _, _, x, _⟩ => SqL.of (x _ _ g1 nrp)) ?_ ?_
    · rintro i u T σ Hi hu' ⟨v3, v4, v5, v6, us, rfl, rfl, xi, gi, hus⟩ hT
      obtain ⟨sm, hsm, ism⟩ := ha.get hu'
      have un := Bl.unr_ok b hf sm (List.mem_of_getElem? hsm)
      have mt := mrL_take b.unr (i + 1)
      rw [take_snoc hsm, mrL_app, Bl.mr_unr] at mt
      have e1 : mrL [sm] = sm.mr := by simp [mrL]
      have unn := un.n
      have dsi : b.unr.drop i = sm :: b.unr.drop (i + 1) := by
        have il := lt_of_get hsm
        rw [List.drop_eq_getElem_cons il]
        rw [List.getElem?_eq_getElem il] at hsm
        rw [Option.some.inj hsm]
      have pos := Sm.mr_pos un.t
      have flr : ∀ q ∈ b.unr.drop (i + 1), q.flat = true := fun q hq => (Bl.unr_ok b hf q (List.mem_of_mem_drop hq)).t
      rw [dsi, mrL_cons, if_neg (by omega)] at hus
      have lrs := hus.len
      rw [List.length_map, lyU_len] at lrs
      have ki := kt_x1 xi gp1
      have sT := same_new hT (.tup [.int (i : Nat), u])
      have gi' := sT _ _ gi
      have ismT := Dp.kt (ki.trans (kt_same sT)) _ _ (Sm.tp sm) ism
      have husT := hus.kt (kt_same sT)
      have lus := hus.len
      have g1T := sT _ _ (xi _ _ g1 nrp)
      refine ⟨T, _, rfl, SqT.of upd_same, rfl, _, _, rfl, _, _, rfl, rfl, _, rfl, ?_⟩
      generalize upd Hi T (.tup [.int (i : Nat), u]) = HT at sT gi' ismT husT g1T ⊢
      refine' joinC _ (fun σ H' => ∃ g : Int, σ = [some (.ref p), some v, some (.int f), some (.ref r), some (.int (i : Nat)), some u, some (.int g)] ∧ Same HT H' ∧ some g = (if mrL (b.unr.drop (i + 1)) = 0 then some f else some ((ts.length + mrL (b.unr.take i) + sm.mr : Nat) : Int))) ?fin ?main
      case main =>
        intro fin
        refine ⟨_, rfl, _, _, rfl, rfl, _, rfl, r, ys, rfl, .inl (SqL.of g1T), _, _, rfl, rfl, _, rfl, ite2 (fun c => ?_) (fun c => ?_)⟩
        · refine ⟨_, rfl, p, _, rfl, .inl (SqL.of gi'), _, rfl, (by show 1 ≤ sizeLine; decide), fun t ht => ?_⟩
          have st := same_new ht (.tup [u])
          refine ⟨.ref t, .cons sm .nil, rfl, ?_, by simp only [Bl.Ft]; exact ⟨un.f, trivial⟩, by simp only [Bl.nest]; omega, by simp only [Bl.mr]; omega, fun H3 s3 => ⟨_, _, rfl, rfl, ?_⟩⟩
          · simp only [Bl.dats]
            exact .tup (SqT.of upd_same) (.cons (Dp.kt (kt_same st) _ _ (Sm.tp sm) ismT) .nil)
          · dsimp only [gName]
            refine fin _ _ ⟨_, rfl, st.trans s3, ?_⟩
            have c := of_decide_eq_true c
            have nz : mrL (b.unr.drop (i + 1)) ≠ 0 := by
              have h1 := len_mrL flr
              rw [List.length_drop] at h1
              have lyu := ly
              omega
            rw [if_neg nz]
            simp only [Bl.mr, List.length_append, lrs]
            congr 1
        · dsimp only [tNext]
          have c : ¬ ((i : Int) + 1 < (ys.length : Int)) := fun h => c (decide_eq_true h)
          have z : mrL (b.unr.drop (i + 1)) = 0 := by
            rw [List.drop_of_length_le (by omega)]
            rfl
          exact fin _ _ ⟨f, rfl, fun _ _ h => h, by rw [if_pos z]⟩
      case fin =>
        rintro σ H' ⟨g, rfl, s', eg⟩
        refine ⟨_, rfl, _, rfl, _, rfl, u, sm, p, g, ts ++ us, rfl, Dp.kt (kt_same s') _ _ (Sm.tp sm) ismT, s' _ _ gi', un.f, un.t, by omega, by rw [List.length_append]; omega, ?_⟩
        intro us' H4 x4 g4 a4
        refine ⟨_, _, _, _, us ++ us', rfl, rfl, (xi.trans (x1_same (sT.trans s'))).trans x4, by rw [g4, List.append_assoc], ?_⟩
        have q := (husT.kt ((kt_same s').trans (kt_x1 x4 (s' _ _ gi')))).app a4
        rw [take_snoc hsm, lyU_app]
        have e2 : mrL [sm] = sm.mr := by simp [mrL]
        rw [e2, if_neg (by omega)]
        have e3 : lyU [sm] (ts.length + mrL (b.unr.take i)) (if mrL (b.unr.drop (i + 1)) = 0 then some f else some ((ts.length + mrL (b.unr.take i ++ [sm]) : Nat) : Int)) = sm.ly (ts ++ us).length (some g) := by
          rw [eg, lyU, lyU, List.append_nil, mrL_app, e2, List.length_append, lrs, if_pos (show mrL [] = 0 from rfl), Nat.add_assoc]
        rw [e3, rwL, List.map_append]
        exact q
    · rintro σ Hi ⟨v3, v4, v5, v6, us, rfl, rfl, xi, gi, hus⟩
      rw [ly, List.take_length, List.drop_length, if_pos (show mrL [] = 0 from rfl), Bl.lyU_unr] at hus
      exact post us Hi ((x1_same s1).trans xi) gi hus
set_option maxHeartbeats 8000000 in
theorem ok_ps {f : Addr} {fd : FuncData} (n : Nat) (hn4 : n ≤ 5) (F : Fun K "put_statement" "put_statement" s_put_statement f fd) (Z : Zb mg) (G_many_rows : FnIn P w K mg base 14 "many_rows" ps_many_rows (spMR K 6)) (G_put_block : FnIn P w K mg base (2 * n + 17) "put_block" ps_put_block (spPB K n)) : FnOk P w K mg base CX0 (2 * n + 18) f fd ps_put_statement (spPS K (n + 1)) := by
  refine F.ok sc_put_statement (fun vs H Q E h => ?_) (fun cdv A outer s H vs Q E hr h => ?_)
  · obtain ⟨v, b, p, f, ts, rfl, _⟩ := h
    rfl
  · obtain ⟨v, st, p, f, ts, rfl, hb, gp, hf, ht, hn, h1000, post⟩ := h
    refine ⟨_, (pss_cons (ps_if (pt_cmpR op_ne (pe_ix ix_tup (pv 1) pe_int (fun _ _ => rfl)) pe_str (nomark _)) (pss_cons (ps_expr (pe_bm PySem.F.plainAttrs_list PySem.F.slot_list_append PySem.F.type_list_append mt_append (pv 0) (pa_cons (pe_tup (pa_star (pv 1) (pa_cons (pv 2) pa_nil))) pa_nil)))
      (pss_one ps_retN)) pss_nil)
      (pss_cons (ps_asg (pe_slice sl_tup (pv 1) (po_some pe_int) po_none) (pg_tup rfl (pgs_cons (pg_name (i := 8) sc_put_statement.nd rfl (by first | exact Or.inl rfl | exact Or.inr rfl)) (pgs_cons (pg_name (i := 9) sc_put_statement.nd rfl (by first | exact Or.inl rfl | exact Or.inr rfl)) (pgs_cons (pg_name (i := 10) sc_put_statement.nd rfl (by first | exact Or.inl rfl | exact Or.inr rfl)) pgs_nil)))))
      (pss_cons (ps_set (i := 3) sc_put_statement.nd rfl (by first | exact Or.inl rfl | exact Or.inr rfl) (pe_op op_add (pe_callB call_len_seq (by rfl) Z.len (by decide +kernel) (pa_cons (pv 0) pa_nil)) pe_int))
      (pss_cons (ps_set (i := 4) sc_put_statement.nd rfl (by first | exact Or.inl rfl | exact Or.inr rfl) (pe_op op_add (pv 3) (pe_fn G_many_rows hr rfl (pa_cons (pv 9) pa_nil))))
      (pss_cons (ps_set (i := 5) sc_put_statement.nd rfl (by first | exact Or.inl rfl | exact Or.inr rfl) (pe_op op_add (pv 4) (pe_fn G_many_rows hr rfl (pa_cons (pv 10) pa_nil))))
      (pss_cons (ps_set (i := 6) sc_put_statement.nd rfl (by first | exact Or.inl rfl | exact Or.inr rfl) (pe_ifExp (pt_cmpR op_lt (pv 3) (pv 4) (nomark _)) (pv 3) (pv 2)))
      (pss_cons (ps_set (i := 7) sc_put_statement.nd rfl (by first | exact Or.inl rfl | exact Or.inr rfl) (pe_ifExp (pt_cmpR op_lt (pv 4) (pv 5) (nomark _)) (pv 4) (pv 2)))
      (pss_cons (ps_expr (pe_bm PySem.F.plainAttrs_list PySem.F.slot_list_append PySem.F.type_list_append mt_append (pv 0) (pa_cons (pe_tup (pa_cons pe_str (pa_cons (pv 8) (pa_cons (pv 6) (pa_cons (pv 7) pa_nil))))) pa_nil)))
      (pss_cons (ps_expr (pe_fn G_put_block hr rfl (pa_cons (pv 0) (pa_cons (pv 9) (pa_cons (pv 2) pa_nil)))))
      (pss_one (ps_expr (pe_fn G_put_block hr rfl (pa_cons (pv 0) (pa_cons (pv 10) (pa_cons (pv 2) pa_nil))))))))))))))), ?_⟩
    have row : ∀ (t : Addr) (rw : Rw) (H2 : Hp), Same H H2 → Dp K H2 (.ref t) rw.dat → [rw] = rwL (st.ly ts.length (some f)) → Q .non (upd H2 p (.lst (ts ++ [.ref t]))) := fun t rw H2 s2 h2 f2 => by
      have kp := kt_lst (s2 _ _ gp) (.lst (ts ++ [.ref t]))
      refine post [.ref t] _ ((x1_same s2).trans x1_put) upd_same ?_
      rw [← f2]
      exact .cons (Dp.kt kp _ _ rw.tp h2) .nil
    cases st with
    | times k b => cases ht
    | draw x as =>
      obtain ⟨a, va, rfl, hs, hva⟩ : ∃ a, ∃ va, v = .ref a ∧ SqT K H a [.str "draw", .str x, va] ∧ Dp K H va (.tuple (as.map altD)) := by
        simp only [Sm.dat] at hb
        obtain ⟨a, vs, e1, hs, hd⟩ := tupOpen hb
        cases hd with | cons h1 r => cases h1; cases r with | cons h2 r => cases h2; cases r with | cons h3 r => cases r; exact ⟨a, _, e1, hs, h3⟩
      simp only [Sm.Ft] at hf
      refine ⟨_, rfl, a, _, _, .str "draw", rfl, rfl, hs, at_ofA (j := 0) rfl rfl, rfl, _, rfl, iteBT (by decide +kernel) ?_⟩
      refine ⟨_, rfl, .inl ⟨rfl, _, SqL.of gp⟩, _, rfl, a, _, rfl, .inr hs, _, rfl, (by show 4 ≤ sizeLine; decide), fun t ht => ?_⟩
      have s2 := same_new ht (.tup ([.str "draw", .str x, va] ++ [.int f]))
      refine ⟨p, _, _, rfl, rfl, s2 _ _ gp, sz (m := 1000) (by simp only [Sm.mr] at h1000; omega), ?_⟩
      exact row t (.draw x as f) _ s2 (.tup (SqT.of upd_same) (.cons (.str _) (.cons (.str _) (.cons (Dp.kt (kt_same s2) _ _ (alts_tp as) hva) (.cons (.int _) .nil))))) (by simp [Sm.ly, Rh.rw, rwL])
    | set x e =>
      obtain ⟨a, va, rfl, hs, hva⟩ : ∃ a, ∃ va, v = .ref a ∧ SqT K H a [.str "set", .str x, va] ∧ IsE K H va e := by
        simp only [Sm.dat] at hb
        obtain ⟨a, vs, e1, hs, hd⟩ := tupOpen hb
        cases hd with | cons h1 r => cases h1; cases r with | cons h2 r => cases h2; cases r with | cons h3 r => cases r; exact ⟨a, _, e1, hs, h3⟩
      simp only [Sm.Ft] at hf
      refine ⟨_, rfl, a, _, _, .str "set", rfl, rfl, hs, at_ofA (j := 0) rfl rfl, rfl, _, rfl, iteBT (by decide +kernel) ?_⟩
      refine ⟨_, rfl, .inl ⟨rfl, _, SqL.of gp⟩, _, rfl, a, _, rfl, .inr hs, _, rfl, (by show 4 ≤ sizeLine; decide), fun t ht => ?_⟩
      have s2 := same_new ht (.tup ([.str "set", .str x, va] ++ [.int f]))
      refine ⟨p, _, _, rfl, rfl, s2 _ _ gp, sz (m := 1000) (by simp only [Sm.mr] at h1000; omega), ?_⟩
      exact row t (.set x e f) _ s2 (.tup (SqT.of upd_same) (.cons (.str _) (.cons (.str _) (.cons (IsE.kt hva (kt_same s2)) (.cons (.int _) .nil))))) (by simp [Sm.ly, Rh.rw, rwL])
    | see e =>
      obtain ⟨a, va, rfl, hs, hva⟩ : ∃ a, ∃ va, v = .ref a ∧ SqT K H a [.str "see", va] ∧ IsE K H va e := by
        simp only [Sm.dat] at hb
        obtain ⟨a, vs, e1, hs, hd⟩ := tupOpen hb
        cases hd with | cons h1 r => cases h1; cases r with | cons h2 r => cases r; exact ⟨a, _, e1, hs, h2⟩
      simp only [Sm.Ft] at hf
      refine ⟨_, rfl, a, _, _, .str "see", rfl, rfl, hs, at_ofA (j := 0) rfl rfl, rfl, _, rfl, iteBT (by decide +kernel) ?_⟩
      refine ⟨_, rfl, .inl ⟨rfl, _, SqL.of gp⟩, _, rfl, a, _, rfl, .inr hs, _, rfl, (by show 3 ≤ sizeLine; decide), fun t ht => ?_⟩
      have s2 := same_new ht (.tup ([.str "see", va] ++ [.int f]))
      refine ⟨p, _, _, rfl, rfl, s2 _ _ gp, sz (m := 1000) (by simp only [Sm.mr] at h1000; omega), ?_⟩
      exact row t (.see e f) _ s2 (.tup (SqT.of upd_same) (.cons (.str _) (.cons (IsE.kt hva (kt_same s2)) (.cons (.int _) .nil)))) (by simp [Sm.ly, Rh.rw, rwL])
    | ite e b1 c1 =>
      obtain ⟨a, va, vb, vc, rfl, hs, hva, hb1, hc1⟩ : ∃ a va vb vc, v = .ref a ∧ SqT K H a [.str "if", va, vb, vc] ∧ IsE K H va e ∧ Dp K H vb (.tuple b1.dats) ∧ Dp K H vc (.tuple c1.dats) := by
        simp only [Sm.dat] at hb
        obtain ⟨a, vs, e1, hs, hd⟩ := tupOpen hb
        cases hd with | cons h1 r => cases h1; cases r with | cons h2 r => cases r with | cons h3 r => cases r with | cons h4 r => cases r; exact ⟨a, _, _, _, e1, hs, h2, h3, h4⟩
      simp only [Sm.Ft] at hf
      simp only [Sm.nest] at hn
      simp only [Sm.mr] at h1000
      simp only [Sm.ly] at post
      refine ⟨_, rfl, a, _, _, .str "if", rfl, rfl, hs, at_ofA (j := 0) rfl rfl, rfl, _, rfl, iteB (by decide +kernel) ?_⟩
      refine ⟨_, rfl, 1, rfl, a, _, rfl, hs, nw_tail _ _, fun t2 ht2 => ?_⟩
      rw [cut_tail]
      have s2 := same_new ht2 (.tup [va, vb, vc])
      refine ⟨t2, _, rfl, SqT.of upd_same, rfl, _, _, rfl, _, _, rfl, _, _, rfl, rfl, ?_⟩
      generalize upd H t2 (.tup [va, vb, vc]) = H2 at s2 ⊢
      have gp2 := s2 _ _ gp
      refine ⟨_, rfl, p, _, rfl, .inl (SqL.of gp2), _, _, rfl, rfl, ?_⟩
      refine ⟨_, rfl, _, rfl, vb, b1, rfl, Dp.kt (kt_same s2) _ _ (.tup b1.tp) hb1, hf.2.1, by omega, by omega, fun H3 s3 => ⟨_, _, rfl, rfl, ?_⟩⟩
      have s23 := s2.trans s3
      refine ⟨_, rfl, _, rfl, vc, c1, rfl, Dp.kt (kt_same s23) _ _ (.tup c1.tp) hc1, hf.2.2, by omega, by omega, fun H4 s4 => ⟨_, _, rfl, rfl, ?_⟩⟩
      have s24 := s23.trans s4
      have gp4 := s24 _ _ gp
      refine pickJ (i := 3) (j := 4) (k := 2) rfl rfl rfl fun f1 hf1 => ?_
      refine pickJ (i := 4) (j := 5) (k := 2) rfl rfl rfl fun f2 hf2 => ?_
      have ef1 : some f1 = (if b1.mr = 0 then some f else some ((ts.length + 1 : Nat) : Int)) := by
        rw [hf1]
        by_cases z : b1.mr = 0
        · rw [if_pos z, if_neg (by omega)]
        · rw [if_neg z, if_pos (by omega)]; rfl
      have ef2 : some f2 = (if c1.mr = 0 then some f else some ((ts.length + 1 + b1.mr : Nat) : Int)) := by
        rw [hf2]
        by_cases z : c1.mr = 0
        · rw [if_pos z, if_neg (by omega)]
        · rw [if_neg z, if_pos (by omega)]; rfl
      refine ⟨_, rfl, .inl ⟨rfl, _, SqL.of gp4⟩, _, rfl, _, rfl, _, rfl, (by show 4 ≤ sizeLine; decide), fun t ht => ?_⟩
      have s5 := same_new ht (.tup [.str "branch", va, .int f1, .int f2])
      have gp5 := s5 _ _ gp4
      refine ⟨p, _, _, rfl, rfl, gp5, sz (m := 1000) (by omega), ?_⟩
      have s25 := s24.trans s5
      have kp := kt_lst gp5 (.lst (ts ++ [.ref t]))
      have rw0 : Dp K (upd (upd H4 t (.tup [.str "branch", va, .int f1, .int f2])) p (.lst (ts ++ [.ref t]))) (.ref t) (Rw.branch e f1 f2).dat := Dp.kt kp _ _ (Rw.tp _) (.tup (SqT.of upd_same) (.cons (.str _) (.cons (IsE.kt hva (kt_same s25)) (.cons (.int _) (.cons (.int _) .nil)))))
      have x6 : X1 p H (upd (upd H4 t (.tup [.str "branch", va, .int f1, .int f2])) p (.lst (ts ++ [.ref t]))) := (x1_same s25).trans x1_put
      have g6 : (upd (upd H4 t (.tup [.str "branch", va, .int f1, .int f2])) p (.lst (ts ++ [.ref t]))) p = some (.lst (ts ++ [.ref t])) := upd_same
      change tSeq _ _ _ _ (upd (upd H4 t (.tup [.str "branch", va, .int f1, .int f2])) p (.lst (ts ++ [.ref t])))
      generalize upd (upd H4 t (.tup [.str "branch", va, .int f1, .int f2])) p (.lst (ts ++ [.ref t])) = H6 at rw0 x6 g6 ⊢
      have k6 := kt_x1 x6 gp
      refine ⟨_, rfl, _, rfl, _, rfl, vb, b1, p, f, ts ++ [.ref t], rfl, Dp.kt k6 _ _ (.tup b1.tp) hb1, g6, hf.2.1, by omega, by simp only [List.length_append, List.length_cons, List.length_nil]; omega, ?_⟩
      intro us1 H7 x7 g7 a7
      have k7 := kt_x1 x7 g6
      have lu1 := a7.len
      rw [List.length_map, Bl.ly_len] at lu1
      refine ⟨_, rfl, _, rfl, _, rfl, vc, c1, p, f, ts ++ [.ref t] ++ us1, rfl, Dp.kt (k6.trans k7) _ _ (.tup c1.tp) hc1, g7, hf.2.2, by omega, by simp only [List.length_append, List.length_cons, List.length_nil]; omega, ?_⟩
      intro us2 H8 x8 g8 a8
      have k8 := kt_x1 x8 g7
      refine post ([.ref t] ++ us1 ++ us2) H8 ((x6.trans x7).trans x8) (by rw [g8]; simp) ?_
      rw [← ef1, ← ef2]
      have q0 : AreR K H8 [.ref t] [.branch e f1 f2] := .cons (Dp.kt (k7.trans k8) _ _ (Rw.tp _) rw0) .nil
      have q := AreR.app (AreR.app q0 (a7.kt k8)) a8
      simp only [List.length_append, List.length_cons, List.length_nil, lu1] at q
      rw [rwL, List.map_cons, List.map_append]
      simpa [rwL, Rh.rw, List.append_assoc] using q
theorem rec_put {f g : Addr} {fd gd : FuncData} (F : Fun K "put_statement" "put_statement" s_put_statement f fd) (mf : mg "put_statement" = some (.ref f)) (bf : Binds K fd ps_put_statement []) (G : Fun K "put_block" "put_block" s_put_block g gd) (mgg : mg "put_block" = some (.ref g)) (bg : Binds K gd ps_put_block []) (Z : Zb mg) (G_unrolled : FnIn P w K mg base 7 "unrolled" ps_unrolled (spUn K 6)) (G_many_rows : FnIn P w K mg base 14 "many_rows" ps_many_rows (spMR K 6)) :
    ∀ n : Nat, n ≤ 5 → FnIn P w K mg base (2 * n + 16) "put_statement" ps_put_statement (spPS K n) ∧ FnIn P w K mg base (2 * n + 17) "put_block" ps_put_block (spPB K n)
  | 0, _ => by
    have no : ∀ vs H Q E, ¬ spPS K 0 vs H Q E := fun vs H Q E h => by
      obtain ⟨_, _, _, _, _, _, _, _, _, _, h1, _⟩ := h
      omega
    have G0 : FnIn P w K mg base (2 * 0 + 16) "put_statement" ps_put_statement (spPS K 0) := ⟨f, fd, ⟨fun vs H Q E h => absurd h (no vs H Q E), fun A outer s H args us vs Q E _ _ _ _ h => absurd h (no vs H Q E)⟩, mf, F.kp, bf⟩
    exact ⟨G0, ⟨g, gd, ok_pb 0 (by omega) G Z G_unrolled G_many_rows G0, mgg, G.kp, bg⟩⟩
  | n + 1, h => by
    have ih := rec_put F mf bf G mgg bg Z G_unrolled G_many_rows n (by omega)
    have G1 : FnIn P w K mg base (2 * (n + 1) + 16) "put_statement" ps_put_statement (spPS K (n + 1)) := ⟨f, fd, ok_ps n (by omega) F Z G_many_rows ih.2, mf, F.kp, bf⟩
    exact ⟨G1, ⟨g, gd, ok_pb (n + 1) (by omega) G Z G_unrolled G_many_rows G1, mgg, G.kp, bg⟩⟩
end
end My
set_option Elab.async false
set_option maxRecDepth 100000
set_option linter.all false
namespace My
open PySem L2
def g11 {α : Type} : List α → List α → List α
  | [a], [c] => [a, c]
  | _, _ => []
def gD1 {α : Type} (x : α) : List α → List α → List α
  | [a], [] => [a, x]
  | _, _ => []
theorem g11_rel {vs : List V} {us : List Value} {zs : List V} {ws : List Value} (h : Vals vs us) (h' : Vals zs ws) : Vals (g11 vs zs) (g11 us ws) := by
  cases h with
  | nil => exact .nil
  | cons a h =>
    cases h with
    | cons _ _ => exact .nil
    | nil =>
      cases h' with
      | nil => exact .nil
      | cons c h' =>
        cases h' with
        | nil => exact .cons a (.cons c .nil)
        | cons _ _ => exact .nil
theorem gD1_rel {x : V} {y : Value} (r : RelV x y) {vs : List V} {us : List Value} {zs : List V} {ws : List Value} (h : Vals vs us) (h' : Vals zs ws) : Vals (gD1 x vs zs) (gD1 y us ws) := by
  cases h with
  | nil => exact .nil
  | cons a h =>
    cases h with
    | cons _ _ => exact .nil
    | nil =>
      cases h' with
      | cons _ _ => exact .nil
      | nil => exact .cons a (.cons r .nil)
theorem peek_load {α : Type} {K : PySem.W.Frag} {S : Setting} {t : Sem α} {a : Addr} {p} {k : Obj → Sem α} (h : t = .load a p k) {o : Obj} (l : K.lookup a = some o) {r : α} (e : PySem.W.peek K S (k o) = some r) : PySem.W.peek K S t = some r := by
  rw [h, PySem.W.peek, l]
  exact e
theorem bind_flow {K : PySem.W.Frag} {s : Shared} (X : K.In s.heap) {d g : Addr} {tK : Tok} {cK : Value} {od : Option Addr} {hK : Int} {nK : Nat} {sl : Array (Option Value)} (kl : K.lookup d = some ⟨cK, od, .dict #[⟨hK, .str "asked" tK, .ref g⟩] nK, sl⟩) (doc pm : Value) (an : Option Addr) (cdv ct v : Value) :
   BindsTo s (PySem.W.fnOf "flow_of" "flow_of" (defArgs s_flow_of) (defBody s_flow_of) (defScope s_flow_of) .none (.ref d) doc pm an cdv ct) ⟨[v], []⟩ [("book", v), ("asked", .ref g)] := by
  refine PySem.W.kp_binds X fun S => ?_
  refine peek_load (by rfl) kl ?_
  rfl
/-- a book opened: its body -/
theorem Bk.openB {K : PySem.W.Frag} {H : Hp} {v : V} {k : Bk} (h : Dp K H v k.dat) : ∃ a v0 v1 v2, v = .ref a ∧ SqT K H a [v0, v1, v2] ∧ Dp K H v2 (.tuple k.b.dats) := by
  unfold Bk.dat at h
  obtain ⟨a, vs, rfl, hs, hd⟩ := tupOpen h
  cases hd with | cons h1 r => cases r with | cons h2 r => cases r with | cons h3 r => cases r; exact ⟨a, _, _, _, rfl, hs, h3⟩
def spFlow (K : PySem.W.Frag) : Sp := fun vs H Q _ => ∃ (vb va : V) (k : Bk) (e : Ex), vs = [vb, va] ∧ Dp K H vb k.dat ∧ IsE K H va e ∧ k.b.Ft ∧ k.b.nest ≤ 3 ∧ k.b.mr ≤ 900 ∧ ∀ (t : Addr) (ws : List V) (H' : Hp), Same H H' → SqT K H' t ws → AreR K H' ws (rwL (k.b.ly 0 (some (k.b.mr : Int))) ++ [.fin e]) → Q (.ref t) H'
section
variable {P : Program} {w : World} {K : PySem.W.Frag} {mg : Str → Option Value} {base : Heap}
set_option maxHeartbeats 4000000 in
theorem ok_flow {f : Addr} {fd : FuncData} (F : Fun K "flow_of" "flow_of" s_flow_of f fd) (Z : Zb mg) (G_put_block : FnIn P w K mg base 25 "put_block" ps_put_block (spPB K 4)) (G_many_rows : FnIn P w K mg base 14 "many_rows" ps_many_rows (spMR K 6)) : FnOk P w K mg base CX0 26 f fd ps_flow_of (spFlow K) := by
  refine F.ok sc_flow_of (fun vs H Q E h => ?_) (fun cdv A outer s H vs Q E hr h => ?_)
  · obtain ⟨vb, va, k, e, rfl, _⟩ := h
    rfl
  · obtain ⟨vb, va, bk, e, rfl, hb, he, hft, hn, hm, k⟩ := h
    refine ⟨_, (pss_cons (ps_set (i := 2) sc_flow_of.nd rfl (by first | exact Or.inl rfl | exact Or.inr rfl) (pe_lst pa_nil))
      (pss_cons (ps_expr (pe_fn G_put_block hr rfl (pa_cons (pv 2) (pa_cons (pe_ix ix_tup (pv 0) pe_int (fun _ _ => rfl)) (pa_cons (pe_fn G_many_rows hr rfl (pa_cons (pe_ix ix_tup (pv 0) pe_int (fun _ _ => rfl)) pa_nil)) pa_nil)))))
      (pss_cons (ps_expr (pe_bm PySem.F.plainAttrs_list PySem.F.slot_list_append PySem.F.type_list_append mt_append (pv 2) (pa_cons (pe_tup (pa_cons pe_str (pa_cons (pv 1) pa_nil))) pa_nil)))
      (pss_one (ps_ret (pe_callTy call_tuple_of (by rfl) Z.tuple (by decide +kernel) (pa_cons (pv 2) pa_nil))))))), ?_⟩
    obtain ⟨a, v0, v1, v2, rfl, hs, hd⟩ := Bk.openB hb
    refine ⟨(by show 0 ≤ sizeLine; decide), fun p hp => ?_⟩
    have s0 := same_new hp (.lst [])
    have gp : upd H p (.lst []) p = some (.lst []) := upd_same
    change tSeq _ _ _ _ (upd H p (.lst []))
    generalize upd H p (.lst []) = H1 at s0 gp ⊢
    refine ⟨_, rfl, _, rfl, a, _, _, v2, rfl, rfl, sqt_kt hs (kt_same s0), at_ofA (j := 2) rfl rfl, _, rfl, a, _, _, v2, rfl, rfl, sqt_kt hs (kt_same s0), at_ofA (j := 2) rfl rfl, ?_⟩
    refine ⟨v2, bk.b, rfl, Dp.kt (kt_same s0) _ _ (.tup bk.b.tp) hd, hft, by omega, by omega, fun H2 s2 => ?_⟩
    have s02 := s0.trans s2
    refine ⟨v2, bk.b, p, _, [], rfl, Dp.kt (kt_same s02) _ _ (.tup bk.b.tp) hd, s2 _ _ gp, hft, by omega, by simp only [List.length_nil]; omega, ?_⟩
    intro us H3 x3 g3 a3
    have sH3 : Same H H3 := fun b o h => x3 _ _ (s02 _ _ h) (ne_of_none h hp)
    rw [List.nil_append] at g3
    have lu := a3.len
    rw [List.length_map, Bl.ly_len] at lu
    refine ⟨_, rfl, .inl ⟨rfl, _, SqL.of g3⟩, _, rfl, (by show 2 ≤ sizeLine; decide), fun t ht => ?_⟩
    have s4 := same_new ht (.tup [.str "end", va])
    have g4 := s4 _ _ g3
    refine ⟨p, _, _, rfl, rfl, g4, sz (m := 1000) (by omega), ?_⟩
    have kp := kt_lst g4 (.lst (us ++ [.ref t]))
    have k3 := (kt_same s4).trans kp
    have ar : AreR K (upd (upd H3 t (.tup [.str "end", va])) p (.lst (us ++ [.ref t]))) (us ++ [.ref t]) (rwL (bk.b.ly 0 (some (bk.b.mr : Int))) ++ [.fin e]) :=
      (a3.kt k3).app (.cons (Dp.kt kp _ _ (Rw.tp (.fin e)) (.tup (SqT.of upd_same) (.cons (.str _) (.cons (he.kt (kt_same (sH3.trans s4))) .nil)))) .nil)
    have g5 : upd (upd H3 t (.tup [.str "end", va])) p (.lst (us ++ [.ref t])) p = some (.lst (us ++ [.ref t])) := upd_same
    have s5 : Same H (upd (upd H3 t (.tup [.str "end", va])) p (.lst (us ++ [.ref t]))) := same_upd (sH3.trans s4) hp _
    refine ⟨_, rfl, p, _, rfl, .inl ⟨SqL.of g5, fun q hq => ?_⟩⟩
    have s6 := same_new hq (.tup (us ++ [.ref t]))
    exact k q _ _ (s5.trans s6) (SqT.of upd_same) (ar.kt (kt_same s6))
end
end My
set_option Elab.async false
set_option maxRecDepth 100000
set_option linter.all false
namespace My
open PySem L2
theorem Bl.mrL_toL (b : Bl) : mrL b.toL = b.mr := (Bl.mr_toL b).symm
theorem lyU_toL : ∀ (b : Bl) (n : Nat) (f : Option Int), lyU b.toL n f = b.ly n f
  | .nil, _, _ => by simp [Bl.toL, lyU, Bl.ly]
  | .cons s b, n, f => by
    simp only [Bl.toL, lyU, Bl.ly, lyU_toL b, Bl.mrL_toL]
theorem lyU_nil {ss : List Sm} (h : mrL ss = 0) (n : Nat) (f : Option Int) : lyU ss n f = [] := List.eq_nil_of_length_eq_zero (by rw [lyU_len]; exact h)
theorem lyU_rep (ss : List Sm) (h0 : mrL ss ≠ 0) (n : Nat) : ∀ (m : Nat) (f : Option Int), lyU (List.replicate m ss).flatten n f = (List.range m).flatMap fun i => lyU ss (n + i * mrL ss) (if i + 1 < m then some ((n + (i + 1) * mrL ss : Nat) : Int) else f)
  | 0, f => rfl
  | m + 1, f => by
    have e1 : (List.replicate (m + 1) ss).flatten = (List.replicate m ss).flatten ++ ss := by
      rw [List.replicate_succ', List.flatten_append]
      simp
    rw [e1, lyU_app, lyU_rep ss h0 n m, if_neg h0, mrL_rep, List.range_succ, List.flatMap_append]
    congr 1
    · refine flat_ext fun i hi => ?_
      have hi := List.mem_range.mp hi
      by_cases c : i + 1 < m
      · rw [if_pos c, if_pos (by omega)]
      · rw [if_neg c, if_pos (by omega), show i + 1 = m by omega]
    · simp
theorem lyU_one (s : Sm) (n : Nat) (f : Option Int) : lyU [s] n f = s.ly n f := by
  rw [lyU, lyU, List.append_nil, if_pos (show mrL [] = 0 from rfl)]
theorem lyU_times (k : Int) (b : Bl) (n : Nat) (f : Option Int) : lyU (List.replicate k.toNat b.toL).flatten n f = lyU [.times k b] n f := by
  rw [lyU_one]
  by_cases h0 : b.mr = 0
  · have l1 : lyU (List.replicate k.toNat b.toL).flatten n f = [] := lyU_nil (by rw [mrL_rep, Bl.mrL_toL, h0, Nat.mul_zero]) n f
    have l2 : (Sm.times k b).ly n f = [] := List.eq_nil_of_length_eq_zero (by rw [Sm.ly_len, Sm.mr, h0, Nat.mul_zero])
    rw [l1, l2]
  · rw [lyU_rep _ (by rw [Bl.mrL_toL]; exact h0), Bl.mrL_toL]
    simp only [Sm.ly, lyU_toL]
theorem lyU_fill (v : Int) : ∀ (ss : List Sm) (n : Nat) (f : Option Int), (lyU ss n f).map (Rh.fill v) = lyU ss n (f.orElse fun _ => some v)
  | [], _, _ => rfl
  | s :: r, n, f => by
    rw [lyU, lyU, List.map_append, Sm.ly_fill, lyU_fill v r]
    congr 2
    split <;> rfl
theorem no_hole (v : Int) (z : Rh) (s : Nat) : ¬ (z.fill v).hole s := by
  cases z with
  | draw x as f => cases f <;> simp [Rh.fill, Rh.hole]
  | set x e f => cases f <;> simp [Rh.fill, Rh.hole]
  | see e f => cases f <;> simp [Rh.fill, Rh.hole]
  | branch e a b => cases a <;> cases b <;> simp [Rh.fill, Rh.hole]
theorem lyU_full {ss : List Sm} {n : Nat} {v : Int} {z : Rh} (h : z ∈ lyU ss n (some v)) (s : Nat) : ¬ z.hole s := by
  have e := lyU_fill v ss n none
  rw [show (none : Option Int).orElse (fun _ => some v) = some v from rfl] at e
  rw [← e] at h
  obtain ⟨y, _, rfl⟩ := List.mem_map.mp h
  exact no_hole v y s
theorem holes_app {A B : List Rh} {n : Nat} (h : ∀ z ∈ A, ∀ s, ¬ z.hole s) (q : Nat × Nat) : HolesOf n (A ++ B) q ↔ HolesOf (n + A.length) B q := by
  constructor
  · rintro ⟨z, h1, h2, h3⟩
    by_cases c : q.1 - n < A.length
    · rw [List.getElem?_append_left c] at h2
      exact absurd h3 (h z (List.mem_of_getElem? h2) _)
    · rw [List.getElem?_append_right (by omega)] at h2
      exact ⟨z, by omega, by rw [← h2]; congr 1; omega, h3⟩
  · rintro ⟨z, h1, h2, h3⟩
    exact ⟨z, by omega, by rw [List.getElem?_append_right (by omega), ← h2]; congr 1; omega, h3⟩
theorem fillAt_len (L : List (Nat × Nat)) (v : Int) (Z : List Rh) : (fillAt L v Z).length = Z.length := by unfold fillAt; simp
structure LayR (ss : List Sm) (Z : List Rh) (L : List (Nat × Nat)) (Z' : List Rh) (L' : List (Nat × Nat)) : Prop where
  none_ : mrL ss = 0 → Z' = Z ∧ L' = L
  rows : mrL ss ≠ 0 → Z' = fillAt L (Z.length : Int) Z ++ lyU ss Z.length none
  ends : mrL ss ≠ 0 → ∀ q, q ∈ L' ↔ HolesOf Z.length (lyU ss Z.length none) q
  few : mrL ss ≠ 0 → L'.length ≤ 2 * mrL ss
theorem LayR.nil (Z : List Rh) (L : List (Nat × Nat)) : LayR [] Z L Z L := ⟨fun _ => ⟨rfl, rfl⟩, fun h => absurd rfl h, fun h => absurd rfl h, fun h => absurd rfl h⟩
theorem LayR.len {ss : List Sm} {Z Z' : List Rh} {L L' : List (Nat × Nat)} (h : LayR ss Z L Z' L') : Z'.length = Z.length + mrL ss := by
  by_cases c : mrL ss = 0
  · rw [(h.none_ c).1, c]; rfl
  · rw [h.rows c, List.length_append, fillAt_len, lyU_len]
theorem LayR.lenL {ss : List Sm} {Z Z' : List Rh} {L L' : List (Nat × Nat)} (h : LayR ss Z L Z' L') : L'.length ≤ L.length + 2 * mrL ss := by
  by_cases c : mrL ss = 0
  · rw [(h.none_ c).2]; omega
  · have := h.few c; omega
theorem LayR.trans {xs ys : List Sm} {Z Z1 Z2 : List Rh} {L L1 L2 : List (Nat × Nat)} (h : LayR xs Z L Z1 L1) (h' : LayR ys Z1 L1 Z2 L2) : LayR (xs ++ ys) Z L Z2 L2 := by
  have l1 := h.len
  by_cases cx : mrL xs = 0
  · obtain ⟨rfl, rfl⟩ := h.none_ cx
    have e : ∀ n f, lyU (xs ++ ys) n f = lyU ys n f := fun n f => by rw [lyU_app, lyU_nil cx, cx, Nat.add_zero]; rfl
    have em : mrL (xs ++ ys) = mrL ys := by rw [mrL_app, cx, Nat.zero_add]
    exact ⟨fun c => h'.none_ (by omega), fun c => by rw [e]; exact h'.rows (by omega), fun c => by rw [e]; exact h'.ends (by omega), fun c => by rw [em]; exact h'.few (by omega)⟩
  · by_cases cy : mrL ys = 0
    · obtain ⟨rfl, rfl⟩ := h'.none_ cy
      have e : ∀ n, lyU (xs ++ ys) n none = lyU xs n none := fun n => by rw [lyU_app, if_pos cy, lyU_nil cy, List.append_nil]
      have em : mrL (xs ++ ys) = mrL xs := by rw [mrL_app, cy, Nat.add_zero]
      exact ⟨fun c => by omega, fun c => by rw [e]; exact h.rows cx, fun c => by rw [e]; exact h.ends cx, fun c => by rw [em]; exact h.few cx⟩
    · have e : lyU (xs ++ ys) Z.length none = lyU xs Z.length (some ((Z1.length : Nat) : Int)) ++ lyU ys Z1.length none := by rw [lyU_app, if_neg cy, l1]
      refine ⟨fun c => by rw [mrL_app] at c; omega, fun _ => ?_, fun _ q => ?_, fun _ => ?_⟩
      · have hz1 := h.rows cx
        have key : fillAt L1 ((Z1.length : Nat) : Int) Z1 = fillAt L (Z.length : Int) Z ++ lyU xs Z.length (some ((Z1.length : Nat) : Int)) := by
          have q := fillAt_app L1 ((Z1.length : Nat) : Int) (fillAt L (Z.length : Int) Z) (lyU xs Z.length none) (by rw [fillAt_len]; exact h.ends cx)
          rw [← hz1, lyU_fill] at q
          exact q
        rw [h'.rows cy, key, e, List.append_assoc]
      · rw [h'.ends cy q, e, holes_app (fun z hz s => lyU_full hz s), lyU_len, ← l1]
      · have := h'.few cy
        rw [mrL_app]
        omega
theorem LayR.of_eq {xs ys : List Sm} {Z Z' : List Rh} {L L' : List (Nat × Nat)} (h : LayR xs Z L Z' L') (e : lyU xs Z.length none = lyU ys Z.length none) (em : mrL xs = mrL ys) : LayR ys Z L Z' L' :=
  ⟨fun c => h.none_ (by omega), fun c => by rw [← e]; exact h.rows (by omega), fun c => by rw [← e]; exact h.ends (by omega), fun c => by rw [← em]; exact h.few (by omega)⟩
theorem LayR.times {k : Int} {b : Bl} {Z Z' : List Rh} {L L' : List (Nat × Nat)} (h : LayR (List.replicate k.toNat b.toL).flatten Z L Z' L') : LayR [.times k b] Z L Z' L' :=
  h.of_eq (lyU_times k b _ _) (by rw [mrL_rep, Bl.mrL_toL, mrL_cons, Sm.mr]; simp [mrL])
/-- one row more, one loose end -/
theorem LayR.row {s : Sm} {z : Rh} {sp : Nat} (Z : List Rh) (L : List (Nat × Nat)) (hs : ∀ n, s.ly n none = [z]) (hz : ∀ t, z.hole t ↔ t = sp) : LayR [s] Z L (fillAt L (Z.length : Int) Z ++ [z]) [(Z.length, sp)] := by
  have hm : mrL [s] = 1 := by
    have := Sm.ly_len s 0 none
    rw [hs] at this
    simp only [List.length_cons, List.length_nil] at this
    rw [mrL_cons, ← this]
    simp [mrL]
  refine ⟨fun c => by omega, fun _ => by rw [lyU_one, hs], fun _ q => ?_, fun _ => by rw [hm]; simp⟩
  rw [lyU_one, hs, List.mem_singleton]
  constructor
  · rintro rfl
    exact ⟨z, Nat.le_refl _, by simp, (hz _).mpr rfl⟩
  · rintro ⟨y, h1, h2, h3⟩
    have h4 := (List.getElem?_eq_some_iff.mp h2).1
    simp only [List.length_cons, List.length_nil] at h4
    have e0 : q.1 = Z.length := by omega
    rw [e0, Nat.sub_self] at h2
    cases h2
    exact Prod.ext e0 ((hz _).mp h3)
theorem fillAt_one (F R : List Rh) (z : Rh) (s : Nat) (v : Int) : fillAt [(F.length, s)] v (F ++ z :: R) = F ++ z.fillS (fun t => decide (t = s)) v :: R := by
  unfold fillAt
  refine List.ext_getElem? fun i => ?_
  rw [List.getElem?_mapIdx]
  by_cases hi : i < F.length
  · rw [List.getElem?_append_left hi, List.getElem?_append_left hi]
    cases hz : F[i]? with
    | none => rfl
    | some y =>
      simp only [Option.map_some]
      congr 1
      exact fillS_none v y fun t => decide_eq_false fun m => by
        have := congrArg Prod.fst (List.mem_singleton.mp m)
        simp only at this
        omega
  · rw [List.getElem?_append_right (by omega), List.getElem?_append_right (by omega)]
    by_cases e : i = F.length
    · subst e
      rw [Nat.sub_self]
      simp only [List.getElem?_cons_zero, Option.map_some, List.mem_singleton, Prod.mk.injEq, true_and]
    · obtain ⟨j, hj⟩ : ∃ j, i - F.length = j + 1 := ⟨i - F.length - 1, by omega⟩
      rw [hj, List.getElem?_cons_succ, List.getElem?_cons_succ]
      cases hz : R[j]? with
      | none => rfl
      | some y =>
        simp only [Option.map_some]
        congr 1
        exact fillS_none v y fun t => decide_eq_false fun m => by
          have := congrArg Prod.fst (List.mem_singleton.mp m)
          simp only at this
          omega
theorem LayR.ite {e : Ex} {a b : Bl} {Z Z1 Z2 : List Rh} {L L1 L2 : List (Nat × Nat)} (h1 : LayR a.toL (fillAt L (Z.length : Int) Z ++ [.branch e none none]) [(Z.length, 2)] Z1 L1) (h2 : LayR b.toL Z1 [(Z.length, 3)] Z2 L2) : LayR [.ite e a b] Z L Z2 (L1 ++ L2) := by
  have hF : (fillAt L (Z.length : Int) Z).length = Z.length := fillAt_len _ _ _
  have hm : mrL [Sm.ite e a b] = 1 + a.mr + b.mr := by rw [mrL_cons, Sm.mr]; simp [mrL]
  have ma := Bl.mrL_toL a
  have mb := Bl.mrL_toL b
  have l1 := h1.len
  rw [List.length_append, hF, ma] at l1
  simp only [List.length_cons, List.length_nil, Nat.zero_add] at l1
  generalize hFF : fillAt L (Z.length : Int) Z = F at hF h1
  have r1 := h1.rows
  have e1 := h1.ends
  have f1 := h1.few
  have n1 := h1.none_
  rw [ma, List.length_append, hF] at r1 e1
  rw [ma] at f1 n1
  simp only [List.length_cons, List.length_nil, Nat.zero_add, lyU_toL] at r1 e1
  have r2 := h2.rows
  have e2 := h2.ends
  have f2 := h2.few
  have n2 := h2.none_
  rw [mb, l1] at r2 e2
  rw [mb] at f2 n2
  simp only [lyU_toL] at r2 e2
  have ez1 : Z1 = F ++ .branch e (if a.mr = 0 then none else some ((Z.length + 1 : Nat) : Int)) none :: a.ly (Z.length + 1) none := by
    by_cases c : a.mr = 0
    · rw [(n1 c).1, if_pos c, Bl.ly_nil c]
    · rw [r1 c, if_neg c]
      have q := fillAt_one F [] (.branch e none none) 2 ((Z.length + 1 : Nat) : Int)
      rw [hF] at q
      rw [q, List.append_assoc]
      simp [Rh.fillS]
  have ez2 : Z2 = F ++ (Sm.ite e a b).ly Z.length none := by
    simp only [Sm.ly]
    by_cases c : b.mr = 0
    · rw [(n2 c).1, ez1, if_pos c, Bl.ly_nil c, List.append_nil]
    · rw [r2 c, ez1, if_neg c]
      have q := fillAt_one F (a.ly (Z.length + 1) none) (.branch e (if a.mr = 0 then none else some ((Z.length + 1 : Nat) : Int)) none) 3 ((Z.length + 1 + a.mr : Nat) : Int)
      rw [hF] at q
      rw [q, List.append_assoc]
      simp [Rh.fillS]
  refine ⟨fun c => by omega, fun _ => by rw [lyU_one, ez2, hFF], fun _ q => ?_, fun _ => ?_⟩
  · rw [lyU_one, List.mem_append]
    have hA : ∀ q, HolesOf (Z.length + 1) (a.ly (Z.length + 1) none) q → HolesOf Z.length ((Sm.ite e a b).ly Z.length none) q := by
      rintro q ⟨z, g1, g2, g3⟩
      have g4 := (List.getElem?_eq_some_iff.mp g2).1
      refine ⟨z, by omega, ?_, g3⟩
      obtain ⟨j, hj⟩ : ∃ j, q.1 - Z.length = j + 1 := ⟨q.1 - Z.length - 1, by omega⟩
      have ej : q.1 - (Z.length + 1) = j := by omega
      rw [ej] at g2 g4
      simp only [Sm.ly]
      rw [hj, List.getElem?_cons_succ, List.getElem?_append_left g4, g2]
    have hB : ∀ q, HolesOf (Z.length + 1 + a.mr) (b.ly (Z.length + 1 + a.mr) none) q → HolesOf Z.length ((Sm.ite e a b).ly Z.length none) q := by
      rintro q ⟨z, g1, g2, g3⟩
      refine ⟨z, by omega, ?_, g3⟩
      obtain ⟨j, hj⟩ : ∃ j, q.1 - Z.length = j + 1 := ⟨q.1 - Z.length - 1, by omega⟩
      have la := Bl.ly_len a (Z.length + 1) none
      simp only [Sm.ly]
      rw [hj, List.getElem?_cons_succ, List.getElem?_append_right (by omega), ← g2]
      congr 1
      omega
    have h0 : ∀ t, (Rh.branch e (if a.mr = 0 then none else some ((Z.length + 1 : Nat) : Int)) (if b.mr = 0 then none else some ((Z.length + 1 + a.mr : Nat) : Int))).hole t ↔ (t = 2 ∧ a.mr = 0) ∨ (t = 3 ∧ b.mr = 0) := fun t => by
      simp only [Rh.hole]
      by_cases ca : a.mr = 0 <;> by_cases cb : b.mr = 0 <;> simp [ca, cb]
    constructor
    · rintro (m | m)
      · by_cases c : a.mr = 0
        · rw [(n1 c).2, List.mem_singleton] at m
          subst m
          refine ⟨_, Nat.le_refl _, by simp only [Sm.ly, Nat.sub_self]; rfl, (h0 2).mpr (.inl ⟨rfl, c⟩)⟩
        · exact hA q ((e1 c q).mp m)
      · by_cases c : b.mr = 0
        · rw [(n2 c).2, List.mem_singleton] at m
          subst m
          refine ⟨_, Nat.le_refl _, by simp only [Sm.ly, Nat.sub_self]; rfl, (h0 3).mpr (.inr ⟨rfl, c⟩)⟩
        · exact hB q ((e2 c q).mp m)
    · rintro ⟨z, g1, g2, g3⟩
      simp only [Sm.ly] at g2
      by_cases c0 : q.1 - Z.length = 0
      · rw [c0] at g2
        simp only [List.getElem?_cons_zero, Option.some.injEq] at g2
        subst g2
        have eq1 : q.1 = Z.length := by omega
        rcases (h0 q.2).mp g3 with ⟨c2, c⟩ | ⟨c2, c⟩
        · left
          rw [(n1 c).2, List.mem_singleton]
          exact Prod.ext eq1 c2
        · right
          rw [(n2 c).2, List.mem_singleton]
          exact Prod.ext eq1 c2
      · obtain ⟨j, hj⟩ : ∃ j, q.1 - Z.length = j + 1 := ⟨q.1 - Z.length - 1, by omega⟩
        rw [hj, List.getElem?_cons_succ] at g2
        have la := Bl.ly_len a (Z.length + 1) none
        have lb := Bl.ly_len b (Z.length + 1 + a.mr) none
        by_cases cj : j < a.mr
        · left
          rw [List.getElem?_append_left (by omega)] at g2
          refine (e1 (by omega) q).mpr ⟨z, by omega, ?_, g3⟩
          rw [← g2]; congr 1; omega
        · right
          rw [List.getElem?_append_right (by omega)] at g2
          have := (List.getElem?_eq_some_iff.mp g2).1
          refine (e2 (by omega) q).mpr ⟨z, by omega, ?_, g3⟩
          rw [← g2]; congr 1; omega
  · rw [List.length_append, hm]
    have k1 : L1.length ≤ 1 + 2 * a.mr := by
      by_cases c : a.mr = 0
      · rw [(n1 c).2]; simp
      · have := f1 c; omega
    have k2 : L2.length ≤ 1 + 2 * b.mr := by
      by_cases c : b.mr = 0
      · rw [(n2 c).2]; simp
      · have := f2 c; omega
    omega
end My
set_option Elab.async false
set_option maxRecDepth 100000
set_option linter.all false
namespace My
open PySem L2
def optD : Option Int → PyData
  | none => .none
  | some i => .int i
theorem opt_tp (o : Option Int) : Tp (optD o) := by cases o <;> constructor
def Rh.dl : Rh → List PyData
  | .draw x as f => [.str "draw", .str x, .tuple (as.map altD), optD f]
  | .set x e f => [.str "set", .str x, e.dat, optD f]
  | .see e f => [.str "see", e.dat, optD f]
  | .branch e a b => [.str "branch", e.dat, optD a, optD b]
theorem Rh.dl_tp (z : Rh) : ∀ d ∈ z.dl, Tp d := fun d h => by
  cases z <;> simp only [Rh.dl, List.mem_cons, List.not_mem_nil, or_false] at h
  · rcases h with rfl | rfl | rfl | rfl
    · constructor
    · constructor
    · exact alts_tp _
    · exact opt_tp _
  · rcases h with rfl | rfl | rfl | rfl
    · constructor
    · constructor
    · exact Ex.tp _
    · exact opt_tp _
  · rcases h with rfl | rfl | rfl
    · constructor
    · exact Ex.tp _
    · exact opt_tp _
  · rcases h with rfl | rfl | rfl | rfl
    · constructor
    · exact Ex.tp _
    · exact opt_tp _
    · exact opt_tp _
/-- the spots of a row -/
def Rh.spot : Rh → Nat → Prop
  | .draw _ _ _, s => s = 3
  | .set _ _ _, s => s = 3
  | .see _ _, s => s = 2
  | .branch _ _ _, s => s = 2 ∨ s = 3
theorem Rh.spot_fill {z : Rh} {s : Nat} (p : Nat → Bool) (v : Int) : (z.fillS p v).spot s ↔ z.spot s := by cases z <;> rfl
theorem Rh.spot_lt {z : Rh} {s : Nat} (h : z.spot s) : s < z.dl.length := by
  cases z <;> simp only [Rh.spot] at h <;> simp only [Rh.dl, List.length_cons, List.length_nil] <;> omega
theorem Rh.dl_set {z : Rh} {s : Nat} (h : z.spot s) (v : Int) : z.dl.set s (.int v) = (z.fillS (fun t => decide (t = s)) v).dl := by
  cases z with
  | draw x as f => simp only [Rh.spot] at h; subst h; simp [Rh.dl, Rh.fillS, optD]
  | set x e f => simp only [Rh.spot] at h; subst h; simp [Rh.dl, Rh.fillS, optD]
  | see e f => simp only [Rh.spot] at h; subst h; simp [Rh.dl, Rh.fillS, optD]
  | branch e a b =>
    simp only [Rh.spot] at h
    rcases h with rfl | rfl <;> simp [Rh.dl, Rh.fillS, optD]
theorem fillS_or (z : Rh) (p q : Nat → Bool) (v : Int) : (z.fillS p v).fillS q v = z.fillS (fun t => p t || q t) v := by
  cases z with
  | draw x as f => simp only [Rh.fillS]; congr 1; by_cases h : q 3 <;> by_cases g : p 3 <;> simp [h, g]
  | set x e f => simp only [Rh.fillS]; congr 1; by_cases h : q 3 <;> by_cases g : p 3 <;> simp [h, g]
  | see e f => simp only [Rh.fillS]; congr 1; by_cases h : q 2 <;> by_cases g : p 2 <;> simp [h, g]
  | branch e a b =>
    simp only [Rh.fillS]
    congr 1
    · by_cases h : q 2 <;> by_cases g : p 2 <;> simp [h, g]
    · by_cases h : q 3 <;> by_cases g : p 3 <;> simp [h, g]
theorem fillAt_get (L : List (Nat × Nat)) (v : Int) (Z : List Rh) (i : Nat) : (fillAt L v Z)[i]? = (Z[i]?).map fun z => z.fillS (fun s => decide ((i, s) ∈ L)) v := by
  unfold fillAt
  rw [List.getElem?_mapIdx]
theorem fillAt_nil (v : Int) (Z : List Rh) : fillAt [] v Z = Z := by
  refine List.ext_getElem? fun i => ?_
  rw [fillAt_get]
  cases Z[i]? with
  | none => rfl
  | some z =>
    simp only [Option.map_some]
    congr 1
    exact fillS_none v z fun s => decide_eq_false (by simp)
theorem fillAt_step (L : List (Nat × Nat)) (t : Nat × Nat) (v : Int) (Z : List Rh) (i : Nat) : (fillAt (L ++ [t]) v Z)[i]? = if i = t.1 then ((fillAt L v Z)[i]?).map fun z => z.fillS (fun s => decide (s = t.2)) v else (fillAt L v Z)[i]? := by
  rw [fillAt_get, fillAt_get]
  by_cases e : i = t.1
  · rw [if_pos e]
    cases Z[i]? with
    | none => rfl
    | some z =>
      simp only [Option.map_some]
      congr 1
      rw [fillS_or]
      congr 1
      funext s
      have : ((i, s) ∈ L ++ [t]) ↔ ((i, s) ∈ L ∨ s = t.2) := by
        rw [List.mem_append, List.mem_singleton]
        constructor
        · rintro (h | h)
          · exact .inl h
          · exact .inr (by rw [← h])
        · rintro (h | h)
          · exact .inl h
          · exact .inr (Prod.ext e h)
      rw [decide_eq_decide.mpr this, Bool.decide_or]
  · rw [if_neg e]
    cases Z[i]? with
    | none => rfl
    | some z =>
      simp only [Option.map_some]
      congr 2
      funext s
      refine decide_eq_decide.mpr ?_
      rw [List.mem_append, List.mem_singleton]
      constructor
      · rintro (h | h)
        · exact h
        · exact absurd (congrArg Prod.fst h) e
      · exact .inl
theorem DpAll.set {K : PySem.W.Frag} {H : Hp} : ∀ {vs : List V} {ds : List PyData} (i : Nat) {v : V} {d : PyData}, DpAll K H vs ds → Dp K H v d → DpAll K H (vs.set i v) (ds.set i d)
  | _, _, _, _, _, .nil, _ => by simp only [List.set_nil]; exact .nil
  | _, _, 0, _, _, .cons _ hs, h => by simp only [List.set_cons_zero]; exact .cons h hs
  | _, _, i + 1, _, _, .cons a hs, h => by simp only [List.set_cons_succ]; exact .cons a (DpAll.set i hs h)
structure RowsH (K : PySem.W.Frag) (H : Hp) (qs : List Addr) (Z : List Rh) : Prop where
  len : qs.length = Z.length
  row : ∀ (i : Nat) (q : Addr) (z : Rh), qs[i]? = some q → Z[i]? = some z → ∃ vs, H q = some (.lst vs) ∧ DpAll K H vs z.dl
def lsD (t : Nat × Nat) : PyData := .tuple [.int (t.1 : Int), .int (t.2 : Int)]
theorem lsD_tp (t : Nat × Nat) : Tp (lsD t) := .tup fun e he => by
  simp only [List.mem_cons, List.not_mem_nil, or_false] at he
  rcases he with rfl | rfl <;> constructor
theorem lsDs_tp (L : List (Nat × Nat)) : ∀ d ∈ L.map lsD, Tp d := fun d hd => by
  obtain ⟨t, _, rfl⟩ := List.mem_map.mp hd
  exact lsD_tp t
structure LayIn (K : PySem.W.Frag) (H : Hp) (p lo : Addr) (qs : List Addr) (Z : List Rh) (L : List (Nat × Nat)) : Prop where
  gp : H p = some (.lst (qs.map V.ref))
  rw_ : RowsH K H qs Z
  nd : qs.Nodup
  np : p ∉ qs
  lo_ : ∃ vs, H lo = some (.lst vs) ∧ DpAll K H vs (L.map lsD)
  nlp : lo ≠ p
  nlq : lo ∉ qs
  ok : ∀ t ∈ L, ∃ z, Z[t.1]? = some z ∧ z.spot t.2
/-- all but the rows stand -/
def XL (p : Addr) (qs : List Addr) (H H' : Hp) : Prop := ∀ b o, H b = some o → b ≠ p → b ∉ qs → H' b = some o
theorem XL.refl {p : Addr} {qs : List Addr} {H : Hp} : XL p qs H H := fun _ _ h _ _ => h
theorem xl_same {p : Addr} {qs : List Addr} {H H' : Hp} (s : Same H H') : XL p qs H H' := fun b o h _ _ => s b o h
/-- what a later part changes: rows of before, or new ones -/
theorem XL.trans {p : Addr} {qs qs' : List Addr} {H H1 H2 : Hp} (a : XL p qs H H1) (b : XL p (qs ++ qs') H1 H2) (n : ∀ q ∈ qs', H q = none) : XL p qs H H2 := fun c o h h1 h2 => b c o (a c o h h1 h2) h1 fun m => by
  rcases List.mem_append.mp m with m | m
  · exact h2 m
  · rw [n c m] at h; cases h
theorem LayIn.kt {K : PySem.W.Frag} {H H' : Hp} {p lo : Addr} {qs : List Addr} {Z : List Rh} {L : List (Nat × Nat)} (I : LayIn K H p lo qs Z L) (x : XL p qs H H') : KT H H' := fun b ys h => by
  have nl : ∀ u, H b = some u → (∀ xs, u ≠ .lst xs) → H' b = some u := fun u e n => by
    refine x b u e (fun e0 => ?_) fun m => ?_
    · rw [e0, I.gp] at e
      exact n _ (Option.some.inj e).symm
    · obtain ⟨i, hi⟩ := List.getElem?_of_mem m
      have li := lt_of_get hi
      obtain ⟨vs, g, _⟩ := I.rw_.row i b _ hi (List.getElem?_eq_getElem (by rw [← I.rw_.len]; exact li))
      rw [g] at e
      exact n _ (Option.some.inj e).symm
  rcases h with h | ⟨o, h⟩
  · exact .inl (nl _ h fun xs e => nomatch e)
  · exact .inr ⟨o, nl _ h fun xs e => nomatch e⟩
theorem RowsH.same {K : PySem.W.Frag} {H H' : Hp} {qs : List Addr} {Z : List Rh} (R : RowsH K H qs Z) (s : Same H H') : RowsH K H' qs Z :=
  ⟨R.len, fun i q z h1 h2 => let ⟨vs, g, d⟩ := R.row i q z h1 h2; ⟨vs, s _ _ g, Dp.ktAll (kt_same s) _ _ z.dl_tp d⟩⟩
theorem LayIn.same {K : PySem.W.Frag} {H H' : Hp} {p lo : Addr} {qs : List Addr} {Z : List Rh} {L : List (Nat × Nat)} (I : LayIn K H p lo qs Z L) (s : Same H H') : LayIn K H' p lo qs Z L := by
  obtain ⟨vs, g, d⟩ := I.lo_
  exact ⟨s _ _ I.gp, I.rw_.same s, I.nd, I.np, ⟨vs, s _ _ g, Dp.ktAll (kt_same s) _ _ (lsDs_tp L) d⟩, I.nlp, I.nlq, I.ok⟩
/-- a loose end tied -/
theorem RowsH.put {K : PySem.W.Frag} {H : Hp} {qs : List Addr} {Z Z' : List Rh} {r sp : Nat} {q : Addr} {vs : List V} {z : Rh} {v : Int} (R : RowsH K H qs Z) (nd : qs.Nodup) (hq : qs[r]? = some q) (hz : Z[r]? = some z) (g : H q = some (.lst vs)) (hd : DpAll K H vs z.dl) (hs : z.spot sp)
    (hZ : ∀ i, Z'[i]? = if i = r then (Z[i]?).map fun z => z.fillS (fun s => decide (s = sp)) v else Z[i]?) : RowsH K (upd H q (.lst (vs.set sp (.int v)))) qs Z' := by
  have kt := kt_lst g (.lst (vs.set sp (.int v)))
  have len : Z'.length = Z.length := by
    have key : ∀ i, Z'.length ≤ i ↔ Z.length ≤ i := fun i => by
      rw [← List.getElem?_eq_none_iff, ← List.getElem?_eq_none_iff, hZ i]
      split
      · rw [Option.map_eq_none_iff]
      · exact Iff.rfl
    have h1 := key Z.length
    have h2 := key Z'.length
    omega
  refine ⟨by rw [R.len, len], fun i q' z' h1 h2 => ?_⟩
  by_cases e : i = r
  · subst e
    rw [hq] at h1
    cases h1
    rw [hZ, if_pos rfl, hz] at h2
    cases h2
    refine ⟨_, upd_same, ?_⟩
    rw [← Rh.dl_set hs]
    exact DpAll.set sp (Dp.ktAll kt _ _ z.dl_tp hd) (.int v)
  · rw [hZ, if_neg e] at h2
    obtain ⟨us, g', d'⟩ := R.row i q' z' h1 h2
    have ne : q' ≠ q := fun e' => by
      subst e'
      exact e (nodup_ixA nd h1 hq)
    exact ⟨us, by rw [upd_ne ne]; exact g', Dp.ktAll kt _ _ z'.dl_tp d'⟩
end My
set_option Elab.async false
set_option maxRecDepth 100000
set_option linter.all false
namespace My
open PySem L2
def LPost (K : PySem.W.Frag) (H : Hp) (p lo : Addr) (qs : List Addr) (ss : List Sm) (Z : List Rh) (L : List (Nat × Nat)) (Q : VK) : Prop :=
  ∀ (lo' : Addr) (qs' : List Addr) (Z' : List Rh) (L' : List (Nat × Nat)) (H' : Hp), XL p qs H H' → LayIn K H' p lo' (qs ++ qs') Z' L' → (∀ q ∈ qs', H q = none) → LayR ss Z L Z' L' → (lo' = lo ∨ H lo' = none) → Q (.ref lo') H'
def spLay (K : PySem.W.Frag) (n : Nat) : Sp := fun vs H Q _ => ∃ (v : V) (b : Bl) (p lo : Addr) (qs : List Addr) (Z : List Rh) (L : List (Nat × Nat)), vs = [v, .ref p, .ref lo] ∧ Dp K H v (.tuple b.dats) ∧ b.Ft ∧ b.nest < n ∧ LayIn K H p lo qs Z L ∧ Z.length + b.mr ≤ 1000 ∧ LPost K H p lo qs b.toL Z L Q
theorem XL.none {K : PySem.W.Frag} {H H' : Hp} {p lo : Addr} {qs qs' : List Addr} {Z : List Rh} {L : List (Nat × Nat)} (x : XL p qs H H') (I : LayIn K H' p lo (qs ++ qs') Z L) {b : Addr} (h : H' b = Option.none) : H b = Option.none := by
  cases e : H b with
  | none => rfl
  | some o =>
    by_cases c : b = p
    · subst c; rw [I.gp] at h; cases h
    · by_cases c2 : b ∈ qs
      · obtain ⟨y, hy⟩ := List.getElem?_of_mem (List.mem_append_left qs' c2)
        have ly := lt_of_get hy
        obtain ⟨vs, g, _⟩ := I.rw_.row y b _ hy (List.getElem?_eq_getElem (by rw [← I.rw_.len]; exact ly))
        rw [g] at h; cases h
      · rw [x b o e c c2] at h; cases h
theorem ixN_nat {n j : Nat} (h : j < n) : ixN n (j : Int) = some j := by
  unfold ixN
  rw [if_pos (by omega), if_pos (by omega)]
  simp
theorem Sm.openG {K : PySem.W.Frag} {H : Hp} {v : V} {s : Sm} (h : Dp K H v s.dat) (nt : ¬ ∃ k b, s = .times k b) : ∃ a tg tl, v = .ref a ∧ SqT K H a (.str tg :: tl) ∧ tg ≠ "times" ∧
    ((tg ≠ "if" ∧ ∃ (z : Rh) (sp : Nat), DpAll K H (.str tg :: tl ++ [.non]) z.dl ∧ (∀ n, s.ly n none = [z]) ∧ (∀ t, z.hole t ↔ t = sp) ∧ z.spot sp ∧ sp = (V.str tg :: tl).length ∧ tl.length ≤ 2) ∨ ∃ ve vb vc e b c, tg = "if" ∧ tl = [ve, vb, vc] ∧ s = .ite e b c ∧ IsE K H ve e ∧ Dp K H vb (.tuple b.dats) ∧ Dp K H vc (.tuple c.dats)) := by
  cases s with
  | times k b => exact absurd ⟨k, b, rfl⟩ nt
  | ite e b c =>
    simp only [Sm.dat] at h
    obtain ⟨a, vs, rfl, hs, hd⟩ := tupOpen h
    cases hd with | cons h1 r => cases h1; cases r with | cons h2 r => cases r with | cons h3 r => cases r with | cons h4 r => cases r; exact ⟨_, _, _, rfl, hs, by decide +kernel, .inr ⟨_, _, _, e, b, c, rfl, rfl, rfl, h2, h3, h4⟩⟩
  | draw x as =>
    simp only [Sm.dat] at h
    obtain ⟨a, vs, rfl, hs, hd⟩ := tupOpen h
    cases hd with | cons h1 r => cases h1; cases r with | cons h2 r => cases h2; cases r with | cons h3 r => cases r; exact ⟨_, _, _, rfl, hs, by decide +kernel, .inl ⟨by decide +kernel, .draw x as none, 3, .cons (.str _) (.cons (.str _) (.cons h3 (.cons .non .nil))), fun n => by simp [Sm.ly], fun t => by simp [Rh.hole], rfl, rfl, by simp⟩⟩
  | set x e =>
    simp only [Sm.dat] at h
    obtain ⟨a, vs, rfl, hs, hd⟩ := tupOpen h
    cases hd with | cons h1 r => cases h1; cases r with | cons h2 r => cases h2; cases r with | cons h3 r => cases r; exact ⟨_, _, _, rfl, hs, by decide +kernel, .inl ⟨by decide +kernel, .set x e none, 3, .cons (.str _) (.cons (.str _) (.cons h3 (.cons .non .nil))), fun n => by simp [Sm.ly], fun t => by simp [Rh.hole], rfl, rfl, by simp⟩⟩
  | see e =>
    simp only [Sm.dat] at h
    obtain ⟨a, vs, rfl, hs, hd⟩ := tupOpen h
    cases hd with | cons h1 r => cases h1; cases r with | cons h2 r => cases r; exact ⟨_, _, _, rfl, hs, by decide +kernel, .inl ⟨by decide +kernel, .see e none, 2, .cons (.str _) (.cons h2 (.cons .non .nil)), fun n => by simp [Sm.ly], fun t => by simp [Rh.hole], rfl, rfl, by simp⟩⟩
theorem RowsH.mono {K : PySem.W.Frag} {H H' : Hp} {qs : List Addr} {Z : List Rh} (R : RowsH K H qs Z) (k : KT H H') (h : ∀ q ∈ qs, ∀ o, H q = some o → H' q = some o) : RowsH K H' qs Z :=
  ⟨R.len, fun i q z h1 h2 => let ⟨vs, g, d⟩ := R.row i q z h1 h2; ⟨vs, h q (List.mem_of_getElem? h1) _ g, Dp.ktAll k _ _ z.dl_tp d⟩⟩
theorem RowsH.snoc {K : PySem.W.Frag} {H : Hp} {qs : List Addr} {Z : List Rh} {l : Addr} {vs : List V} {z : Rh} (R : RowsH K H qs Z) (g : H l = some (.lst vs)) (d : DpAll K H vs z.dl) : RowsH K H (qs ++ [l]) (Z ++ [z]) := by
  refine ⟨by rw [List.length_append, List.length_append, R.len]; rfl, fun i q y h1 h2 => ?_⟩
  by_cases c : i < qs.length
  · rw [List.getElem?_append_left c] at h1
    rw [List.getElem?_append_left (by rw [← R.len]; exact c)] at h2
    exact R.row i q y h1 h2
  · rw [List.getElem?_append_right (by omega)] at h1
    rw [List.getElem?_append_right (by rw [← R.len]; omega)] at h2
    have l1 := lt_of_get h1
    simp only [List.length_cons, List.length_nil] at l1
    have e0 : i - qs.length = 0 := by omega
    have e1 : i - Z.length = 0 := by rw [← R.len]; omega
    rw [e0] at h1
    rw [e1] at h2
    cases h1
    cases h2
    exact ⟨vs, g, d⟩
theorem RowsH.notin {K : PySem.W.Frag} {H : Hp} {qs : List Addr} {Z : List Rh} (R : RowsH K H qs Z) {l : Addr} (h : H l = none) : l ∉ qs := fun m => by
  obtain ⟨i, hi⟩ := List.getElem?_of_mem m
  have li := lt_of_get hi
  obtain ⟨vs, g, _⟩ := R.row i l _ hi (List.getElem?_eq_getElem (by rw [← R.len]; exact li))
  rw [g] at h; cases h
theorem LayIn.start {K : PySem.W.Frag} {H : Hp} {p lo T : Addr} {qs : List Addr} {Z : List Rh} {n sp : Nat} {z : Rh} (gp : H p = some (.lst (qs.map V.ref))) (R : RowsH K H qs Z) (nd : qs.Nodup) (np : p ∉ qs) (hT : SqT K H T [.int (n : Int), .int (sp : Int)]) (glo : H lo = some (.lst [.ref T])) (nlp : lo ≠ p) (nlq : lo ∉ qs) (hz : Z[n]? = some z) (hs : z.spot sp) : LayIn K H p lo qs Z [(n, sp)] :=
  ⟨gp, R, nd, np, ⟨_, glo, .cons (.tup hT (.cons (.int _) (.cons (.int _) .nil))) .nil⟩, nlp, nlq, fun t ht => by rw [List.mem_singleton.mp ht]; exact ⟨z, hz, hs⟩⟩
theorem LayR.spot {ss : List Sm} {Z Z' : List Rh} {L L' : List (Nat × Nat)} (R : LayR ss Z L Z' L') {i s : Nat} {z : Rh} (h : Z[i]? = some z) (hs : z.spot s) : ∃ z', Z'[i]? = some z' ∧ z'.spot s := by
  by_cases c : mrL ss = 0
  · rw [(R.none_ c).1]; exact ⟨z, h, hs⟩
  · have li := lt_of_get h
    rw [R.rows c, List.getElem?_append_left (by rw [fillAt_len]; exact li), fillAt_get, h]
    exact ⟨_, rfl, (Rh.spot_fill _ _).mpr hs⟩
theorem LayIn.tup {K : PySem.W.Frag} {H : Hp} {p lo : Addr} {qs : List Addr} {Z : List Rh} {L : List (Nat × Nat)} (I : LayIn K H p lo qs Z L) : qs.length = Z.length := I.rw_.len
section
variable {P : Program} {w : World} {K : PySem.W.Frag} {mg : Str → Option Value} {base : Heap}
set_option maxHeartbeats 16000000 in
theorem ok_lay {f : Addr} {fd : FuncData} (n : Nat) (F : Fun K "_law_lay" "_law_lay" s_L_lay f fd) (Z : Zb mg) (G_L_lay : FnIn P w K mg base (n + 1) "_law_lay" ps_L_lay (spLay K n)) : FnOk P w K mg base CX0 (n + 2) f fd ps_L_lay (spLay K (n + 1)) := by
  refine F.ok sc_L_lay (fun vs H Q E h => ?_) (fun cdv A outer s H vs Q E hr h => ?_)
  · obtain ⟨v, b, p, lo, qs, Z, L, rfl, _⟩ := h
    rfl
  · obtain ⟨v, b, p, lo, qs, Z0, L0, rfl, hb, hf, hn, I0, h1000, post⟩ := h
    refine ⟨_, (pss_cons (ps_for PassesOwn.never rfl (pi_tup (pv 0)) (pg_name (i := 3) sc_L_lay.nd rfl (by first | exact Or.inl rfl | exact Or.inr rfl)) (pss_one (ps_if (pt_cmpR op_eq (pe_ix ix_tup (pv 3) pe_int (fun _ _ => rfl)) pe_str (nomark _)) (pss_one (ps_for PassesOwn.never rfl (pi_range1 (by rfl) Z.range (pa_cons (pe_ix ix_tup (pv 3) pe_int (fun _ _ => rfl)) pa_nil)) (pg_name (i := 4) sc_L_lay.nd rfl (by first | exact Or.inl rfl | exact Or.inr rfl)) (pss_one (ps_set (i := 2) sc_L_lay.nd rfl (by first | exact Or.inl rfl | exact Or.inr rfl) (pe_fn G_L_lay hr rfl (pa_cons (pe_ix ix_tup (pv 3) pe_int (fun _ _ => rfl)) (pa_cons (pv 1) (pa_cons (pv 2) pa_nil)))))))) (pss_cons (ps_set (i := 5) sc_L_lay.nd rfl (by first | exact Or.inl rfl | exact Or.inr rfl) (pe_callB call_len_seq (by rfl) Z.len (by decide +kernel) (pa_cons (pv 1) pa_nil)))
      (pss_cons (ps_for PassesOwn.never rfl (pi_list (pv 2)) (pg_tup rfl (pgs_cons (pg_name (i := 6) sc_L_lay.nd rfl (by first | exact Or.inl rfl | exact Or.inr rfl)) (pgs_cons (pg_name (i := 7) sc_L_lay.nd rfl (by first | exact Or.inl rfl | exact Or.inr rfl)) pgs_nil))) (pss_one (ps_asg (pv 5) (pg_sub (pe_ix ix_list (pv 1) (pv 6) (fun _ _ => rfl)) (pv 7) set_list))))
      (pss_one (ps_if (pt_cmpR op_eq (pe_ix ix_tup (pv 3) pe_int (fun _ _ => rfl)) pe_str (nomark _)) (pss_cons (ps_expr (pe_bm PySem.F.plainAttrs_list PySem.F.slot_list_append PySem.F.type_list_append mt_append (pv 1) (pa_cons (pe_lst (pa_cons pe_str (pa_cons (pe_ix ix_tup (pv 3) pe_int (fun _ _ => rfl)) (pa_cons pe_non (pa_cons pe_non pa_nil))))) pa_nil)))
      (pss_cons (ps_set (i := 8) sc_L_lay.nd rfl (by first | exact Or.inl rfl | exact Or.inr rfl) (pe_fn G_L_lay hr rfl (pa_cons (pe_ix ix_tup (pv 3) pe_int (fun _ _ => rfl)) (pa_cons (pv 1) (pa_cons (pe_lst (pa_cons (pe_tup (pa_cons (pv 5) (pa_cons pe_int pa_nil))) pa_nil)) pa_nil)))))
      (pss_one (ps_set (i := 2) sc_L_lay.nd rfl (by first | exact Or.inl rfl | exact Or.inr rfl) (pe_op op_cat (pv 8) (pe_fn G_L_lay hr rfl (pa_cons (pe_ix ix_tup (pv 3) pe_int (fun _ _ => rfl)) (pa_cons (pv 1) (pa_cons (pe_lst (pa_cons (pe_tup (pa_cons (pv 5) (pa_cons pe_int pa_nil))) pa_nil)) pa_nil))))))))) (pss_cons (ps_expr (pe_bm PySem.F.plainAttrs_list PySem.F.slot_list_append PySem.F.type_list_append mt_append (pv 1) (pa_cons (pe_op op_cat (pe_callTy call_list_of (by rfl) Z.list (by decide +kernel) (pa_cons (pv 3) pa_nil)) (pe_lst (pa_cons pe_non pa_nil))) pa_nil)))
      (pss_one (ps_set (i := 2) sc_L_lay.nd rfl (by first | exact Or.inl rfl | exact Or.inr rfl) (pe_lst (pa_cons (pe_tup (pa_cons (pv 5) (pa_cons (pe_callB call_len_seq (by rfl) Z.len (by decide +kernel) (pa_cons (pv 3) pa_nil)) pa_nil))) pa_nil))))))))))))
      (pss_one (ps_ret (pv 2)))), ?_⟩
    obtain ⟨ba, bvs, rfl, hsq, hdp⟩ := tupOpen hb
    rw [Bl.dats_toL] at hdp
    have hlen := DpAll.len hdp
    rw [List.length_map] at hlen
    refine ⟨_, rfl, ba, rfl, ⟨_, hsq⟩, ?_⟩
    refine for_tup (K := K) (a := ba) (xs := bvs) (fun i σ Hi => ∃ v3 v4 v5 v6 v7 v8 lo1 qs1 Z1 L1, σ = [some (.ref ba), some (.ref p), some (.ref lo1), v3, v4, v5, v6, v7, v8] ∧ XL p qs H Hi ∧ LayIn K Hi p lo1 (qs ++ qs1) Z1 L1 ∧ (∀ q ∈ qs1, H q = none) ∧ LayR (b.toL.take i) Z0 L0 Z1 L1 ∧ (lo1 = lo ∨ H lo1 = none))
      ⟨_, _, _, _, _, _, lo, [], Z0, L0, rfl, XL.refl, by rw [List.append_nil]; exact I0, by simp, LayR.nil _ _, .inl rfl⟩ (fun i σ Hi _ ⟨_, _, _, _, _, _, _, _, _, _, _, x, _⟩ => sqt_kt hsq (I0.kt x)) ?_ ?_
    · rintro i u σ Hi hu' ⟨v3, v4, v5, v6, v7, v8, lo1, qs1, Z1, L1, rfl, xi, I1, nq1, R1, lo1o⟩
      obtain ⟨dd, hd, hvd⟩ := DpAll.get hdp hu'
      rw [List.getElem?_map] at hd
      obtain ⟨sm, hsm, rfl⟩ := Option.map_eq_some_iff.mp hd
      have mem := List.mem_of_getElem? hsm
      have sf := (Bl.ft_toL b).mp hf sm mem
      have nn := Bl.nest_toL b sm mem
      have ki := I0.kt xi
      have hvi := Dp.kt ki _ _ (Sm.tp sm) hvd
      have mt := mrL_take b.toL (i + 1)
      rw [take_snoc hsm, mrL_app, ← Bl.mr_toL] at mt
      have e1 : mrL [sm] = sm.mr := by simp [mrL]
      rw [e1] at mt
      have z1 := R1.len
      have ll1 := R1.lenL
      by_cases ht : ∃ k b1, sm = .times k b1
      · obtain ⟨m, b1, rfl⟩ := ht
        obtain ⟨a, xs, rfl, hs, vb, rfl, hb1⟩ := Sm.open hvi
        simp only [Sm.Ft] at sf
        simp only [Sm.nest] at nn
        simp only [Sm.mr] at mt
        refine ⟨_, rfl, a, _, _, .str "times", rfl, rfl, hs, at_ofA (j := 0) rfl rfl, rfl, _, rfl, iteST ?_⟩
        refine ⟨_, rfl, a, _, _, .int m, rfl, rfl, hs, at_ofA (j := 1) rfl rfl, _, rfl, by omega, by omega, ?_⟩
        have hkH : ∀ Hj, XL p (qs ++ qs1) Hi Hj → KT Hi Hj := fun Hj x => I1.kt x
        refine for_range (lo := 0) (n := m.toNat) (fun j σ Hj => ∃ v4 v5 v6 v7 v8 lo2 qs2 Z2 L2, σ = [some (.ref ba), some (.ref p), some (.ref lo2), some (.ref a), v4, v5, v6, v7, v8] ∧ XL p (qs ++ qs1) Hi Hj ∧ LayIn K Hj p lo2 (qs ++ qs1 ++ qs2) Z2 L2 ∧ (∀ q ∈ qs2, Hi q = none) ∧ LayR (List.replicate j b1.toL).flatten Z1 L1 Z2 L2 ∧ (lo2 = lo1 ∨ Hi lo2 = none))
          ⟨_, _, _, _, _, lo1, [], Z1, L1, rfl, XL.refl, by rw [List.append_nil]; exact I1, by simp, LayR.nil _ _, .inl rfl⟩ ?_ ?_
        · rintro j σ Hj hj ⟨v4, v5, v6, v7, v8, lo2, qs2, Z2, L2, rfl, xj, I2, nq2, R2, lo2o⟩
          have z2 := R2.len
          have ll2 := R2.lenL
          rw [mrL_rep, Bl.mrL_toL] at z2 ll2
          have hjm : (j + 1) * b1.mr ≤ m.toNat * b1.mr := Nat.mul_le_mul_right _ (by omega)
          rw [Nat.succ_mul] at hjm
          have kj := hkH Hj xj
          refine ⟨_, rfl, a, _, _, vb, rfl, rfl, sqt_kt hs kj, at_ofA (j := 2) rfl rfl, _, rfl, _, rfl, ?_⟩
          refine ⟨vb, b1, p, lo2, qs ++ qs1 ++ qs2, Z2, L2, rfl, Dp.kt kj _ _ (.tup b1.tp) hb1, sf.2, by omega, I2, by omega, ?_⟩
          intro lo3 qs3 Z3 L3 H3 x3 I3 nq3 R3 lo3o
          have nHi : ∀ b, Hj b = none → Hi b = none := fun b h => xj.none I2 h
          refine ⟨_, _, _, _, _, lo3, qs2 ++ qs3, Z3, L3, rfl, xj.trans x3 nq2, by rw [← List.append_assoc]; exact I3, fun q hq => (List.mem_append.mp hq).elim (nq2 q) fun h => nHi q (nq3 q h), ?_, ?_⟩
          · rw [List.replicate_succ', List.flatten_append, List.flatten_cons, List.flatten_nil, List.append_nil]
            exact R2.trans R3
          · rcases lo3o with e | e
            · rw [e]; exact lo2o
            · exact .inr (nHi _ e)
        · rintro σ Hj ⟨v4, v5, v6, v7, v8, lo2, qs2, Z2, L2, rfl, xj, I2, nq2, R2, lo2o⟩
          refine ⟨_, _, _, _, _, _, lo2, qs1 ++ qs2, Z2, L2, rfl, xi.trans xj nq1, by rw [← List.append_assoc]; exact I2, fun q hq => (List.mem_append.mp hq).elim (nq1 q) fun h => xi.none I1 (nq2 q h), ?_, ?_⟩
          · rw [take_snoc hsm]
            exact R1.trans R2.times
          · rcases lo2o with e | e
            · rw [e]; exact lo1o
            · exact .inr (xi.none I1 e)
      · obtain ⟨a, tg, tl, rfl, hs, ntm, hx⟩ := Sm.openG hvi ht
        refine ⟨_, rfl, a, _, _, .str tg, rfl, rfl, hs, at_ofA (j := 0) rfl rfl, rfl, _, rfl, iteSF ntm ?_⟩
        have gp1 := I1.gp
        have lq := I1.rw_.len
        refine ⟨_, rfl, p, _, rfl, .inl (SqL.of gp1), ?_⟩
        dsimp only [gName]
        obtain ⟨lvs, glo, dlo⟩ := I1.lo_
        have ell : ((((qs ++ qs1).map V.ref).length : Nat) : Int) = (Z1.length : Int) := by rw [List.length_map, lq]
        rw [ell]
        refine ⟨_, rfl, lo1, rfl, ⟨_, SqL.of glo⟩, ?_⟩
        have llv := DpAll.len dlo
        rw [List.length_map] at llv
        refine for_list (K := K) (a := lo1) (xs := lvs) (fun j σ Hj => ∃ v6 v7, σ = [some (.ref ba), some (.ref p), some (.ref lo1), some (.ref a), v4, some (.int (Z1.length : Int)), v6, v7, v8] ∧ XL p (qs ++ qs1) Hi Hj ∧ Hj p = some (.lst ((qs ++ qs1).map V.ref)) ∧ RowsH K Hj (qs ++ qs1) (fillAt (L1.take j) (Z1.length : Int) Z1) ∧ ∀ b, Hj b = none → Hi b = none)
          ⟨_, _, rfl, XL.refl, gp1, by rw [List.take_zero, fillAt_nil]; exact I1.rw_, fun _ h => h⟩ (fun j σ Hj _ ⟨_, _, _, x, _⟩ => SqL.of (x _ _ glo I1.nlp I1.nlq)) ?_ ?_
        · rintro j y σ Hj hy ⟨v6, v7, rfl, xj, gpj, Rj, nj⟩
          obtain ⟨dt, hdt, idt⟩ := DpAll.get dlo hy
          rw [List.getElem?_map] at hdt
          obtain ⟨t, hlt, rfl⟩ := Option.map_eq_some_iff.mp hdt
          have kj := I1.kt xj
          obtain ⟨T, ts, rfl, hT, hd2⟩ := tupOpen (Dp.kt kj _ _ (lsD_tp t) idt)
          have ets : ts = [.int (t.1 : Int), .int (t.2 : Int)] := by
            cases hd2 with | cons h1 r => cases h1; cases r with | cons h2 r => cases h2; cases r; rfl
          subst ets
          obtain ⟨z, hz, hsp⟩ := I1.ok t (List.mem_of_getElem? hlt)
          have hzj : (fillAt (L1.take j) (Z1.length : Int) Z1)[t.1]? = some (z.fillS (fun s => decide ((t.1, s) ∈ L1.take j)) (Z1.length : Int)) := by rw [fillAt_get, hz]; rfl
          have lt1 := lt_of_get hz
          have hq : (qs ++ qs1)[t.1]? = some ((qs ++ qs1)[t.1]'(by omega)) := List.getElem?_eq_getElem (by omega)
          generalize (qs ++ qs1)[t.1]'(by omega) = q at hq
          obtain ⟨vs, gq, dq⟩ := Rj.row t.1 q _ hq hzj
          have hqm := List.mem_of_getElem? hq
          have lvs := DpAll.len dq
          have spl := Rh.spot_lt ((Rh.spot_fill (z := z) (fun s => decide ((t.1, s) ∈ L1.take j)) (Z1.length : Int)).mpr hsp)
          refine ⟨T, _, rfl, hT, rfl, _, _, rfl, _, _, rfl, rfl, ?_⟩
          refine ⟨_, rfl, _, rfl, _, rfl, p, _, _, .ref q, rfl, rfl, SqL.of gpj, at_ofA (j := t.1) rfl (by rw [List.getElem?_map, hq]; rfl), _, rfl, ?_⟩
          refine ⟨q, vs, _, t.2, rfl, rfl, gq, ixN_nat (by rw [lvs]; exact spl), ?_⟩
          have npq : p ≠ q := fun e => I1.np (by rw [e]; exact hqm)
          refine ⟨_, _, rfl, fun c o h h1 h2 => ?_, by rw [upd_ne npq]; exact gpj, ?_, fun b h => nj b ?_⟩
          · have ncq : c ≠ q := fun e => h2 (by rw [e]; exact hqm)
            rw [upd_ne ncq]
            exact xj c o h h1 h2
          · refine Rj.put I1.nd hq hzj gq dq ((Rh.spot_fill _ _).mpr hsp) fun i => ?_
            rw [take_snoc hlt]
            exact fillAt_step _ t _ _ i
          · by_cases e : b = q
            · subst e; rw [upd_same] at h; cases h
            · rw [upd_ne e] at h; exact h
        · rintro σ Hj ⟨v6, v7, rfl, xj, gpj, Rj, nj⟩
          rw [llv, List.take_length] at Rj
          have kj := I1.kt xj
          have hsj := sqt_kt hs kj
          have hZl : (fillAt L1 (Z1.length : Int) Z1).length = Z1.length := fillAt_len _ _ _
          rcases hx with ⟨nif, z, sp, dz, hly, hho, hspt, esp, ltl⟩ | ⟨ve, vb, vc, e, b1, c1, rfl, rfl, rfl, hve, hb1, hc1⟩
          · have dzj := Dp.ktAll kj _ _ z.dl_tp dz
            refine ⟨_, rfl, a, _, _, .str tg, rfl, rfl, hsj, at_ofA (j := 0) rfl rfl, rfl, _, rfl, iteSF nif ?_⟩
            refine ⟨_, rfl, .inl ⟨rfl, _, SqL.of gpj⟩, _, rfl, a, _, rfl, .inr hsj, fun l1 hl1 => ?_⟩
            have s1 := same_new hl1 (.lst (.str tg :: tl))
            have g1 : upd Hj l1 (.lst (.str tg :: tl)) l1 = some (.lst (.str tg :: tl)) := upd_same
            generalize upd Hj l1 (.lst (.str tg :: tl)) = H1 at s1 g1 ⊢
            refine ⟨(by show 1 ≤ sizeLine; decide), fun l2 hl2 => ?_⟩
            have s2 := same_new hl2 (.lst [.non])
            have g2 : upd H1 l2 (.lst [.non]) l2 = some (.lst [.non]) := upd_same
            generalize upd H1 l2 (.lst [.non]) = H2 at s2 g2 ⊢
            refine ⟨l1, l2, _, _, rfl, rfl, s2 _ _ g1, g2, szl (m := 100) (by simp only [List.length_cons, List.length_nil]; omega), fun l3 hl3 => ?_⟩
            have s3 := same_new hl3 (.lst (.str tg :: tl ++ [.non]))
            have g3 : upd H2 l3 (.lst (.str tg :: tl ++ [.non])) l3 = some (.lst (.str tg :: tl ++ [.non])) := upd_same
            have s03 := (s1.trans s2).trans s3
            have hl3j : Hj l3 = none := (s1.trans s2).free hl3
            have nl3p : l3 ≠ p := fun e => by rw [e, gpj] at hl3j; cases hl3j
            have nl3q := Rj.notin hl3j
            generalize upd H2 l3 (.lst (.str tg :: tl ++ [.non])) = H3 at s3 g3 s03 ⊢
            have gp3 := s03 _ _ gpj
            refine ⟨p, _, _, rfl, rfl, gp3, sz (m := 2000) (by rw [List.length_map, lq]; omega), ?_⟩
            have kp := kt_lst gp3 (.lst ((qs ++ qs1).map V.ref ++ [.ref l3]))
            have gp4 : upd H3 p (.lst ((qs ++ qs1).map V.ref ++ [.ref l3])) p = some (.lst ((qs ++ (qs1 ++ [l3])).map V.ref)) := by rw [upd_same, ← List.append_assoc, List.map_append (l₂ := [l3])]; rfl
            have st4 : ∀ b o, Hj b = some o → b ≠ p → upd H3 p (.lst ((qs ++ qs1).map V.ref ++ [.ref l3])) b = some o := fun b o e n => by rw [upd_ne n]; exact s03 _ _ e
            have n4 : ∀ b, upd H3 p (.lst ((qs ++ qs1).map V.ref ++ [.ref l3])) b = none → Hj b = none := fun b h => by
              by_cases e : b = p
              · subst e; rw [upd_same] at h; cases h
              · rw [upd_ne e] at h; exact s03.free h
            have g34 : upd H3 p (.lst ((qs ++ qs1).map V.ref ++ [.ref l3])) l3 = some (.lst (.str tg :: tl ++ [.non])) := by rw [upd_ne nl3p]; exact g3
            have k4 : KT Hj (upd H3 p (.lst ((qs ++ qs1).map V.ref ++ [.ref l3]))) := (kt_same s03).trans kp
            generalize upd H3 p (.lst ((qs ++ qs1).map V.ref ++ [.ref l3])) = H4 at gp4 st4 n4 g34 k4 ⊢
            refine ⟨_, rfl, _, rfl, a, _, rfl, .inr (sqt_kt hsj k4), (by show 2 ≤ sizeLine; decide), fun T hT => ⟨(by show 1 ≤ sizeLine; decide), fun lo2 hlo2 => ?_⟩⟩
            have s5 := same_new hT (.tup [.int (Z1.length : Int), .int ((V.str tg :: tl).length : Int)])
            have g5 : upd H4 T (.tup [.int (Z1.length : Int), .int ((V.str tg :: tl).length : Int)]) T = some (.tup [.int (Z1.length : Int), .int ((V.str tg :: tl).length : Int)]) := upd_same
            generalize upd H4 T (.tup [.int (Z1.length : Int), .int ((V.str tg :: tl).length : Int)]) = H5 at s5 g5 hlo2 ⊢
            have s6 := same_new hlo2 (.lst [.ref T])
            have g6 : upd H5 lo2 (.lst [.ref T]) lo2 = some (.lst [.ref T]) := upd_same
            have hlo4 : H4 lo2 = none := s5.free hlo2
            generalize upd H5 lo2 (.lst [.ref T]) = H6 at s6 g6 ⊢
            have s46 := s5.trans s6
            have R4 : RowsH K H4 (qs ++ qs1) (fillAt L1 (Z1.length : Int) Z1) := Rj.mono k4 fun q hq o e => st4 q o e fun e' => I1.np (by rw [← e']; exact hq)
            have R5 : RowsH K H4 (qs ++ (qs1 ++ [l3])) (fillAt L1 (Z1.length : Int) Z1 ++ [z]) := by
              rw [← List.append_assoc]
              exact R4.snoc g34 (Dp.ktAll k4 _ _ z.dl_tp dzj)
            have hloj := n4 _ hlo4
            dsimp only [gName]
            refine ⟨_, _, _, _, _, _, lo2, qs1 ++ [l3], fillAt L1 (Z1.length : Int) Z1 ++ [z], [(Z1.length, sp)], rfl, ?_, ⟨s46 _ _ gp4, R5.same s46, ?_, ?_, ⟨_, g6, ?_⟩, ?_, R5.notin hlo4, ?_⟩, ?_, ?_, ?_⟩
            · exact (xi.trans xj nq1 : XL p qs H Hj).trans (qs' := []) (fun b o e h1 _ => s46 _ _ (st4 b o e h1)) (by simp)
            · rw [← List.append_assoc, List.nodup_append]
              exact ⟨I1.nd, by simp, fun x hx y hy => by rw [List.mem_singleton.mp hy]; exact fun e => nl3q (by rw [← e]; exact hx)⟩
            · rw [← List.append_assoc, List.mem_append, List.mem_singleton]
              rintro (m | m)
              · exact I1.np m
              · exact nl3p m.symm
            · rw [← esp] at g5
              exact .cons (.tup (SqT.of (s6 _ _ g5)) (.cons (.int _) (.cons (.int _) .nil))) .nil
            · exact fun e => by rw [e, gp4] at hlo4; cases hlo4
            · intro t ht
              rw [List.mem_singleton] at ht
              subst ht
              refine ⟨z, ?_, hspt⟩
              rw [List.getElem?_append_right (by rw [hZl]; exact Nat.le_refl _), hZl, Nat.sub_self]
              rfl
            · intro q hq
              rcases List.mem_append.mp hq with hq | hq
              · exact nq1 q hq
              · rw [List.mem_singleton.mp hq]; exact xi.none I1 (nj _ hl3j)
            · rw [take_snoc hsm]
              exact R1.trans (LayR.row Z1 L1 hly hho)
            · exact .inr (xi.none I1 (nj _ hloj))
          · simp only [Sm.Ft] at sf
            simp only [Sm.nest] at nn
            simp only [Sm.mr] at mt
            refine ⟨_, rfl, a, _, _, .str "if", rfl, rfl, hsj, at_ofA (j := 0) rfl rfl, rfl, _, rfl, iteST ?_⟩
            refine ⟨_, rfl, .inl ⟨rfl, _, SqL.of gpj⟩, _, rfl, a, _, _, ve, rfl, rfl, hsj, at_ofA (j := 1) rfl rfl, (by show 4 ≤ sizeLine; decide), fun l3 hl3 => ?_⟩
            have s03 := same_new hl3 (.lst [.str "branch", ve, .non, .non])
            have g3 : upd Hj l3 (.lst [.str "branch", ve, .non, .non]) l3 = some (.lst [.str "branch", ve, .non, .non]) := upd_same
            have nl3p : l3 ≠ p := fun e => by rw [e, gpj] at hl3; cases hl3
            have nl3q := Rj.notin hl3
            generalize upd Hj l3 (.lst [.str "branch", ve, .non, .non]) = H3 at s03 g3 ⊢
            have gp3 := s03 _ _ gpj
            refine ⟨p, _, _, rfl, rfl, gp3, sz (m := 2000) (by rw [List.length_map, lq]; omega), ?_⟩
            have kp := kt_lst gp3 (.lst ((qs ++ qs1).map V.ref ++ [.ref l3]))
            have gp4 : upd H3 p (.lst ((qs ++ qs1).map V.ref ++ [.ref l3])) p = some (.lst ((qs ++ (qs1 ++ [l3])).map V.ref)) := by rw [upd_same, ← List.append_assoc, List.map_append (l₂ := [l3])]; rfl
            have st4 : ∀ b o, Hj b = some o → b ≠ p → upd H3 p (.lst ((qs ++ qs1).map V.ref ++ [.ref l3])) b = some o := fun b o e n => by rw [upd_ne n]; exact s03 _ _ e
            have n4 : ∀ b, upd H3 p (.lst ((qs ++ qs1).map V.ref ++ [.ref l3])) b = none → Hj b = none := fun b h => by
              by_cases e : b = p
              · subst e; rw [upd_same] at h; cases h
              · rw [upd_ne e] at h; exact s03.free h
            have g34 : upd H3 p (.lst ((qs ++ qs1).map V.ref ++ [.ref l3])) l3 = some (.lst [.str "branch", ve, .non, .non]) := by rw [upd_ne nl3p]; exact g3
            have k4 : KT Hj (upd H3 p (.lst ((qs ++ qs1).map V.ref ++ [.ref l3]))) := (kt_same s03).trans kp
            generalize upd H3 p (.lst ((qs ++ qs1).map V.ref ++ [.ref l3])) = H4 at gp4 st4 n4 g34 k4 ⊢
            have ki4 := kj.trans k4
            have hs4 := sqt_kt hs ki4
            have kh4 := ki.trans ki4
            have R4 : RowsH K H4 (qs ++ qs1) (fillAt L1 (Z1.length : Int) Z1) := Rj.mono k4 fun q hq o e => st4 q o e fun e' => I1.np (by rw [← e']; exact hq)
            have R5 : RowsH K H4 (qs ++ (qs1 ++ [l3])) (fillAt L1 (Z1.length : Int) Z1 ++ [.branch e none none]) := by
              rw [← List.append_assoc]
              exact R4.snoc g34 (.cons (.str _) (.cons (hve.kt ki4) (.cons .non (.cons .non .nil))))
            have nd5 : (qs ++ (qs1 ++ [l3])).Nodup := by
              rw [← List.append_assoc, List.nodup_append]
              exact ⟨I1.nd, by simp, fun x hx y hy => by rw [List.mem_singleton.mp hy]; exact fun e => nl3q (by rw [← e]; exact hx)⟩
            have np5 : p ∉ qs ++ (qs1 ++ [l3]) := by
              rw [← List.append_assoc, List.mem_append, List.mem_singleton]
              rintro (m | m)
              · exact I1.np m
              · exact nl3p m.symm
            have nq5 : ∀ q ∈ qs1 ++ [l3], H q = none := fun q hq => by
              rcases List.mem_append.mp hq with hq | hq
              · exact nq1 q hq
              · rw [List.mem_singleton.mp hq]; exact xi.none I1 (nj _ hl3)
            have hzn : (fillAt L1 (Z1.length : Int) Z1 ++ [Rh.branch e none none])[Z1.length]? = some (.branch e none none) := by
              rw [List.getElem?_append_right (by rw [hZl]; exact Nat.le_refl _), hZl, Nat.sub_self]
              rfl
            have hZ5 : (fillAt L1 (Z1.length : Int) Z1 ++ [Rh.branch e none none]).length = Z1.length + 1 := by rw [List.length_append, hZl]; rfl
            have X4 : XL p qs H H4 := (xi.trans xj nq1 : XL p qs H Hj).trans (qs' := []) (fun b o e h1 _ => st4 b o e h1) (by simp)
            refine ⟨_, rfl, a, _, _, vb, rfl, rfl, hs4, at_ofA (j := 2) rfl rfl, _, rfl, _, rfl, (by show 2 ≤ sizeLine; decide), fun T hT => ⟨(by show 1 ≤ sizeLine; decide), fun lo2 hlo2 => ?_⟩⟩
            have s5 := same_new hT (.tup [.int (Z1.length : Int), .int 2])
            have g5 : upd H4 T (.tup [.int (Z1.length : Int), .int 2]) T = some (.tup [.int (Z1.length : Int), .int 2]) := upd_same
            generalize upd H4 T (.tup [.int (Z1.length : Int), .int 2]) = H5 at s5 g5 hlo2 ⊢
            have s6 := same_new hlo2 (.lst [.ref T])
            have g6 : upd H5 lo2 (.lst [.ref T]) lo2 = some (.lst [.ref T]) := upd_same
            have hlo4 : H4 lo2 = none := s5.free hlo2
            generalize upd H5 lo2 (.lst [.ref T]) = H6 at s6 g6 ⊢
            have s46 := s5.trans s6
            have I6 : LayIn K H6 p lo2 (qs ++ (qs1 ++ [l3])) (fillAt L1 (Z1.length : Int) Z1 ++ [.branch e none none]) [(Z1.length, 2)] := LayIn.start (s46 _ _ gp4) (R5.same s46) nd5 np5 (SqT.of (s6 _ _ g5)) g6 (fun e => by rw [e, gp4] at hlo4; cases hlo4) (R5.notin hlo4) hzn (.inl rfl)
            have X6 : XL p qs H H6 := X4.trans (qs' := []) (xl_same s46) (by simp)
            have ki6 := ki4.trans (kt_same s46)
            have hs6 := sqt_kt hs ki6
            refine ⟨vb, b1, p, lo2, qs ++ (qs1 ++ [l3]), _, _, rfl, Dp.kt ki6 _ _ (.tup b1.tp) hb1, sf.2.1, by omega, I6, by rw [hZ5]; omega, ?_⟩
            intro lo3 qs3 Z3 L3 H7 x7 I7 nq7 R7 lo3o
            have k67 := I6.kt x7
            have X7 : XL p qs H H7 := X6.trans x7 nq5
            have ki7 := ki6.trans k67
            have hs7 := sqt_kt hs ki7
            have l7 := R7.len
            have lL7 := R7.lenL
            rw [hZ5, Bl.mrL_toL] at l7
            rw [Bl.mrL_toL] at lL7
            obtain ⟨z3, hz3, hsp3⟩ := R7.spot hzn (s := 3) (.inr rfl)
            dsimp only [gName]
            refine ⟨_, rfl, _, rfl, a, _, _, vc, rfl, rfl, hs7, at_ofA (j := 3) rfl rfl, _, rfl, _, rfl, (by show 2 ≤ sizeLine; decide), fun T2 hT2 => ⟨(by show 1 ≤ sizeLine; decide), fun lo4 hlo4' => ?_⟩⟩
            have s8 := same_new hT2 (.tup [.int (Z1.length : Int), .int 3])
            have g8 : upd H7 T2 (.tup [.int (Z1.length : Int), .int 3]) T2 = some (.tup [.int (Z1.length : Int), .int 3]) := upd_same
            generalize upd H7 T2 (.tup [.int (Z1.length : Int), .int 3]) = H8 at s8 g8 hlo4' ⊢
            have s9 := same_new hlo4' (.lst [.ref T2])
            have g9 : upd H8 lo4 (.lst [.ref T2]) lo4 = some (.lst [.ref T2]) := upd_same
            have hlo7 : H7 lo4 = none := s8.free hlo4'
            generalize upd H8 lo4 (.lst [.ref T2]) = H9 at s9 g9 ⊢
            have s79 := s8.trans s9
            have I9 : LayIn K H9 p lo4 (qs ++ (qs1 ++ [l3]) ++ qs3) Z3 [(Z1.length, 3)] := LayIn.start (s79 _ _ I7.gp) (I7.rw_.same s79) I7.nd I7.np (SqT.of (s9 _ _ g8)) g9 (fun e => by rw [e, I7.gp] at hlo7; cases hlo7) (I7.rw_.notin hlo7) hz3 hsp3
            have nq79 : ∀ q ∈ qs1 ++ [l3] ++ qs3, H q = none := fun q hq => (List.mem_append.mp hq).elim (nq5 q) fun h => X6.none I6 (nq7 q h)
            have X9 : XL p qs H H9 := X7.trans (qs' := []) (xl_same s79) (by simp)
            have ki9 := ki7.trans (kt_same s79)
            refine ⟨vc, c1, p, lo4, qs ++ (qs1 ++ [l3]) ++ qs3, Z3, _, rfl, Dp.kt ki9 _ _ (.tup c1.tp) hc1, sf.2.2, by omega, I9, by omega, ?_⟩
            intro lo5 qs5 Z5 L5 H10 x10 I10 nq10 R10 lo5o
            have lL10 := R10.lenL
            rw [Bl.mrL_toL] at lL10
            obtain ⟨us3, gl3, dl3⟩ := I7.lo_
            obtain ⟨us5, gl5, dl5⟩ := I10.lo_
            have lu3 := DpAll.len dl3
            have lu5 := DpAll.len dl5
            rw [List.length_map] at lu3 lu5
            have k910 := I9.kt x10
            have gl3' := x10 _ _ (s79 _ _ gl3) I7.nlp I7.nlq
            simp only [List.length_cons, List.length_nil] at lL7 lL10
            refine ⟨lo3, lo5, _, _, rfl, rfl, gl3', gl5, szl (m := 9000) (by omega), fun lo6 hlo6 => ?_⟩
            have s11 := same_new hlo6 (.lst (us3 ++ us5))
            have g11' : upd H10 lo6 (.lst (us3 ++ us5)) lo6 = some (.lst (us3 ++ us5)) := upd_same
            have X10 : XL p qs H H10 := by
              have x10' : XL p (qs ++ (qs1 ++ [l3] ++ qs3)) H9 H10 := by rw [← List.append_assoc]; exact x10
              exact X9.trans x10' nq79
            have I9' : LayIn K H9 p lo4 (qs ++ (qs1 ++ [l3] ++ qs3)) Z3 [(Z1.length, 3)] := by rw [← List.append_assoc]; exact I9
            have I10' : LayIn K H10 p lo5 (qs ++ (qs1 ++ [l3] ++ qs3 ++ qs5)) Z5 L5 := by
              rw [show qs ++ (qs1 ++ [l3] ++ qs3 ++ qs5) = qs ++ (qs1 ++ [l3]) ++ qs3 ++ qs5 by simp only [List.append_assoc]]
              exact I10
            have nlo6 := X10.none I10' hlo6
            generalize upd H10 lo6 (.lst (us3 ++ us5)) = H11 at s11 g11' ⊢
            dsimp only [gName]
            refine ⟨_, _, _, _, _, _, lo6, qs1 ++ [l3] ++ qs3 ++ qs5, Z5, L3 ++ L5, rfl, X10.trans (qs' := []) (xl_same s11) (by simp), ⟨s11 _ _ I10'.gp, I10'.rw_.same s11, I10'.nd, I10'.np, ⟨_, g11', ?_⟩, ?_, I10'.rw_.notin hlo6, ?_⟩, ?_, ?_, .inr nlo6⟩
            · rw [List.map_append]
              exact DpAll.app (Dp.ktAll (((kt_same s79).trans k910).trans (kt_same s11)) _ _ (lsDs_tp _) dl3) (Dp.ktAll (kt_same s11) _ _ (lsDs_tp _) dl5)
            · exact fun e => by rw [e, I10'.gp] at hlo6; cases hlo6
            · intro t ht
              rcases List.mem_append.mp ht with ht | ht
              · obtain ⟨y, hy, hys⟩ := I7.ok t ht
                exact R10.spot hy hys
              · exact I10'.ok t ht
            · intro q hq
              rcases List.mem_append.mp hq with hq | hq
              · exact nq79 q hq
              · exact X9.none I9' (nq10 q hq)
            · rw [take_snoc hsm]
              exact R1.trans (LayR.ite R7 R10)
    · rintro σ Hi ⟨v3, v4, v5, v6, v7, v8, lo1, qs1, Z1, L1, rfl, xi, I1, nq1, R1, lo1o⟩
      rw [hlen, List.take_length] at R1
      exact ⟨_, rfl, post lo1 qs1 Z1 L1 Hi xi I1 nq1 R1 lo1o⟩
end
end My
set_option Elab.async false
set_option maxRecDepth 100000
set_option linter.all false
namespace My
open PySem L2
theorem Rh.full_dat {z : Rh} (h : ∀ s, ¬ z.hole s) : PyData.tuple z.dl = z.rw.dat := by
  cases z with
  | draw x as f =>
    cases f with
    | none => exact absurd ⟨rfl, rfl⟩ (h 3)
    | some i => rfl
  | set x e f =>
    cases f with
    | none => exact absurd ⟨rfl, rfl⟩ (h 3)
    | some i => rfl
  | see e f =>
    cases f with
    | none => exact absurd ⟨rfl, rfl⟩ (h 2)
    | some i => rfl
  | branch e a b =>
    cases a with
    | none => exact absurd (.inl ⟨rfl, rfl⟩) (h 2)
    | some i =>
      cases b with
      | none => exact absurd (.inr ⟨rfl, rfl⟩) (h 3)
      | some j => rfl
theorem LayR.done {b : Bl} {Z' : List Rh} {L' : List (Nat × Nat)} (R : LayR b.toL [] [] Z' L') : fillAt L' (Z'.length : Int) Z' = b.ly 0 (some (b.mr : Int)) := by
  have l := R.len
  rw [Bl.mrL_toL] at l
  simp only [List.length_nil, Nat.zero_add] at l
  by_cases c : b.mr = 0
  · obtain ⟨rfl, rfl⟩ := R.none_ (by rw [Bl.mrL_toL]; exact c)
    rw [Bl.ly_nil c, fillAt_nil]
  · have c' : mrL b.toL ≠ 0 := by rw [Bl.mrL_toL]; exact c
    have e := R.rows c'
    rw [fillAt_nil, List.nil_append, lyU_toL] at e
    have q := fillAt_app L' (Z'.length : Int) [] (b.ly 0 none) (by
      have := R.ends c'
      rw [lyU_toL] at this
      exact this)
    rw [List.nil_append, List.nil_append, Bl.ly_fill, l] at q
    rw [l]
    conv => lhs; rw [e]
    exact q
section
variable {P : Program} {w : World} {K : PySem.W.Frag} {mg : Str → Option Value} {base : Heap}
theorem rec_lay {f : Addr} {fd : FuncData} (F : Fun K "_law_lay" "_law_lay" s_L_lay f fd) (hm : mg "_law_lay" = some (.ref f)) (hb : Binds K fd ps_L_lay []) (Z : Zb mg) :
    ∀ n : Nat, FnIn P w K mg base (n + 1) "_law_lay" ps_L_lay (spLay K n)
  | 0 => by
    have no : ∀ vs H Q E, ¬ spLay K 0 vs H Q E := fun vs H Q E h => by
      obtain ⟨_, _, _, _, _, _, _, _, _, _, h1, _⟩ := h
      omega
    exact ⟨f, fd, ⟨fun vs H Q E h => absurd h (no vs H Q E), fun A outer s H args us vs Q E _ _ _ _ h => absurd h (no vs H Q E)⟩, hm, F.kp, hb⟩
  | n + 1 => ⟨f, fd, ok_lay n F Z (rec_lay F hm hb Z n), hm, F.kp, hb⟩
set_option maxHeartbeats 16000000 in
theorem ok_lflow {f : Addr} {fd : FuncData} (F : Fun K "_law_flow" "_law_flow" s_L_flow f fd) (Z : Zb mg) (G_L_lay : FnIn P w K mg base 5 "_law_lay" ps_L_lay (spLay K 4)) : FnOk P w K mg base CX0 6 f fd ps_L_flow (spFlow K) := by
  refine F.ok sc_L_flow (fun vs H Q E h => ?_) (fun cdv A outer s H vs Q E hr h => ?_)
  · obtain ⟨vb, va, k, e, rfl, _⟩ := h
    rfl
  · obtain ⟨vb, va, bk, e, rfl, hb, he, hft, hn, hm, k⟩ := h
    refine ⟨_, (pss_cons (ps_set (i := 2) sc_L_flow.nd rfl (by first | exact Or.inl rfl | exact Or.inr rfl) (pe_lst pa_nil))
      (pss_cons (ps_for PassesOwn.never rfl (pi_list (pe_fn G_L_lay hr rfl (pa_cons (pe_ix ix_tup (pv 0) pe_int (fun _ _ => rfl)) (pa_cons (pv 2) (pa_cons (pe_lst pa_nil) pa_nil))))) (pg_tup rfl (pgs_cons (pg_name (i := 3) sc_L_flow.nd rfl (by first | exact Or.inl rfl | exact Or.inr rfl)) (pgs_cons (pg_name (i := 4) sc_L_flow.nd rfl (by first | exact Or.inl rfl | exact Or.inr rfl)) pgs_nil))) (pss_one (ps_asg (pe_callB call_len_seq (by rfl) Z.len (by decide +kernel) (pa_cons (pv 2) pa_nil)) (pg_sub (pe_ix ix_list (pv 2) (pv 3) (fun _ _ => rfl)) (pv 4) set_list))))
      (pss_one (ps_ret (pe_callTy call_tuple_of (by rfl) Z.tuple (by decide +kernel) (pa_cons (pe_op op_cat (pe_lc (own := [("_law_row_here", 5)]) (g := gName 5) (by rfl) sc_L_flow.nd (pi_list (pv 2)) (blkOk_by (own := [("_law_row_here", 5)]) (N := nm_L_flow) (sc := defScope s_L_flow) (by decide +kernel)) (fun _ _ _ _ _ => (pg_name (i := 5) sc_L_flow.nd rfl (by first | exact Or.inl rfl | exact Or.inr rfl))) (fun _ _ _ _ _ => pts_nil) (fun _ _ _ _ _ => (pe_callTy (call_tuple_ofK (K := K) rfl) (by rfl) Z.tuple (by decide +kernel) (pa_cons (pv 5) pa_nil)))) (pe_lst (pa_cons (pe_tup (pa_cons pe_str (pa_cons (pv 1) pa_nil))) pa_nil))) pa_nil)))))), ?_⟩
    obtain ⟨a, v0, v1, v2, rfl, hs, hd⟩ := Bk.openB hb
    refine ⟨(by show 0 ≤ sizeLine; decide), fun p hp => ?_⟩
    have s0 := same_new hp (.lst [])
    have gp : upd H p (.lst []) p = some (.lst (([] : List Addr).map V.ref)) := upd_same
    dsimp only [gName]
    generalize upd H p (.lst []) = H1 at s0 gp ⊢
    refine ⟨_, rfl, a, _, _, v2, rfl, rfl, sqt_kt hs (kt_same s0), at_ofA (j := 2) rfl rfl, _, rfl, (by show 0 ≤ sizeLine; decide), fun lo hlo => ?_⟩
    have s1 := same_new hlo (.lst [])
    have g1 : upd H1 lo (.lst []) lo = some (.lst []) := upd_same
    have nlp : lo ≠ p := fun e => by rw [e, gp] at hlo; cases hlo
    generalize upd H1 lo (.lst []) = H2 at s1 g1 ⊢
    have s02 := s0.trans s1
    have I0 : LayIn K H2 p lo [] [] [] := ⟨s1 _ _ gp, ⟨rfl, fun i q z h => by simp at h⟩, by simp, by simp, ⟨[], g1, .nil⟩, nlp, by simp, by simp⟩
    refine ⟨v2, bk.b, p, lo, [], [], [], rfl, Dp.kt (kt_same s02) _ _ (.tup bk.b.tp) hd, hft, by omega, I0, by simp only [List.length_nil]; omega, ?_⟩
    intro lo' qs Z' L' H3 x3 I3 nq3 R3 lo3o
    rw [List.nil_append] at I3
    have done := R3.done
    have l3 := R3.len
    rw [Bl.mrL_toL] at l3
    simp only [List.length_nil, Nat.zero_add] at l3
    obtain ⟨lvs, glo, dlo⟩ := I3.lo_
    have lq := I3.rw_.len
    have llv := DpAll.len dlo
    rw [List.length_map] at llv
    have sH3 : Same H H3 := fun b o h => x3 _ _ (s02 _ _ h) (ne_of_none h hp) (by simp)
    refine ⟨lo', rfl, ⟨_, SqL.of glo⟩, ?_⟩
    refine for_list (K := K) (a := lo') (xs := lvs) (fun j σ Hj => ∃ v3 v4 v5, σ = [some (.ref a), some va, some (.ref p), v3, v4, v5] ∧ XL p qs H3 Hj ∧ Hj p = some (.lst (qs.map V.ref)) ∧ RowsH K Hj qs (fillAt (L'.take j) (Z'.length : Int) Z'))
      ⟨_, _, _, rfl, XL.refl, I3.gp, by rw [List.take_zero, fillAt_nil]; exact I3.rw_⟩ (fun j σ Hj _ ⟨_, _, _, _, x, _⟩ => SqL.of (x _ _ glo I3.nlp I3.nlq)) ?_ ?_
    · rintro j y σ Hj hy ⟨v3, v4, v5, rfl, xj, gpj, Rj⟩
      obtain ⟨dt, hdt, idt⟩ := DpAll.get dlo hy
      rw [List.getElem?_map] at hdt
      obtain ⟨t, hlt, rfl⟩ := Option.map_eq_some_iff.mp hdt
      have kj := I3.kt xj
      obtain ⟨T, ts, rfl, hT, hd2⟩ := tupOpen (Dp.kt kj _ _ (lsD_tp t) idt)
      have ets : ts = [.int (t.1 : Int), .int (t.2 : Int)] := by
        cases hd2 with | cons h1 r => cases h1; cases r with | cons h2 r => cases h2; cases r; rfl
      subst ets
      obtain ⟨z, hz, hsp⟩ := I3.ok t (List.mem_of_getElem? hlt)
      have hzj : (fillAt (L'.take j) (Z'.length : Int) Z')[t.1]? = some (z.fillS (fun s => decide ((t.1, s) ∈ L'.take j)) (Z'.length : Int)) := by rw [fillAt_get, hz]; rfl
      have lt1 := lt_of_get hz
      have hq : qs[t.1]? = some (qs[t.1]'(by omega)) := List.getElem?_eq_getElem (by omega)
      generalize qs[t.1]'(by omega) = q at hq
      obtain ⟨vs, gq, dq⟩ := Rj.row t.1 q _ hq hzj
      have hqm := List.mem_of_getElem? hq
      have lvs := DpAll.len dq
      have spl := Rh.spot_lt ((Rh.spot_fill (z := z) (fun s => decide ((t.1, s) ∈ L'.take j)) (Z'.length : Int)).mpr hsp)
      have ell : (((qs.map V.ref).length : Nat) : Int) = (Z'.length : Int) := by rw [List.length_map, lq]
      refine ⟨T, _, rfl, hT, rfl, _, _, rfl, _, _, rfl, rfl, ?_⟩
      refine ⟨_, rfl, p, _, rfl, .inl (SqL.of gpj), ?_⟩
      rw [ell]
      refine ⟨_, rfl, _, rfl, p, _, _, .ref q, rfl, rfl, SqL.of gpj, at_ofA (j := t.1) rfl (by rw [List.getElem?_map, hq]; rfl), _, rfl, ?_⟩
      refine ⟨q, vs, _, t.2, rfl, rfl, gq, ixN_nat (by rw [lvs]; exact spl), ?_⟩
      have npq : p ≠ q := fun e => I3.np (by rw [e]; exact hqm)
      refine ⟨_, _, _, rfl, fun c o h h1 h2 => ?_, by rw [upd_ne npq]; exact gpj, ?_⟩
      · have ncq : c ≠ q := fun e => h2 (by rw [e]; exact hqm)
        rw [upd_ne ncq]
        exact xj c o h h1 h2
      · refine Rj.put I3.nd hq hzj gq dq ((Rh.spot_fill _ _).mpr hsp) fun i => ?_
        rw [take_snoc hlt]
        exact fillAt_step _ t _ _ i
    · rintro σ Hj ⟨v3, v4, v5, rfl, xj, gpj, Rj⟩
      rw [llv, List.take_length, done] at Rj
      have sHj : Same H Hj := fun b o h => xj b o (sH3 _ _ h) (ne_of_none h hp) fun m => by
        obtain ⟨i, hi⟩ := List.getElem?_of_mem m
        have : H2 b = none := nq3 b m
        rw [s02 _ _ h] at this
        cases this
      generalize hY : bk.b.ly 0 (some (bk.b.mr : Int)) = Y at Rj k
      have hYf : ∀ z ∈ Y, ∀ s, ¬ z.hole s := fun z hz s => by
        rw [← hY, ← lyU_toL] at hz
        exact lyU_full hz s
      have lY : qs.length = Y.length := Rj.len
      have lYm : Y.length = bk.b.mr := by rw [← hY, Bl.ly_len]
      refine ⟨_, rfl, p, rfl, ⟨_, SqL.of gpj⟩, fun D hD => ?_⟩
      refine lc_list (K := K) (a := p) (xs := qs.map V.ref) (fun i Hi => ∃ ys, Same Hj Hi ∧ Hi D = some (.lst ys) ∧ AreR K Hi ys (rwL (Y.take i))) ⟨[], same_new hD _, upd_same, .nil⟩ (fun i Hi _ ⟨_, s, _⟩ => SqL.of (s _ _ gpj)) ?_ ?_
      · rintro i y Hi hy ⟨ys, si, gD, har⟩
        rw [List.getElem?_map] at hy
        obtain ⟨q, hq, rfl⟩ := Option.map_eq_some_iff.mp hy
        have li := lt_of_get hq
        have hz : Y[i]? = some (Y[i]'(by omega)) := List.getElem?_eq_getElem (by omega)
        generalize Y[i]'(by omega) = z at hz
        obtain ⟨vs, g, dv⟩ := Rj.row i q z hq hz
        have ly := har.len
        rw [List.length_map, List.length_take] at ly
        refine ⟨rfl, _, rfl, q, vs, rfl, .inl ⟨SqL.of (si _ _ g), fun t ht => ?_⟩⟩
        have s4 := same_new ht (.tup vs)
        have gD4 := s4 _ _ gD
        have kD := kt_lst gD4 (.lst (ys ++ [.ref t]))
        refine ⟨ys, gD4, sz (m := 2000) (by omega), ys ++ [.ref t], same_upd (si.trans s4) hD _, upd_same, ?_⟩
        rw [take_snoc hz, rwL, List.map_append]
        refine (har.kt ((kt_same s4).trans kD)).app (.cons (Dp.kt kD _ _ (Rw.tp _) ?_) .nil)
        rw [← Rh.full_dat (hYf z (List.mem_of_getElem? hz))]
        exact .tup (SqT.of upd_same) (Dp.ktAll (kt_same (si.trans s4)) _ _ z.dl_tp dv)
      · rintro Hi ⟨ys, si, gD, har⟩
        rw [List.length_map, lY, List.take_length] at har
        have ly := har.len
        rw [List.length_map] at ly
        refine ⟨_, rfl, (by show 2 ≤ sizeLine; decide), fun t ht => ⟨(by show 1 ≤ sizeLine; decide), fun l2 hl2 => ?_⟩⟩
        have s5 := same_new ht (.tup [.str "end", va])
        have g5 : upd Hi t (.tup [.str "end", va]) t = some (.tup [.str "end", va]) := upd_same
        generalize upd Hi t (.tup [.str "end", va]) = H5 at s5 g5 hl2 ⊢
        have s6 := same_new hl2 (.lst [.ref t])
        have g6 : upd H5 l2 (.lst [.ref t]) l2 = some (.lst [.ref t]) := upd_same
        generalize upd H5 l2 (.lst [.ref t]) = H6 at s6 g6 ⊢
        have s56 := s5.trans s6
        refine ⟨D, l2, _, _, rfl, rfl, s56 _ _ gD, g6, szl (m := 2000) (by simp only [List.length_cons, List.length_nil]; omega), fun l3 hl3 => ?_⟩
        have s7 := same_new hl3 (.lst (ys ++ [.ref t]))
        refine ⟨l3, _, rfl, .inl ⟨SqL.of upd_same, fun t4 ht4 => ?_⟩⟩
        have s8 := same_new ht4 (.tup (ys ++ [.ref t]))
        have s68 := (s6.trans s7).trans s8
        have sA := sHj.trans (si.trans (s5.trans s68))
        refine k t4 _ _ sA (SqT.of upd_same) ((har.kt (kt_same (s5.trans s68))).app (.cons (.tup (SqT.of (s68 _ _ g5)) (.cons (.str _) (.cons (he.kt (kt_same sA)) .nil))) .nil))
end
end My
set_option Elab.async false
set_option maxRecDepth 100000
set_option linter.all false
namespace My
open PySem L2
mutual
theorem Sm.after_preO : ∀ (s : Sm) (seen ks : List Str), s.Ok seen ks → ∃ nw, s.after ks = ks ++ nw ∧ nw.length ≤ s.cnt ∧ ∀ x ∈ nw, NmOk x
  | .draw x as, seen, ks, h => by
    simp only [Sm.Ok] at h
    simp only [Sm.after, addK, Sm.cnt]
    split
    · exact ⟨[], by simp, by simp, by simp⟩
    · exact ⟨[x], rfl, by simp, fun y hy => by rw [List.mem_singleton.mp hy]; exact h.1⟩
  | .set x e, seen, ks, h => by
    simp only [Sm.Ok] at h
    simp only [Sm.after, addK, Sm.cnt]
    split
    · exact ⟨[], by simp, by simp, by simp⟩
    · exact ⟨[x], rfl, by simp, fun y hy => by rw [List.mem_singleton.mp hy]; exact h.1⟩
  | .see e, seen, ks, h => ⟨[], by simp [Sm.after], by simp, by simp⟩
  | .ite e a b, seen, ks, h => by
    simp only [Sm.Ok] at h
    obtain ⟨nw, e1, e2, e3⟩ := Bl.after_preO a seen ks h.2.1
    simp only [Sm.after, Sm.cnt]
    rw [e1, List.filter_append]
    have e4 : ks.filter (fun x => decide (x ∈ b.after ks) && !decide (x ∈ ks)) = [] := List.filter_eq_nil_iff.mpr fun x hx => by simp [hx]
    rw [e4, List.nil_append]
    refine ⟨_, rfl, ?_, fun x hx => e3 x (List.mem_filter.mp hx).1⟩
    have := List.length_filter_le (fun x => decide (x ∈ b.after ks) && !decide (x ∈ ks)) nw
    omega
  | .times k b, seen, ks, h => by
    simp only [Sm.Ok] at h
    obtain ⟨nw, e1, e2, e3⟩ := Bl.after_preO b seen ks h.2
    exact ⟨nw, by simpa only [Sm.after] using e1, by simp only [Sm.cnt]; omega, e3⟩
theorem Bl.after_preO : ∀ (b : Bl) (seen ks : List Str), b.Ok seen ks → ∃ nw, b.after ks = ks ++ nw ∧ nw.length ≤ b.cnt ∧ ∀ x ∈ nw, NmOk x
  | .nil, seen, ks, h => ⟨[], by simp [Bl.after], by simp, by simp⟩
  | .cons s b, seen, ks, h => by
    simp only [Bl.Ok] at h
    obtain ⟨n1, e1, e2, e3⟩ := Sm.after_preO s seen ks h.1
    have h2 := h.2
    obtain ⟨n2, f1, f2, f3⟩ := Bl.after_preO b seen (s.after ks) h2
    refine ⟨n1 ++ n2, ?_, by simp only [Bl.cnt, List.length_append]; omega, fun x hx => (List.mem_append.mp hx).elim (e3 x) (f3 x)⟩
    simp only [Bl.after]
    rw [f1, e1, List.append_assoc]
end
theorem Bk.Ok.aft {k : Bk} (ok : k.Ok) : (k.b.after []).length ≤ 9 ∧ ∀ x ∈ k.b.after [], NmOk x := by
  obtain ⟨nw, e1, e2, e3⟩ := Bl.after_preO k.b _ [] ok.bo
  rw [List.nil_append] at e1
  rw [e1]
  have := ok.bc
  exact ⟨by omega, e3⟩
theorem Bk.Ok.seenOk {k : Bk} (ok : k.Ok) : ∀ x ∈ k.us.map (·.1) ++ k.fs, NmOk x := fun x hx => by
  rcases List.mem_append.mp hx with hx | hx
  · obtain ⟨u, hu, rfl⟩ := List.mem_map.mp hx
    exact (ok.un u hu).1
  · exact ok.fn x hx
theorem known_at (wl ul sl kn : Addr) : valV (knownKV wl ul sl kn) (.inr "seen") = some (.ref sl) ∧ valV (knownKV wl ul sl kn) (.inr "known") = some (.ref kn) ∧ valV (knownKV wl ul sl kn) (.inr "words") = some (.ref wl) := by
  have n : ∀ {x y : Str}, x ≠ y → ¬ (Sum.inr x : Key) = Sum.inr y := fun h e => h (Sum.inr.inj e)
  refine ⟨?_, ?_, ?_⟩
  · unfold knownKV
    rw [valV_neg (n (by decide +kernel)), valV_neg (n (by decide +kernel)), valV_pos rfl]
  · unfold knownKV
    rw [valV_neg (n (by decide +kernel)), valV_neg (n (by decide +kernel)), valV_neg (n (by decide +kernel)), valV_pos rfl]
  · unfold knownKV
    rw [valV_pos rfl]
def spAsk (K : PySem.W.Frag) : Sp := fun vs H Q _ => ∃ (d l wd wl ul sl kn : Addr) (ws : List Str) (bk : Bk), vs = [.ref d, .ref wd, .bl true] ∧ Deal H d l ∧ WorldAt H wd wl ul sl kn ws bk ∧ bk.Ok ∧
  ∀ (v : V) (e : Ex) (H' : Hp), Deal H' d l → Ext d l H H' → IsE K H' v e → e.parts.length ≤ 13 → e.depth ≤ 3 → e.okN (bk.us.map (·.1) ++ bk.fs ++ bk.b.after []) → Q v H'
section
variable {P : Program} {w : World} {K : PySem.W.Frag} {mg : Str → Option Value} {base : Heap}
set_option maxHeartbeats 8000000 in
theorem ok_ask {f : Addr} {fd : FuncData} (F : Fun K "_law_ask" "_law_ask" s_L_ask f fd) (Z : Zb mg) (G_L_test : FnIn P w K mg base 6 "_law_test" ps_L_test (spTest K)) : FnOk P w K mg base CX0 7 f fd ps_L_ask (spAsk K) := by
  refine F.ok sc_L_ask (fun vs H Q E h => ?_) (fun cdv A outer s H vs Q E hr h => ?_)
  · obtain ⟨d, l, wd, wl, ul, sl, kn, ws, bk, rfl, _⟩ := h
    rfl
  · obtain ⟨d, l, wd, wl, ul, sl, kn, ws, bk, rfl, D, W, ok, k⟩ := h
    have hu := hu_of hr
    refine ⟨_, (pss_one (ps_ret (pe_fn G_L_test hr rfl (pa_cons (pv 0) (pa_cons (pe_ifExp (pt_val (pv 2)) (pe_op op_cat (pe_dget hu (pv 1) pe_str (fun _ _ => rfl)) (pe_dget hu (pv 1) pe_str (fun _ _ => rfl))) (pe_dget hu (pv 1) pe_str (fun _ _ => rfl))) pa_nil))))), ?_⟩
    obtain ⟨ks, kk, kw⟩ := known_at wl ul sl kn
    have gs : DGet H wd (.str "seen") (some (.ref sl)) := ks ▸ DGet.k (k := .inr "seen") W.wd_
    have gk : DGet H wd (.str "known") (some (.ref kn)) := kk ▸ DGet.k (k := .inr "known") W.wd_
    obtain ⟨la, na⟩ := ok.aft
    have u3 := ok.u3
    have f3 := ok.f3
    refine ⟨_, rfl, _, rfl, true, rfl, iteT ?_⟩
    refine ⟨_, rfl, wd, _, rfl, gs, _, rfl, wd, _, rfl, gk, ?_⟩
    refine ⟨sl, kn, _, _, rfl, rfl, W.sl_, W.kn_, szl (m := 100) (by simp only [List.length_map, List.length_append]; omega), fun nl hnl => ?_⟩
    rw [← List.map_append]
    have s1 := same_new hnl (.lst ((bk.us.map (·.1) ++ bk.fs ++ bk.b.after []).map V.str))
    obtain ⟨n1, n2⟩ := D.nn hnl
    refine ⟨d, l, nl, _, rfl, D.new hnl, ⟨upd_same, n1, n2, fun x hx => ?_, by simp only [List.length_append, List.length_map]; omega⟩, fun v e H2 D2 x2 ie on dp pl => ?_⟩
    · rcases List.mem_append.mp hx with hx | hx
      · exact ok.seenOk x hx
      · exact na x hx
    · exact k v e H2 D2 ((Ext.ofSame s1).trans x2) ie pl dp on
end
end My
set_option Elab.async false
set_option maxRecDepth 100000
set_option linter.all false
namespace My
open PySem L2
def eX (e : Ex) : Prop := e.ok ∧ e.depth ≤ 3 ∧ e.parts.length ≤ 13
mutual
def Sm.Gx : Sm → Prop
  | .draw x as => NmOk x ∧ as.length ≤ 4 ∧ ∀ a ∈ as, eX a.1 ∧ eX a.2
  | .set x e => NmOk x ∧ eX e
  | .see e => eX e
  | .ite e a b => eX e ∧ a.Gx ∧ b.Gx
  | .times k b => (1 ≤ k ∧ k ≤ 100) ∧ b.Gx
def Bl.Gx : Bl → Prop
  | .nil => True
  | .cons s b => s.Gx ∧ b.Gx
end
mutual
theorem Sm.Gx.ft : ∀ (s : Sm), s.Gx → s.Ft
  | .draw x as, h => by
    simp only [Sm.Gx] at h
    simp only [Sm.Ft]
    exact ⟨h.1, by omega, fun a ha => ⟨by have := (h.2.2 a ha).1.2.2; unfold eF; omega, by have := (h.2.2 a ha).2.2.2; unfold eF; omega⟩⟩
  | .set x e, h => by
    simp only [Sm.Gx] at h
    simp only [Sm.Ft]
    exact ⟨h.1, by have := h.2.2.2; unfold eF; omega⟩
  | .see e, h => by
    simp only [Sm.Gx] at h
    simp only [Sm.Ft]
    have := h.2.2
    unfold eF; omega
  | .ite e a b, h => by
    simp only [Sm.Gx] at h
    simp only [Sm.Ft]
    exact ⟨by have := h.1.2.2; unfold eF; omega, Bl.Gx.ft a h.2.1, Bl.Gx.ft b h.2.2⟩
  | .times k b, h => by
    simp only [Sm.Gx] at h
    simp only [Sm.Ft]
    exact ⟨h.1, Bl.Gx.ft b h.2⟩
theorem Bl.Gx.ft : ∀ (b : Bl), b.Gx → b.Ft
  | .nil, _ => by simp only [Bl.Ft]
  | .cons s b, h => by
    simp only [Bl.Gx] at h
    simp only [Bl.Ft]
    exact ⟨Sm.Gx.ft s h.1, Bl.Gx.ft b h.2⟩
end
theorem eX.fine {e : Ex} (h : eX e) : Fine e.dat 4 195 := (Ex.fine h.1).mono (by have := h.2.1; omega) (by have := h.2.2; omega)
theorem alts_fine {as : List (Ex × Ex)} (h4 : as.length ≤ 4) (h : ∀ a ∈ as, eX a.1 ∧ eX a.2) : Fine (.tuple (as.map altD)) 6 1572 := by
  have q := FineAll.of (ds := as.map altD) (dep := 5) (w := 392) fun d hd => by
    obtain ⟨a, ha, rfl⟩ := List.mem_map.mp hd
    exact (FineAll.cons (h a ha).1.fine (FineAll.cons (h a ha).2.fine FineAll.nil)).tuple
  rw [List.length_map] at q
  exact q.tuple.mono (Nat.le_refl _) (by omega)
theorem fis (x : Str) (n : Nat) (h : x.length ≤ n) (a : x.cps.toList.all (fun c => decide (c < 128)) = true) {dep : Nat} : Fine (.str x) dep n := (Fine.str h (asc_by a)).up
/-- a row, its targets small -/
def Rw.Fx (M : Int) : Rw → Prop
  | .draw x as f => NmOk x ∧ as.length ≤ 4 ∧ (∀ a ∈ as, eX a.1 ∧ eX a.2) ∧ 0 ≤ f ∧ f ≤ M
  | .set x e f => NmOk x ∧ eX e ∧ 0 ≤ f ∧ f ≤ M
  | .see e f => eX e ∧ 0 ≤ f ∧ f ≤ M
  | .branch e a b => eX e ∧ (0 ≤ a ∧ a ≤ M) ∧ 0 ≤ b ∧ b ≤ M
  | .fin e => eX e
theorem Rw.Fx.fine {r : Rw} (h : r.Fx 999) : Fine r.dat 7 1620 := by
  cases r with
  | draw x as f =>
    simp only [Rw.Fx] at h
    exact (FineAll.cons (fis "draw" 4 (by decide +kernel) (by decide +kernel)) (FineAll.cons (Fine.str (n := 6) h.1.1 h.1.2).up (FineAll.cons (alts_fine h.2.1 h.2.2.1) (FineAll.cons (Fine.int h.2.2.2.1 h.2.2.2.2).up FineAll.nil)))).tuple.mono (by omega) (by omega)
  | set x e f =>
    simp only [Rw.Fx] at h
    exact (FineAll.cons (dep := 4) (fis "set" 3 (by decide +kernel) (by decide +kernel)) (FineAll.cons (Fine.str (n := 6) h.1.1 h.1.2).up (FineAll.cons h.2.1.fine (FineAll.cons (Fine.int h.2.2.1 h.2.2.2).up FineAll.nil)))).tuple.mono (by omega) (by omega)
  | see e f =>
    simp only [Rw.Fx] at h
    exact (FineAll.cons (dep := 4) (fis "see" 3 (by decide +kernel) (by decide +kernel)) (FineAll.cons h.1.fine (FineAll.cons (Fine.int h.2.1 h.2.2).up FineAll.nil))).tuple.mono (by omega) (by omega)
  | branch e a b =>
    simp only [Rw.Fx] at h
    exact (FineAll.cons (dep := 4) (fis "branch" 6 (by decide +kernel) (by decide +kernel)) (FineAll.cons h.1.fine (FineAll.cons (Fine.int h.2.1.1 h.2.1.2).up (FineAll.cons (Fine.int h.2.2.1 h.2.2.2).up FineAll.nil)))).tuple.mono (by omega) (by omega)
  | fin e =>
    simp only [Rw.Fx] at h
    exact (FineAll.cons (dep := 4) (fis "end" 3 (by decide +kernel) (by decide +kernel)) (FineAll.cons h.fine FineAll.nil)).tuple.mono (by omega) (by omega)
mutual
theorem Sm.ly_fx (M : Int) : ∀ (s : Sm) (n : Nat) (f : Int), s.Gx → ((n + s.mr : Nat) : Int) ≤ M → 0 ≤ f → f ≤ M → ∀ z ∈ s.ly n (some f), z.rw.Fx M
  | .draw x as, n, f, h, hn, f0, f1, z, hz => by
    simp only [Sm.Gx] at h
    simp only [Sm.ly, List.mem_singleton] at hz
    subst hz
    exact ⟨h.1, h.2.1, h.2.2, f0, f1⟩
  | .set x e, n, f, h, hn, f0, f1, z, hz => by
    simp only [Sm.Gx] at h
    simp only [Sm.ly, List.mem_singleton] at hz
    subst hz
    exact ⟨h.1, h.2, f0, f1⟩
  | .see e, n, f, h, hn, f0, f1, z, hz => by
    simp only [Sm.Gx] at h
    simp only [Sm.ly, List.mem_singleton] at hz
    subst hz
    exact ⟨h, f0, f1⟩
  | .ite e a b, n, f, h, hn, f0, f1, z, hz => by
    simp only [Sm.Gx] at h
    simp only [Sm.mr] at hn
    simp only [Sm.ly, List.mem_cons, List.mem_append] at hz
    rcases hz with rfl | hz | hz
    · refine ⟨h.1, ?_, ?_⟩
      · split
        · exact ⟨f0, f1⟩
        · exact ⟨by show (0 : Int) ≤ ((n + 1 : Nat) : Int); omega, by show ((n + 1 : Nat) : Int) ≤ M; omega⟩
      · split
        · exact ⟨f0, f1⟩
        · exact ⟨by show (0 : Int) ≤ ((n + 1 + a.mr : Nat) : Int); omega, by show ((n + 1 + a.mr : Nat) : Int) ≤ M; omega⟩
    · exact Bl.ly_fx M a (n + 1) f h.2.1 (by omega) f0 f1 z hz
    · exact Bl.ly_fx M b (n + 1 + a.mr) f h.2.2 (by omega) f0 f1 z hz
  | .times k b, n, f, h, hn, f0, f1, z, hz => by
    simp only [Sm.Gx] at h
    simp only [Sm.mr] at hn
    simp only [Sm.ly, List.mem_flatMap, List.mem_range] at hz
    obtain ⟨i, hi, hz⟩ := hz
    have h1 : (i + 1) * b.mr ≤ k.toNat * b.mr := Nat.mul_le_mul_right _ hi
    have h2 : (i + 1) * b.mr = i * b.mr + b.mr := Nat.succ_mul _ _
    by_cases c : i + 1 < k.toNat
    · rw [if_pos c] at hz
      exact Bl.ly_fx M b (n + i * b.mr) _ h.2 (by omega) (by omega) (by omega) z hz
    · rw [if_neg c] at hz
      exact Bl.ly_fx M b (n + i * b.mr) f h.2 (by omega) f0 f1 z hz
theorem Bl.ly_fx (M : Int) : ∀ (b : Bl) (n : Nat) (f : Int), b.Gx → ((n + b.mr : Nat) : Int) ≤ M → 0 ≤ f → f ≤ M → ∀ z ∈ b.ly n (some f), z.rw.Fx M
  | .nil, n, f, h, hn, f0, f1, z, hz => by simp [Bl.ly] at hz
  | .cons s b, n, f, h, hn, f0, f1, z, hz => by
    simp only [Bl.Gx] at h
    simp only [Bl.mr] at hn
    simp only [Bl.ly, List.mem_append] at hz
    rcases hz with hz | hz
    · by_cases c : b.mr = 0
      · rw [if_pos c] at hz
        exact Sm.ly_fx M s n f h.1 (by omega) f0 f1 z hz
      · rw [if_neg c] at hz
        exact Sm.ly_fx M s n _ h.1 (by omega) (by omega) (by omega) z hz
    · exact Bl.ly_fx M b (n + s.mr) f h.2 (by omega) f0 f1 z hz
end
/-- a flow is shown -/
theorem flow_fine {b : Bl} {e : Ex} (h : b.Gx) (he : eX e) (hm : b.mr ≤ 600) : Fine (.tuple ((rwL (b.ly 0 (some (b.mr : Int))) ++ [Rw.fin e]).map Rw.dat)) 8 1000000 := by
  have q := FineAll.of (ds := (rwL (b.ly 0 (some (b.mr : Int))) ++ [Rw.fin e]).map Rw.dat) (dep := 7) (w := 1620) fun d hd => by
    obtain ⟨r, hr, rfl⟩ := List.mem_map.mp hd
    rcases List.mem_append.mp hr with hr | hr
    · obtain ⟨z, hz, rfl⟩ := List.mem_map.mp hr
      exact (Bl.ly_fx 999 b 0 (b.mr : Int) h (by omega) (by omega) (by omega) z hz).fine
    · rw [List.mem_singleton.mp hr]
      exact Rw.Fx.fine he
  rw [List.length_map, List.length_append, List.length_map, Bl.ly_len] at q
  simp only [List.length_cons, List.length_nil] at q
  exact q.tuple.mono (by omega) (by omega)
end My
set_option Elab.async false
set_option maxRecDepth 100000
set_option linter.all false
namespace My
open PySem L2
mutual
theorem Sm.Ok.gx : ∀ (s : Sm) (seen ks : List Str), (∀ x ∈ seen, NmOk x) → (∀ x ∈ ks, NmOk x) → s.Ok seen ks → s.Gx
  | .draw x as, seen, ks, h1, h2, h => by
    simp only [Sm.Ok] at h
    simp only [Sm.Gx]
    have hn : ∀ y ∈ seen ++ ks, NmOk y := fun y hy => (List.mem_append.mp hy).elim (h1 y) (h2 y)
    exact ⟨h.1, h.2.2.1, fun a ha => ⟨⟨Ex.okN.ok hn (h.2.2.2 a ha).1.1, (h.2.2.2 a ha).1.2.1, (h.2.2.2 a ha).1.2.2⟩, ⟨Ex.okN.ok hn (h.2.2.2 a ha).2.1, (h.2.2.2 a ha).2.2.1, (h.2.2.2 a ha).2.2.2⟩⟩⟩
  | .set x e, seen, ks, h1, h2, h => by
    simp only [Sm.Ok] at h
    simp only [Sm.Gx]
    have hn : ∀ y ∈ seen ++ ks, NmOk y := fun y hy => (List.mem_append.mp hy).elim (h1 y) (h2 y)
    exact ⟨h.1, Ex.okN.ok hn h.2.1, h.2.2.1, h.2.2.2⟩
  | .see e, seen, ks, h1, h2, h => by
    simp only [Sm.Ok] at h
    simp only [Sm.Gx]
    have hn : ∀ y ∈ seen ++ ks, NmOk y := fun y hy => (List.mem_append.mp hy).elim (h1 y) (h2 y)
    exact ⟨Ex.okN.ok hn h.1, h.2.1, h.2.2⟩
  | .ite e a b, seen, ks, h1, h2, h => by
    simp only [Sm.Ok] at h
    simp only [Sm.Gx]
    have hn : ∀ y ∈ seen ++ ks, NmOk y := fun y hy => (List.mem_append.mp hy).elim (h1 y) (h2 y)
    exact ⟨⟨Ex.okN.ok hn h.1.1, h.1.2.1, h.1.2.2⟩, Bl.Ok.gx a seen ks h1 h2 h.2.1, Bl.Ok.gx b seen ks h1 h2 h.2.2⟩
  | .times k b, seen, ks, h1, h2, h => by
    simp only [Sm.Ok] at h
    simp only [Sm.Gx]
    exact ⟨by omega, Bl.Ok.gx b seen ks h1 h2 h.2⟩
theorem Bl.Ok.gx : ∀ (b : Bl) (seen ks : List Str), (∀ x ∈ seen, NmOk x) → (∀ x ∈ ks, NmOk x) → b.Ok seen ks → b.Gx
  | .nil, _, _, _, _, _ => by simp only [Bl.Gx]
  | .cons s b, seen, ks, h1, h2, h => by
    simp only [Bl.Ok] at h
    simp only [Bl.Gx]
    obtain ⟨nw, e1, _, e3⟩ := Sm.after_preO s seen ks h.1
    refine ⟨Sm.Ok.gx s seen ks h1 h2 h.1, Bl.Ok.gx b seen (s.after ks) h1 (fun x hx => ?_) h.2⟩
    rw [e1] at hx
    exact (List.mem_append.mp hx).elim (h2 x) (e3 x)
end
mutual
theorem Sm.Gx.fine : ∀ (s : Sm), s.Gx → Fine s.dat (2 * s.nest + 7) (1621 * s.cnt - 1)
  | .draw x as, h => by
    simp only [Sm.Gx] at h
    simp only [Sm.dat, Sm.nest, Sm.cnt]
    exact (FineAll.cons (fis "draw" 4 (by decide +kernel) (by decide +kernel)) (FineAll.cons (Fine.str (n := 6) h.1.1 h.1.2).up (FineAll.cons (alts_fine h.2.1 h.2.2) FineAll.nil))).tuple.mono (by omega) (by omega)
  | .set x e, h => by
    simp only [Sm.Gx] at h
    simp only [Sm.dat, Sm.nest, Sm.cnt]
    exact (FineAll.cons (dep := 4) (fis "set" 3 (by decide +kernel) (by decide +kernel)) (FineAll.cons (Fine.str (n := 6) h.1.1 h.1.2).up (FineAll.cons h.2.fine FineAll.nil))).tuple.mono (by omega) (by omega)
  | .see e, h => by
    simp only [Sm.Gx] at h
    simp only [Sm.dat, Sm.nest, Sm.cnt]
    exact (FineAll.cons (dep := 4) (fis "see" 3 (by decide +kernel) (by decide +kernel)) (FineAll.cons h.fine FineAll.nil)).tuple.mono (by omega) (by omega)
  | .ite e a b, h => by
    simp only [Sm.Gx] at h
    simp only [Sm.dat, Sm.nest, Sm.cnt]
    have ha := (Bl.Gx.fine a h.2.1).tuple.mono (dep' := 2 * max a.nest b.nest + 8) (by omega) (Nat.le_refl _)
    have hb := (Bl.Gx.fine b h.2.2).tuple.mono (dep' := 2 * max a.nest b.nest + 8) (by omega) (Nat.le_refl _)
    exact (FineAll.cons (fis "if" 2 (by decide +kernel) (by decide +kernel)) (FineAll.cons (h.1.fine.mono (by omega) (Nat.le_refl _)) (FineAll.cons ha (FineAll.cons hb FineAll.nil)))).tuple.mono (by omega) (by omega)
  | .times k b, h => by
    simp only [Sm.Gx] at h
    simp only [Sm.dat, Sm.nest, Sm.cnt]
    have hb := (Bl.Gx.fine b h.2).tuple
    exact (FineAll.cons (fis "times" 5 (by decide +kernel) (by decide +kernel)) (FineAll.cons (Fine.int (i := k) (by omega) (by omega)).up (FineAll.cons hb FineAll.nil))).tuple.mono (by omega) (by omega)
theorem Bl.Gx.fine : ∀ (b : Bl), b.Gx → FineAll b.dats (2 * b.nest + 7) (1621 * b.cnt)
  | .nil, _ => by
    simp only [Bl.dats, Bl.nest, Bl.cnt]
    exact FineAll.nil
  | .cons s b, h => by
    simp only [Bl.Gx] at h
    simp only [Bl.dats, Bl.nest, Bl.cnt]
    have hs := (Sm.Gx.fine s h.1).mono (dep' := 2 * max s.nest b.nest + 7) (by omega) (Nat.le_refl _)
    have hb := Bl.Gx.fine b h.2
    have hb' : FineAll b.dats (2 * max s.nest b.nest + 7) (1621 * b.cnt) := ⟨hb.lv, hb.sh, hb.nd, Nat.le_trans hb.dp (by omega), hb.wt⟩
    have q := FineAll.cons hs hb'
    have c1 : 1 ≤ s.cnt := by cases s <;> simp [Sm.cnt] <;> omega
    exact ⟨q.lv, q.sh, q.nd, q.dp, Nat.le_trans q.wt (by omega)⟩
end
/-- what is known of a book that is looked at -/
structure BkG (k : Bk) : Prop where
  u : k.us.length ≤ 3 ∧ ∀ u ∈ k.us, NmOk u.1 ∧ u.2.length ≤ 4 ∧ ∀ a ∈ u.2, eX a.1 ∧ eX a.2
  f : k.fs.length ≤ 3 ∧ ∀ x ∈ k.fs, NmOk x
  b : k.b.Gx
  n : k.b.nest ≤ 3
  m : k.b.mr ≤ 600
  c : k.b.cnt ≤ 400
theorem BkG.fine {k : Bk} (h : BkG k) : Fine k.dat 20 1000000 := by
  have hu := FineAll.of (ds := k.us.map unkD) (dep := 7) (w := 1581) fun d hd => by
    obtain ⟨u, hu, rfl⟩ := List.mem_map.mp hd
    have q := h.u.2 u hu
    exact (FineAll.cons (Fine.str (n := 6) q.1.1 q.1.2).up (FineAll.cons (alts_fine q.2.1 q.2.2) FineAll.nil)).tuple.mono (by omega) (by omega)
  have hf := FineAll.of (ds := k.fs.map PyData.str) (dep := 0) (w := 6) fun d hd => by
    obtain ⟨x, hx, rfl⟩ := List.mem_map.mp hd
    have q := h.f.2 x hx
    exact Fine.str q.1 q.2
  have hb := (Bl.Gx.fine k.b h.b).tuple
  rw [List.length_map] at hu hf
  have u3 := h.u.1
  have f3 := h.f.1
  have n3 := h.n
  have c9 := h.c
  exact (FineAll.cons (dep := 16) (hu.tuple.mono (by omega) (Nat.le_refl _)) (FineAll.cons (hf.tuple.mono (by omega) (Nat.le_refl _)) (FineAll.cons (hb.mono (by omega) (Nat.le_refl _)) FineAll.nil))).tuple.mono (by omega) (by omega)
mutual
theorem Sm.mr_cnt : ∀ (s : Sm) (seen ks : List Str), s.Ok seen ks → s.mr ≤ 3 ^ s.nest * s.cnt
  | .draw _ _, _, _, _ => by simp [Sm.mr, Sm.nest, Sm.cnt]
  | .set _ _, _, _, _ => by simp [Sm.mr, Sm.nest, Sm.cnt]
  | .see _, _, _, _ => by simp [Sm.mr, Sm.nest, Sm.cnt]
  | .ite e a b, seen, ks, h => by
    simp only [Sm.Ok] at h
    have ha := Bl.mr_cnt a seen ks h.2.1
    have hb := Bl.mr_cnt b seen ks h.2.2
    simp only [Sm.mr, Sm.nest, Sm.cnt]
    have p1 : 3 ^ a.nest ≤ 3 ^ (max a.nest b.nest + 1) := Nat.pow_le_pow_right (by omega) (by omega)
    have p2 : 3 ^ b.nest ≤ 3 ^ (max a.nest b.nest + 1) := Nat.pow_le_pow_right (by omega) (by omega)
    have p0 : 1 ≤ 3 ^ (max a.nest b.nest + 1) := Nat.pos_of_ne_zero (by simp)
    have q1 := Nat.mul_le_mul_right a.cnt p1
    have q2 := Nat.mul_le_mul_right b.cnt p2
    rw [Nat.mul_add, Nat.mul_add, Nat.mul_one]
    omega
  | .times k b, seen, ks, h => by
    simp only [Sm.Ok] at h
    have hb := Bl.mr_cnt b seen ks h.2
    simp only [Sm.mr, Sm.nest, Sm.cnt]
    have q1 := Nat.mul_le_mul (show k.toNat ≤ 3 by omega) hb
    rw [Nat.pow_succ, Nat.mul_add]
    have e : 3 ^ b.nest * 3 * b.cnt = 3 * (3 ^ b.nest * b.cnt) := by rw [Nat.mul_comm (3 ^ b.nest) 3, Nat.mul_assoc]
    rw [e]
    omega
theorem Bl.mr_cnt : ∀ (b : Bl) (seen ks : List Str), b.Ok seen ks → b.mr ≤ 3 ^ b.nest * b.cnt
  | .nil, _, _, _ => by simp [Bl.mr]
  | .cons s b, seen, ks, h => by
    simp only [Bl.Ok] at h
    have hs := Sm.mr_cnt s seen ks h.1
    have hb := Bl.mr_cnt b seen _ h.2
    simp only [Bl.mr, Bl.nest, Bl.cnt]
    have p1 : 3 ^ s.nest ≤ 3 ^ max s.nest b.nest := Nat.pow_le_pow_right (by omega) (by omega)
    have p2 : 3 ^ b.nest ≤ 3 ^ max s.nest b.nest := Nat.pow_le_pow_right (by omega) (by omega)
    have q1 := Nat.mul_le_mul_right s.cnt p1
    have q2 := Nat.mul_le_mul_right b.cnt p2
    rw [Nat.mul_add]
    omega
end
theorem Bk.Ok.g {k : Bk} (ok : k.Ok) : BkG k := by
  have hs := ok.seenOk
  have m := Bl.mr_cnt k.b _ _ ok.bo
  have p : 3 ^ k.b.nest ≤ 3 ^ 3 := Nat.pow_le_pow_right (by omega) ok.bn
  have q := Nat.mul_le_mul p ok.bc
  refine ⟨⟨ok.u3, fun u hu => ⟨(ok.un u hu).1, (ok.un u hu).2.2, fun a ha => ?_⟩⟩, ⟨ok.f3, ok.fn⟩, Bl.Ok.gx k.b _ [] hs (by simp) ok.bo, ok.bn, by omega, by have := ok.bc; omega⟩
  obtain ⟨i, hi⟩ := List.getElem?_of_mem hu
  have h := ok.ua i u hi a ha
  have hn : ∀ x ∈ (k.us.take i).map (·.1), NmOk x := fun x hx => by
    obtain ⟨v, hv, rfl⟩ := List.mem_map.mp hx
    exact (ok.un v (List.mem_of_mem_take hv)).1
  exact ⟨⟨Ex.okN.ok hn h.1.1, h.1.2.1, h.1.2.2⟩, ⟨Ex.okN.ok hn h.2.1, h.2.2.1, h.2.2.2⟩⟩
end My
set_option Elab.async false
set_option maxRecDepth 100000
set_option linter.all false
namespace My
open PySem L2
theorem isE_always {K : PySem.W.Frag} {aA : Addr} (sA : ∀ H, SqT K H aA [.str "num", .int 1]) (H : Hp) : IsE K H (.ref aA) (.num 1) := .tup (sA H) (.cons (.str _) (.cons (.int _) .nil))
theorem eX_one : eX (.num 1) := ⟨⟨by decide, by decide⟩, by simp [Ex.depth], by simp [Ex.parts]⟩
def spRight (K : PySem.W.Frag) : Sp := fun vs H Q _ => ∃ (vb va : V) (k : Bk) (e : Ex), vs = [vb, va] ∧ Dp K H vb k.dat ∧ IsE K H va e ∧ BkG k ∧ eX e ∧ ∀ H', Same H H' → Q (.bl true) H'
section
variable {P : Program} {w : World} {K : PySem.W.Frag} {mg : Str → Option Value} {base : Heap}
set_option maxHeartbeats 8000000 in
theorem ok_right {f aA : Addr} {fd : FuncData} (F : Fun K "_law_right" "_law_right" s_L_right f fd) (Z : Zb mg) (g_ALWAYS : mg "ALWAYS" = some (.ref aA)) (sA : ∀ H, SqT K H aA [.str "num", .int 1]) (G_L_flow : FnIn P w K mg base 6 "_law_flow" ps_L_flow (spFlow K)) (GK_flow_of : FnK P w K mg base 26 "flow_of" ps_flow_of (spFlow K) [] (gD1 (.ref aA))) (GK_flow_of_asked : FnK P w K mg base 26 "flow_of" ps_flow_of (spFlow K) ["asked"] g11) : FnOk P w K mg base CX0 27 f fd ps_L_right (spRight K) := by
  refine F.ok sc_L_right (fun vs H Q E h => ?_) (fun cdv A outer s H vs Q E hr h => ?_)
  · obtain ⟨vb, va, k, e, rfl, _⟩ := h
    rfl
  · obtain ⟨vb, va, bk, e, rfl, hb, he, g, hx, k⟩ := h
    refine ⟨_, (pss_cons (ps_set (i := 2) sc_L_right.nd rfl (by first | exact Or.inl rfl | exact Or.inr rfl) (pe_callB (call_repr_data hr.gd hr.units) (by rfl) Z.repr (by decide +kernel) (pa_cons (pv 0) pa_nil)))
      (pss_cons (ps_if (pt_cmpR op_ne (pe_callB (call_repr_data hr.gd hr.units) (by rfl) Z.repr (by decide +kernel) (pa_cons (pe_kfn GK_flow_of hr rfl (pa_cons (pv 0) pa_nil) pk_nil) pa_nil)) (pe_callB (call_repr_data hr.gd hr.units) (by rfl) Z.repr (by decide +kernel) (pa_cons (pe_fn G_L_flow hr rfl (pa_cons (pv 0) (pa_cons (pe_tup (pa_cons pe_str (pa_cons pe_int pa_nil))) pa_nil))) pa_nil)) (nomark _)) (pss_one (ps_ret pe_bl)) pss_nil)
      (pss_cons (ps_if (pt_cmpR op_ne (pe_callB (call_repr_data hr.gd hr.units) (by rfl) Z.repr (by decide +kernel) (pa_cons (pe_kfn GK_flow_of_asked hr rfl (pa_cons (pv 0) pa_nil) (pk_cons (pe_gref rfl g_ALWAYS) pk_nil)) pa_nil)) (pe_callB (call_repr_data hr.gd hr.units) (by rfl) Z.repr (by decide +kernel) (pa_cons (pe_kfn GK_flow_of hr rfl (pa_cons (pv 0) pa_nil) pk_nil) pa_nil)) (nomark _)) (pss_one (ps_ret pe_bl)) pss_nil)
      (pss_one (ps_ret (pe_and (pe_cmpR op_eq (pe_callB (call_repr_data hr.gd hr.units) (by rfl) Z.repr (by decide +kernel) (pa_cons (pe_kfn GK_flow_of_asked hr rfl (pa_cons (pv 0) pa_nil) (pk_cons (pv 1) pk_nil)) pa_nil)) (pe_callB (call_repr_data hr.gd hr.units) (by rfl) Z.repr (by decide +kernel) (pa_cons (pe_fn G_L_flow hr rfl (pa_cons (pv 0) (pa_cons (pv 1) pa_nil))) pa_nil)) (nomark _)) (pe_one (pe_cmpR op_eq (pe_callB (call_repr_data hr.gd hr.units) (by rfl) Z.repr (by decide +kernel) (pa_cons (pv 0) pa_nil)) (pv 2) (nomark _))))))))), ?_⟩
    obtain ⟨a, v0, v1, v2, rfl, _, _⟩ := Bk.openB hb
    have fb := g.fine
    have ft := Bl.Gx.ft _ g.b
    have m6 := g.m
    have f1 := flow_fine g.b eX_one g.m
    have fe := flow_fine g.b hx g.m
    refine ⟨_, rfl, a, _, rfl, hb, fb.sh, Nat.le_trans fb.dp (by decide), fb.nd, fb.fits (by decide), ?_⟩
    dsimp only [gName]
    refine ⟨_, rfl, .ref a, .ref aA, bk, .num 1, rfl, hb, isE_always sA _, ft, g.n, by omega, fun t1 ws1 H1 s1 ht1 ar1 => ?_⟩
    refine ⟨t1, _, rfl, .tup ht1 ar1, f1.sh, Nat.le_trans f1.dp (by decide), f1.nd, f1.fits (by decide), ?_⟩
    refine ⟨_, rfl, (by show 2 ≤ sizeLine; decide), fun T hT => ?_⟩
    have s2 := same_new hT (.tup [.str "num", .int 1])
    have g2 : upd H1 T (.tup [.str "num", .int 1]) T = some (.tup [.str "num", .int 1]) := upd_same
    generalize upd H1 T (.tup [.str "num", .int 1]) = H2 at s2 g2 ⊢
    have s02 := s1.trans s2
    refine ⟨.ref a, .ref T, bk, .num 1, rfl, Dp.kt (kt_same s02) _ _ bk.tp hb, .tup (SqT.of g2) (.cons (.str _) (.cons (.int _) .nil)), ft, g.n, by omega, fun t3 ws3 H3 s3 ht3 ar3 => ?_⟩
    refine ⟨t3, _, rfl, .tup ht3 ar3, f1.sh, Nat.le_trans f1.dp (by decide), f1.nd, f1.fits (by decide), ?_⟩
    refine ⟨rfl, _, rfl, iteB (by rw [decide_eq_true rfl]; rfl) ?_⟩
    dsimp only [tNext]
    have s03 := s02.trans s3
    refine ⟨_, rfl, .ref a, .ref aA, bk, .num 1, rfl, Dp.kt (kt_same s03) _ _ bk.tp hb, isE_always sA _, ft, g.n, by omega, fun t4 ws4 H4 s4 ht4 ar4 => ?_⟩
    refine ⟨t4, _, rfl, .tup ht4 ar4, f1.sh, Nat.le_trans f1.dp (by decide), f1.nd, f1.fits (by decide), ?_⟩
    have s04 := s03.trans s4
    refine ⟨_, rfl, .ref a, .ref aA, bk, .num 1, rfl, Dp.kt (kt_same s04) _ _ bk.tp hb, isE_always sA _, ft, g.n, by omega, fun t5 ws5 H5 s5 ht5 ar5 => ?_⟩
    refine ⟨t5, _, rfl, .tup ht5 ar5, f1.sh, Nat.le_trans f1.dp (by decide), f1.nd, f1.fits (by decide), ?_⟩
    refine ⟨rfl, _, rfl, iteB (by rw [decide_eq_true rfl]; rfl) ?_⟩
    dsimp only [tNext]
    have s05 := s04.trans s5
    refine ⟨_, rfl, _, rfl, .ref a, va, bk, e, rfl, Dp.kt (kt_same s05) _ _ bk.tp hb, he.kt (kt_same s05), ft, g.n, by omega, fun t6 ws6 H6 s6 ht6 ar6 => ?_⟩
    refine ⟨t6, _, rfl, .tup ht6 ar6, fe.sh, Nat.le_trans fe.dp (by decide), fe.nd, fe.fits (by decide), ?_⟩
    have s06 := s05.trans s6
    refine ⟨_, rfl, _, rfl, .ref a, va, bk, e, rfl, Dp.kt (kt_same s06) _ _ bk.tp hb, he.kt (kt_same s06), ft, g.n, by omega, fun t7 ws7 H7 s7 ht7 ar7 => ?_⟩
    refine ⟨t7, _, rfl, .tup ht7 ar7, fe.sh, Nat.le_trans fe.dp (by decide), fe.nd, fe.fits (by decide), ?_⟩
    have s07 := s06.trans s7
    refine ⟨rfl, _, rfl, iteBT (by rw [decide_eq_true rfl]) ?_⟩
    refine ⟨_, rfl, a, _, rfl, Dp.kt (kt_same s07) _ _ bk.tp hb, fb.sh, Nat.le_trans fb.dp (by decide), fb.nd, fb.fits (by decide), _, rfl, rfl, ?_⟩
    have e9 : decide (V.str bk.dat.shown = V.str bk.dat.shown) = true := decide_eq_true rfl
    rw [e9]
    exact k H7 s07
end
end My
set_option Elab.async false
set_option maxRecDepth 100000
set_option linter.all false
namespace My
open PySem L2
def BMx : Nat → Nat
  | 0 => 0
  | n + 1 => 2 * (1 + 2 * BMx n)
def XR (d l rm : Addr) (H H' : Hp) : Prop := ∀ b o, H b = some o → b ≠ d → b ≠ l → b ≠ rm → H' b = some o
theorem XR.refl {d l rm : Addr} {H : Hp} : XR d l rm H H := fun _ _ h _ _ _ => h
theorem XR.trans {d l rm : Addr} {H H1 H2 : Hp} (a : XR d l rm H H1) (b : XR d l rm H1 H2) : XR d l rm H H2 := fun c o h h1 h2 h3 => b c o (a c o h h1 h2 h3) h1 h2 h3
theorem xr_ext {d l rm : Addr} {H H' : Hp} (x : Ext d l H H') : XR d l rm H H' := fun b o h h1 h2 _ => x b o h h1 h2
theorem xr_put {d l rm : Addr} {H : Hp} {o : HO} : XR d l rm H (upd H rm o) := fun b u h _ _ h3 => by rw [upd_ne h3]; exact h
theorem kt_xr {d l rm : Addr} {H H' : Hp} {xs : List V} (x : XR d l rm H H') (D : Deal H d l) (g : H rm = some (.lst xs)) : KT H H' := fun b ys h => by
  have key : ∀ u, H b = some u → (∀ zs, u ≠ .lst zs) → (∀ kv, u ≠ .dK kv) → H' b = some u := fun u e n1 n2 => by
    obtain ⟨s, n, ls, h1, h2, _⟩ := D.ex
    refine x b u e (fun c => ?_) (fun c => ?_) (fun c => ?_)
    · rw [c, h1] at e; exact n2 _ (Option.some.inj e).symm
    · rw [c, h2] at e; exact n1 _ (Option.some.inj e).symm
    · rw [c, g] at e; exact n1 _ (Option.some.inj e).symm
  rcases h with h | ⟨o, h⟩
  · exact .inl (key _ h (fun _ e => nomatch e) (fun _ e => nomatch e))
  · exact .inr ⟨o, key _ h (fun _ e => nomatch e) (fun _ e => nomatch e)⟩
theorem Bl.snocX : ∀ (b : Bl) (s : Sm), (b.Gx → s.Gx → (b.snoc s).Gx) ∧ (b.snoc s).nest = max b.nest s.nest ∧ (b.snoc s).mr = b.mr + s.mr ∧ (b.snoc s).cnt = b.cnt + s.cnt
  | .nil, s => by
    refine ⟨fun _ h => ?_, ?_, ?_, ?_⟩
    · simp only [Bl.snoc, Bl.Gx]; exact ⟨h, trivial⟩
    · simp [Bl.snoc, Bl.nest]
    · simp [Bl.snoc, Bl.mr]
    · simp [Bl.snoc, Bl.cnt]
  | .cons t b, s => by
    obtain ⟨h1, h2, h3, h4⟩ := Bl.snocX b s
    refine ⟨fun h g => ?_, ?_, ?_, ?_⟩
    · simp only [Bl.Gx] at h
      simp only [Bl.snoc, Bl.Gx]
      exact ⟨h.1, h1 h.2 g⟩
    · simp only [Bl.snoc, Bl.nest, h2]; omega
    · simp only [Bl.snoc, Bl.mr, h3]; omega
    · simp only [Bl.snoc, Bl.cnt, h4]; omega
def spBare (K : PySem.W.Frag) (n : Nat) : Sp := fun vs H Q _ => ∃ (d l rm : Addr) (x : Str) (deep r0 r1 : Int), vs = [.ref d, .str x, .ref rm, .int deep] ∧ Deal H d l ∧ NmOk x ∧ H rm = some (.lst [.int r0, .int r1]) ∧ rm ≠ d ∧ rm ≠ l ∧ 0 ≤ deep ∧ deep ≤ 3 ∧ 4 ≤ deep + n ∧
  ∀ (v : V) (b : Bl) (H' : Hp) (s0 s1 : Int), Deal H' d l → XR d l rm H H' → H' rm = some (.lst [.int s0, .int s1]) → Dp K H' v (.tuple b.dats) → b.Gx → b.nest + deep.toNat ≤ 3 → b.mr ≤ BMx n → b.cnt ≤ BMx n → Q v H'
section
variable {P : Program} {w : World} {K : PySem.W.Frag} {mg : Str → Option Value} {base : Heap}
set_option maxHeartbeats 8000000 in
theorem ok_bare {f : Addr} {fd : FuncData} (n : Nat) (F : Fun K "_law_bare" "_law_bare" s_L_bare f fd) (Z : Zb mg) (G_L_draw : FnIn P w K mg base 1 "_law_draw" ps_L_draw spDraw) (G_L_bare : FnIn P w K mg base (n + 2) "_law_bare" ps_L_bare (spBare K n)) : FnOk P w K mg base CX0 (n + 3) f fd ps_L_bare (spBare K (n + 1)) := by
  refine F.ok sc_L_bare (fun vs H Q E h => ?_) (fun cdv A outer s H vs Q E hr h => ?_)
  · obtain ⟨d, l, rm, x, deep, r0, r1, rfl, _⟩ := h
    rfl
  · obtain ⟨d, l, rm, x, deep, r0, r1, rfl, D, hx, grm, nd, nl, d0, d3, hn, k⟩ := h
    refine ⟨_, (pss_cons (ps_set (i := 4) sc_L_bare.nd rfl (by first | exact Or.inl rfl | exact Or.inr rfl) (pe_lst pa_nil))
      (pss_cons (ps_for PassesOwn.never rfl (pi_range1 (by rfl) Z.range (pa_cons (pe_op op_mul (pe_fn G_L_draw hr rfl (pa_cons (pv 0) (pa_cons pe_int pa_nil))) (pe_callTy call_int1 (by rfl) Z.int (by decide +kernel) (pa_cons (pe_cmpR op_gt (pe_ix ix_list (pv 2) pe_int (fun _ _ => rfl)) pe_int (nomark _)) pa_nil))) pa_nil)) (pg_name (i := 5) sc_L_bare.nd rfl (by first | exact Or.inl rfl | exact Or.inr rfl)) (pss_cons (ps_asg (pe_op op_sub (pe_ix ix_list (pv 2) pe_int (fun _ _ => rfl)) pe_int) (pg_sub (pv 2) pe_int set_list))
      (pss_cons (ps_par (i := 6) (j := 7) (by rfl) sc_L_bare.nd rfl rfl (by decide) rfl rfl (pa_cons (pe_tup (pa_cons pe_str (pa_cons (pe_fn G_L_draw hr rfl (pa_cons (pv 0) (pa_cons pe_int pa_nil))) pa_nil))) (pa_cons (pe_fn G_L_draw hr rfl (pa_cons (pv 0) (pa_cons (pe_ix ix_list (pe_lst (pa_cons pe_int (pa_cons pe_int pa_nil))) (pe_callTy call_int1 (by rfl) Z.int (by decide +kernel) (pa_cons (pe_cmpR op_eq (pv 3) pe_int (nomark _)) pa_nil)) (fun _ _ => rfl)) pa_nil))) pa_nil)) (by rfl))
      (pss_one (ps_if (PW.pt (pw_or (pt_cmpR op_lt (pv 7) pe_int (nomark _)) (pw_or1 (PW.pt (pw_and (pt_cmpR op_eq (pv 7) pe_int (nomark _)) (pw_and1 (pt_cmpR op_eq (pe_ix ix_list (pv 2) pe_int (fun _ _ => rfl)) pe_int (nomark _)))))))) (pss_one (ps_expr (pe_bm PySem.F.plainAttrs_list PySem.F.slot_list_append PySem.F.type_list_append mt_append (pv 4) (pa_cons (pe_ix ix_list (pe_lst (pa_cons (pe_tup (pa_cons pe_str (pa_cons (pv 1) (pa_cons (pv 6) pa_nil)))) (pa_cons (pe_tup (pa_cons pe_str (pa_cons (pv 6) pa_nil))) pa_nil))) (pe_op op_mod (pv 7) pe_int) (fun _ _ => rfl)) pa_nil)))) (pss_one (ps_if (pt_cmpR op_eq (pv 7) pe_int (nomark _)) (pss_cons (ps_asg (pe_op op_sub (pe_ix ix_list (pv 2) pe_int (fun _ _ => rfl)) pe_int) (pg_sub (pv 2) pe_int set_list))
      (pss_one (ps_expr (pe_bm PySem.F.plainAttrs_list PySem.F.slot_list_append PySem.F.type_list_append mt_append (pv 4) (pa_cons (pe_tup (pa_cons pe_str (pa_cons (pv 1) (pa_cons (pe_tup (pa_cons (pe_tup (pa_cons (pv 6) (pa_cons (pv 6) pa_nil))) pa_nil)) pa_nil)))) pa_nil))))) (pss_one (ps_if (pt_cmpR op_eq (pv 7) pe_int (nomark _)) (pss_cons (ps_set (i := 8) sc_L_bare.nd rfl (by first | exact Or.inl rfl | exact Or.inr rfl) (pe_lst (pa_cons (pe_ix ix_list (pv 2) pe_int (fun _ _ => rfl)) (pa_cons pe_int pa_nil))))
      (pss_cons (ps_expr (pe_bm PySem.F.plainAttrs_list PySem.F.slot_list_append PySem.F.type_list_append mt_append (pv 4) (pa_cons (pe_tup (pa_cons pe_str (pa_cons (pe_op op_add pe_int (pe_fn G_L_draw hr rfl (pa_cons (pv 0) (pa_cons pe_int pa_nil)))) (pa_cons (pe_fn G_L_bare hr rfl (pa_cons (pv 0) (pa_cons (pv 1) (pa_cons (pv 8) (pa_cons (pe_op op_add (pv 3) pe_int) pa_nil))))) pa_nil)))) pa_nil)))
      (pss_one (ps_asg (pe_ix ix_list (pv 8) pe_int (fun _ _ => rfl)) (pg_sub (pv 2) pe_int set_list))))) (pss_cons (ps_set (i := 9) sc_L_bare.nd rfl (by first | exact Or.inl rfl | exact Or.inr rfl) (pe_fn G_L_bare hr rfl (pa_cons (pv 0) (pa_cons (pv 1) (pa_cons (pv 2) (pa_cons (pe_op op_add (pv 3) pe_int) pa_nil))))))
      (pss_one (ps_expr (pe_bm PySem.F.plainAttrs_list PySem.F.slot_list_append PySem.F.type_list_append mt_append (pv 4) (pa_cons (pe_tup (pa_cons pe_str (pa_cons (pv 6) (pa_cons (pv 9) (pa_cons (pe_fn G_L_bare hr rfl (pa_cons (pv 0) (pa_cons (pv 1) (pa_cons (pv 2) (pa_cons (pe_op op_add (pv 3) pe_int) pa_nil))))) pa_nil))))) pa_nil))))))))))))))
      (pss_one (ps_ret (pe_callTy call_tuple_of (by rfl) Z.tuple (by decide +kernel) (pa_cons (pv 4) pa_nil)))))), ?_⟩
    refine ⟨(by show 0 ≤ sizeLine; decide), fun p hp => ?_⟩
    have s0 := same_new hp (.lst [])
    have gp : upd H p (.lst []) p = some (.lst []) := upd_same
    have npd := D.nn hp
    have nprm : p ≠ rm := fun e => by rw [e, grm] at hp; cases hp
    have D1 := D.same s0
    have g1 := s0 _ _ grm
    dsimp only [gName]
    generalize upd H p (.lst []) = H1 at s0 gp D1 g1 ⊢
    refine ⟨_, rfl, d, l, 3, rfl, D1, by decide, by decide, fun rr H2 rr0 rr1 D2 x2 => ?_⟩
    have g2 := x2 _ _ g1 nd nl
    have gp2 := x2 _ _ gp npd.1 npd.2
    refine ⟨_, rfl, rm, _, _, .int r0, rfl, rfl, SqL.of g2, at_ofA (j := 0) rfl rfl, _, _, rfl, rfl, .inr ⟨_, rfl, ?_⟩⟩
    obtain ⟨m, em, m0, m2⟩ : ∃ m : Int, rr * (if decide (0 < r0) = true then 1 else 0) = m ∧ 0 ≤ m ∧ m ≤ 2 := by
      by_cases c : 0 < r0
      · exact ⟨rr, by rw [if_pos (decide_eq_true c), Int.mul_one], by omega, by omega⟩
      · exact ⟨0, by rw [if_neg (by simpa using c), Int.mul_zero], by omega, by omega⟩
    refine ⟨_, _, rfl, rfl, ?_, ?_⟩
    · unfold CMul
      split <;> omega
    refine ⟨m, congrArg (fun z => [V.int z]) em, by omega, by omega, ?_⟩
    have st2 : XR d l rm H H2 := (xr_ext ((Ext.ofSame s0).trans x2))
    refine for_range (lo := 0) (n := m.toNat) (fun i σ Hi => ∃ v5 v6 v7 v8 v9 vs, ∃ (b : Bl) (q0 q1 : Int), σ = [some (.ref d), some (.str x), some (.ref rm), some (.int deep), some (.ref p), v5, v6, v7, v8, v9] ∧ Deal Hi d l ∧ XR d l rm H Hi ∧ Hi rm = some (.lst [.int q0, .int q1]) ∧ Hi p = some (.lst vs) ∧ vs.length = i ∧ DpAll K Hi vs b.dats ∧ b.Gx ∧ b.nest + deep.toNat ≤ 3 ∧ b.mr ≤ i * (1 + 2 * BMx n) ∧ b.cnt ≤ i * (1 + 2 * BMx n))
      ⟨_, _, _, _, _, [], .nil, r0, r1, rfl, D2, st2, g2, gp2, rfl, by simp only [Bl.dats]; exact .nil, by simp only [Bl.Gx], by simp only [Bl.nest]; omega, by simp [Bl.mr], by simp [Bl.cnt]⟩ ?_ ?_
    · rintro i σ Hi hi ⟨v5, v6, v7, v8, v9, vs, b, q0, q1, rfl, Di, xi, gi, gpi, lv, db, hg, hne, hmr, hcn⟩
      dsimp only [gName]
      refine ⟨_, rfl, rm, _, _, .int q0, rfl, rfl, SqL.of gi, at_ofA (j := 0) rfl rfl, _, _, rfl, rfl, ?_⟩
      refine ⟨_, rfl, rm, _, 0, 0, rfl, rfl, gi, rfl, ?_⟩
      have D3 : Deal (upd Hi rm (.lst [.int (q0 - 1), .int q1])) d l := Di.put nd nl _
      have x3 : XR d l rm H (upd Hi rm (.lst [.int (q0 - 1), .int q1])) := xi.trans xr_put
      have g3 : upd Hi rm (.lst [.int (q0 - 1), .int q1]) rm = some (.lst [.int (q0 - 1), .int q1]) := upd_same
      have gp3 : upd Hi rm (.lst [.int (q0 - 1), .int q1]) p = some (.lst vs) := by rw [upd_ne nprm]; exact gpi
      have k3 := kt_lst gi (.lst [.int (q0 - 1), .int q1])
      change tSeq _ _ _ _ (upd Hi rm (.lst [.int (q0 - 1), .int q1]))
      generalize upd Hi rm (.lst [.int (q0 - 1), .int q1]) = H3 at D3 x3 g3 gp3 k3 ⊢
      refine ⟨_, rfl, d, l, 3, rfl, D3, by decide, by decide, fun rn H4 rn0 rn1 D4 x4 => ⟨(by show 2 ≤ sizeLine; decide), fun tn htn => ?_⟩⟩
      have g4 := x4 _ _ g3 nd nl
      have gp4 := x4 _ _ gp3 npd.1 npd.2
      have s5 := same_new htn (.tup [.str "num", .int rn])
      have gn : upd H4 tn (.tup [.str "num", .int rn]) tn = some (.tup [.str "num", .int rn]) := upd_same
      generalize upd H4 tn (.tup [.str "num", .int rn]) = H5 at s5 gn ⊢
      refine ⟨_, rfl, (by show 2 ≤ sizeLine; decide), fun tl htl => ?_⟩
      have s6 := same_new htl (.lst [.int 6, .int 3])
      have gl6 : upd H5 tl (.lst [.int 6, .int 3]) tl = some (.lst [.int 6, .int 3]) := upd_same
      generalize upd H5 tl (.lst [.int 6, .int 3]) = H6 at s6 gl6 ⊢
      have s46 := s5.trans s6
      have D6 := D4.same s46
      refine ⟨_, rfl, rfl, .inr ⟨_, rfl, ?_⟩⟩
      obtain ⟨c, hy, c3, c6, cd⟩ : ∃ c : Int, atI [V.int 6, V.int 3] (if decide (V.int deep = V.int 3) = true then 1 else 0) = some (.int c) ∧ 3 ≤ c ∧ c ≤ 6 ∧ (deep = 3 → c = 3) := by
        by_cases h : deep = 3
        · exact ⟨3, by rw [h, if_pos (decide_eq_true rfl)]; exact at_ofA (j := 1) rfl rfl, by decide, by decide, fun _ => rfl⟩
        · exact ⟨6, by rw [if_neg (by simpa using h)]; exact at_ofA (j := 0) rfl rfl, by decide, by decide, fun e => absurd e h⟩
      refine ⟨tl, _, _, _, rfl, rfl, SqL.of gl6, hy, ?_⟩
      refine ⟨d, l, c, rfl, D6, by omega, by omega, fun fm H7 fm0 fm1 D7 x7 => ?_⟩
      refine ⟨_, _, rfl, ?_⟩
      have g7 := x7 _ _ (s46 _ _ g4) nd nl
      have gp7 := x7 _ _ (s46 _ _ gp4) npd.1 npd.2
      have k37 := ((kt_ext x4 D3).trans (kt_same s46)).trans (kt_ext x7 D6)
      have gn7 := sqt_kt (SqT.of (s6 _ _ gn)) (kt_ext x7 D6) (K := K)
      have x17 : XR d l rm H H7 := ((x3.trans (xr_ext x4)).trans (xr_ext (Ext.ofSame s46))).trans (xr_ext x7)
      have db7 := Dp.ktAll (k3.trans k37) _ _ b.tp db
      have inum : IsE K H7 (.ref tn) (.num rn) := .tup gn7 (.cons (.str _) (.cons (.int _) .nil))
      have enum : eX (.num rn) := ⟨⟨by omega, by omega⟩, by simp [Ex.depth], by simp [Ex.parts]⟩
      have fin : ∀ (HX : Hp) (z : V) (sm : Sm) (u0 u1 : Int) (w5 w6 w7 w8 w9 : Option V), Deal HX d l → XR d l rm H HX → HX rm = some (.lst [.int u0, .int u1]) → HX p = some (.lst vs) → Dp K HX z sm.dat → DpAll K HX vs b.dats → sm.Gx → sm.nest + deep.toNat ≤ 3 → sm.mr ≤ 1 + 2 * BMx n → sm.cnt ≤ 1 + 2 * BMx n →
          ∃ v5 v6 v7 v8 v9 vs', ∃ (b : Bl) (q0 q1 : Int), [some (V.ref d), some (.str x), some (.ref rm), some (.int deep), some (.ref p), w5, w6, w7, w8, w9] = [some (V.ref d), some (.str x), some (.ref rm), some (.int deep), some (.ref p), v5, v6, v7, v8, v9] ∧ Deal (upd HX p (.lst (vs ++ [z]))) d l ∧ XR d l rm H (upd HX p (.lst (vs ++ [z]))) ∧ upd HX p (.lst (vs ++ [z])) rm = some (.lst [.int q0, .int q1]) ∧ upd HX p (.lst (vs ++ [z])) p = some (.lst vs') ∧ vs'.length = i + 1 ∧ DpAll K (upd HX p (.lst (vs ++ [z]))) vs' b.dats ∧ b.Gx ∧ b.nest + deep.toNat ≤ 3 ∧ b.mr ≤ (i + 1) * (1 + 2 * BMx n) ∧ b.cnt ≤ (i + 1) * (1 + 2 * BMx n) := fun HX z sm u0 u1 w5 w6 w7 w8 w9 DX XX gX gpX dz dv gxs nes mrs cns => by
        obtain ⟨g1', g2', g3', g4'⟩ := Bl.snocX b sm
        have kX := kt_lst gpX (.lst (vs ++ [z]))
        refine ⟨_, _, _, _, _, vs ++ [z], b.snoc sm, u0, u1, rfl, DX.put npd.1 npd.2 _, ?_, by rw [upd_ne (Ne.symm nprm)]; exact gX, upd_same, by simp [lv], ?_, g1' hg gxs, by omega, ?_, ?_⟩
        · intro b' o h h1 h2 h3
          rw [upd_ne (ne_of_none h hp)]
          exact XX b' o h h1 h2 h3
        · rw [Bl.dats_snoc]
          exact DpAll.app (Dp.ktAll kX _ _ b.tp dv) (.cons (Dp.kt kX _ _ (Sm.tp sm) dz) .nil)
        · rw [g3', Nat.succ_mul]; omega
        · rw [g4', Nat.succ_mul]; omega
      refine ⟨_, rfl, _, _, rfl, rfl, _, rfl, ite2 (fun c1 => ?_) (fun c1 => ?_)⟩
      · refine ⟨_, rfl, .inl ⟨rfl, _, SqL.of gp7⟩, _, rfl, _, rfl, (by show 3 ≤ sizeLine; decide), fun t1 ht1 => ?_⟩
        have s8 := same_new ht1 (.tup [.str "set", .str x, .ref tn])
        have h8 : upd H7 t1 (.tup [.str "set", .str x, .ref tn]) t1 = some (.tup [.str "set", .str x, .ref tn]) := upd_same
        generalize upd H7 t1 (.tup [.str "set", .str x, .ref tn]) = H8 at s8 h8 ⊢
        refine ⟨_, rfl, (by show 2 ≤ sizeLine; decide), fun t2 ht2 => ?_⟩
        have s9 := same_new ht2 (.tup [.str "see", .ref tn])
        have h9 : upd H8 t2 (.tup [.str "see", .ref tn]) t2 = some (.tup [.str "see", .ref tn]) := upd_same
        generalize upd H8 t2 (.tup [.str "see", .ref tn]) = H9 at s9 h9 ⊢
        refine ⟨(by show 2 ≤ sizeLine; decide), fun tL htL => ?_⟩
        have s10 := same_new htL (.lst [.ref t1, .ref t2])
        have h10 : upd H9 tL (.lst [.ref t1, .ref t2]) tL = some (.lst [.ref t1, .ref t2]) := upd_same
        generalize upd H9 tL (.lst [.ref t1, .ref t2]) = HA at s10 h10 ⊢
        obtain ⟨z, hz, mz⟩ := at_get (xs := [V.ref t1, .ref t2]) (r := fm % 2) (by omega) (by show fm % 2 < (2 : Int); omega)
        have s7A := (s8.trans s9).trans s10
        refine ⟨_, rfl, _, _, rfl, rfl, (by show (0 : Int) < 2; decide), tL, _, _, z, rfl, rfl, SqL.of h10, hz, p, _, _, rfl, rfl, s7A _ _ gp7, sz (m := 9) (by omega), ?_⟩
        have inA := inum.kt (kt_same s7A)
        have hsm : ∃ sm : Sm, Dp K HA z sm.dat ∧ sm.Gx ∧ sm.nest = 0 ∧ sm.mr = 1 ∧ sm.cnt = 1 := by
          simp only [List.mem_cons, List.not_mem_nil, or_false] at mz
          rcases mz with rfl | rfl
          · exact ⟨.set x (.num rn), by simp only [Sm.dat]; exact .tup (SqT.of ((s9.trans s10) _ _ h8)) (.cons (.str _) (.cons (.str _) (.cons inA .nil))), by simp only [Sm.Gx]; exact ⟨hx, enum⟩, by simp [Sm.nest], by simp [Sm.mr], by simp [Sm.cnt]⟩
          · exact ⟨.see (.num rn), by simp only [Sm.dat]; exact .tup (SqT.of (s10 _ _ h9)) (.cons (.str _) (.cons inA .nil)), by simp only [Sm.Gx]; exact enum, by simp [Sm.nest], by simp [Sm.mr], by simp [Sm.cnt]⟩
        obtain ⟨sm, dsm, gsm, nsm, msm, csm⟩ := hsm
        exact fin HA z sm (q0 - 1) q1 _ _ _ _ _ (D7.same s7A) (x17.trans (xr_ext (Ext.ofSame s7A))) (s7A _ _ g7) (s7A _ _ gp7) dsm (Dp.ktAll (kt_same s7A) _ _ b.tp db7) gsm (by omega) (by omega) (by omega)
      · refine ⟨_, rfl, rfl, _, rfl, ite2 (fun c2 => ?_) (fun c2 => ?_)⟩
        · refine ⟨_, rfl, rm, _, _, .int q1, rfl, rfl, SqL.of g7, at_ofA (j := 1) rfl rfl, rfl, _, rfl, ite2 (fun c3 => ?_) (fun c3 => ?_)⟩
          · refine ⟨_, rfl, .inl ⟨rfl, _, SqL.of gp7⟩, _, rfl, _, rfl, (by show 3 ≤ sizeLine; decide), fun t1 ht1 => ?_⟩
            have s8 := same_new ht1 (.tup [.str "set", .str x, .ref tn])
            have h8 : upd H7 t1 (.tup [.str "set", .str x, .ref tn]) t1 = some (.tup [.str "set", .str x, .ref tn]) := upd_same
            generalize upd H7 t1 (.tup [.str "set", .str x, .ref tn]) = H8 at s8 h8 ⊢
            refine ⟨_, rfl, (by show 2 ≤ sizeLine; decide), fun t2 ht2 => ?_⟩
            have s9 := same_new ht2 (.tup [.str "see", .ref tn])
            have h9 : upd H8 t2 (.tup [.str "see", .ref tn]) t2 = some (.tup [.str "see", .ref tn]) := upd_same
            generalize upd H8 t2 (.tup [.str "see", .ref tn]) = H9 at s9 h9 ⊢
            refine ⟨(by show 2 ≤ sizeLine; decide), fun tL htL => ?_⟩
            have s10 := same_new htL (.lst [.ref t1, .ref t2])
            have h10 : upd H9 tL (.lst [.ref t1, .ref t2]) tL = some (.lst [.ref t1, .ref t2]) := upd_same
            generalize upd H9 tL (.lst [.ref t1, .ref t2]) = HA at s10 h10 ⊢
            obtain ⟨z, hz, mz⟩ := at_get (xs := [V.ref t1, .ref t2]) (r := fm % 2) (by omega) (by show fm % 2 < (2 : Int); omega)
            have s7A := (s8.trans s9).trans s10
            refine ⟨_, rfl, _, _, rfl, rfl, (by show (0 : Int) < 2; decide), tL, _, _, z, rfl, rfl, SqL.of h10, hz, p, _, _, rfl, rfl, s7A _ _ gp7, sz (m := 9) (by omega), ?_⟩
            have inA := inum.kt (kt_same s7A)
            have hsm : ∃ sm : Sm, Dp K HA z sm.dat ∧ sm.Gx ∧ sm.nest = 0 ∧ sm.mr = 1 ∧ sm.cnt = 1 := by
              simp only [List.mem_cons, List.not_mem_nil, or_false] at mz
              rcases mz with rfl | rfl
              · exact ⟨.set x (.num rn), by simp only [Sm.dat]; exact .tup (SqT.of ((s9.trans s10) _ _ h8)) (.cons (.str _) (.cons (.str _) (.cons inA .nil))), by simp only [Sm.Gx]; exact ⟨hx, enum⟩, by simp [Sm.nest], by simp [Sm.mr], by simp [Sm.cnt]⟩
              · exact ⟨.see (.num rn), by simp only [Sm.dat]; exact .tup (SqT.of (s10 _ _ h9)) (.cons (.str _) (.cons inA .nil)), by simp only [Sm.Gx]; exact enum, by simp [Sm.nest], by simp [Sm.mr], by simp [Sm.cnt]⟩
            obtain ⟨sm, dsm, gsm, nsm, msm, csm⟩ := hsm
            exact fin HA z sm (q0 - 1) q1 _ _ _ _ _ (D7.same s7A) (x17.trans (xr_ext (Ext.ofSame s7A))) (s7A _ _ g7) (s7A _ _ gp7) dsm (Dp.ktAll (kt_same s7A) _ _ b.tp db7) gsm (by omega) (by omega) (by omega)
          · refine ⟨_, rfl, rfl, _, rfl, ite2 (fun c4 => ?_) (fun c4 => absurd c2 c4)⟩
            refine ⟨_, rfl, rm, _, _, .int q1, rfl, rfl, SqL.of g7, at_ofA (j := 1) rfl rfl, _, _, rfl, rfl, ?_⟩
            refine ⟨_, rfl, rm, _, 1, 1, rfl, rfl, g7, rfl, ?_⟩
            rw [show ([V.int (q0 - 1), V.int q1].set 1 ((fun i j => V.int (i - j)) q1 1)) = [.int (q0 - 1), .int (q1 - 1)] from rfl]
            have D8 : Deal (upd H7 rm (.lst [.int (q0 - 1), .int (q1 - 1)])) d l := D7.put nd nl _
            have x8 : XR d l rm H (upd H7 rm (.lst [.int (q0 - 1), .int (q1 - 1)])) := x17.trans xr_put
            have g8 : upd H7 rm (.lst [.int (q0 - 1), .int (q1 - 1)]) rm = some (.lst [.int (q0 - 1), .int (q1 - 1)]) := upd_same
            have gp8 : upd H7 rm (.lst [.int (q0 - 1), .int (q1 - 1)]) p = some (.lst vs) := by rw [upd_ne nprm]; exact gp7
            have k8 := kt_lst g7 (.lst [.int (q0 - 1), .int (q1 - 1)])
            generalize upd H7 rm (.lst [.int (q0 - 1), .int (q1 - 1)]) = H8 at D8 x8 g8 gp8 k8 ⊢
            refine ⟨_, rfl, .inl ⟨rfl, _, SqL.of gp8⟩, _, rfl, _, rfl, _, rfl, (by show 2 ≤ sizeLine; decide), fun ta hta => ?_⟩
            have s9 := same_new hta (.tup [.ref tn, .ref tn])
            have h9 : upd H8 ta (.tup [.ref tn, .ref tn]) ta = some (.tup [.ref tn, .ref tn]) := upd_same
            generalize upd H8 ta (.tup [.ref tn, .ref tn]) = H9 at s9 h9 ⊢
            refine ⟨(by show 1 ≤ sizeLine; decide), fun tb htb => ?_⟩
            have s10 := same_new htb (.tup [.ref ta])
            have h10 : upd H9 tb (.tup [.ref ta]) tb = some (.tup [.ref ta]) := upd_same
            generalize upd H9 tb (.tup [.ref ta]) = HA at s10 h10 ⊢
            refine ⟨(by show 3 ≤ sizeLine; decide), fun tc htc => ?_⟩
            have s11 := same_new htc (.tup [.str "draw", .str x, .ref tb])
            have h11 : upd HA tc (.tup [.str "draw", .str x, .ref tb]) tc = some (.tup [.str "draw", .str x, .ref tb]) := upd_same
            generalize upd HA tc (.tup [.str "draw", .str x, .ref tb]) = HB at s11 h11 ⊢
            have s8B := (s9.trans s10).trans s11
            refine ⟨p, _, _, rfl, rfl, s8B _ _ gp8, sz (m := 9) (by omega), ?_⟩
            have inB := (inum.kt k8).kt (kt_same s8B)
            have dsm : Dp K HB (.ref tc) (Sm.draw x [(.num rn, .num rn)]).dat := by
              simp only [Sm.dat]
              exact .tup (SqT.of h11) (.cons (.str _) (.cons (.str _) (.cons (.tup (SqT.of (s11 _ _ h10)) (.cons (.tup (SqT.of ((s10.trans s11) _ _ h9)) (.cons inB (.cons inB .nil))) .nil)) .nil)))
            exact fin HB (.ref tc) (.draw x [(.num rn, .num rn)]) (q0 - 1) (q1 - 1) _ _ _ _ _ (D8.same s8B) (x8.trans (xr_ext (Ext.ofSame s8B))) (s8B _ _ g8) (s8B _ _ gp8) dsm (Dp.ktAll (k8.trans (kt_same s8B)) _ _ b.tp db7) (by simp only [Sm.Gx]; exact ⟨hx, by simp, fun a ha => by rw [List.mem_singleton.mp ha]; exact ⟨enum, enum⟩⟩) (by simp only [Sm.nest]; omega) (by simp only [Sm.mr]; omega) (by simp only [Sm.cnt]; omega)
        · refine iteF ?_
          refine ⟨_, rfl, rfl, _, rfl, ite2 (fun c4 => absurd c4 c2) (fun c4 => ?_)⟩
          refine ⟨_, rfl, rfl, _, rfl, ite2 (fun c5 => ?_) (fun c5 => ?_)⟩
          · have ef : fm = 3 := V.int.inj (of_decide_eq_true c5)
            have dlt : deep ≤ 2 := by
              by_cases h : deep = 3
              · have := cd h; omega
              · omega
            refine ⟨_, rfl, rm, _, _, .int (q0 - 1), rfl, rfl, SqL.of g7, at_ofA (j := 0) rfl rfl, (by show 2 ≤ sizeLine; decide), fun ri hri => ?_⟩
            have s8 := same_new hri (.lst [.int (q0 - 1), .int 0])
            have h8 : upd H7 ri (.lst [.int (q0 - 1), .int 0]) ri = some (.lst [.int (q0 - 1), .int 0]) := upd_same
            have nri := D7.nn hri
            have nrirm : ri ≠ rm := fun e => by rw [e, g7] at hri; cases hri
            have nrip : ri ≠ p := fun e => by rw [e, gp7] at hri; cases hri
            have hriH : H ri = none := by
              cases e : H ri with
              | none => rfl
              | some o => rw [x17 ri o e nri.1 nri.2 nrirm] at hri; cases hri
            have D8 := D7.same s8
            dsimp only [gName]
            generalize upd H7 ri (.lst [.int (q0 - 1), .int 0]) = H8 at s8 h8 D8 ⊢
            have g8 := s8 _ _ g7
            have gp8 := s8 _ _ gp7
            refine ⟨_, rfl, .inl ⟨rfl, _, SqL.of gp8⟩, _, rfl, d, l, 2, rfl, D8, by decide, by decide, fun r2 H9 r20 r21 D9 x9 => ?_⟩
            have h9 := x9 _ _ h8 nri.1 nri.2
            have g9 := x9 _ _ g8 nd nl
            have gp9 := x9 _ _ gp8 npd.1 npd.2
            refine ⟨_, _, rfl, rfl, _, rfl, _, rfl, _, rfl, _, rfl, _, _, rfl, rfl, d, l, ri, x, deep + 1, q0 - 1, 0, rfl, D9, hx, h9, nri.1, nri.2, by omega, by omega, by omega, fun v1 b1 H10 u0 u1 D10 x10 h10 dv1 gb1 nb1 mb1 cb1 => ?_⟩
            have g10 := x10 _ _ g9 nd nl (Ne.symm nrirm)
            have gp10 := x10 _ _ gp9 npd.1 npd.2 (Ne.symm nrip)
            have k910 := kt_xr x10 D9 h9
            refine ⟨(by show 3 ≤ sizeLine; decide), fun tc htc => ?_⟩
            have s11 := same_new htc (.tup [.str "times", .int (1 + r2), v1])
            have h11 : upd H10 tc (.tup [.str "times", .int (1 + r2), v1]) tc = some (.tup [.str "times", .int (1 + r2), v1]) := upd_same
            generalize upd H10 tc (.tup [.str "times", .int (1 + r2), v1]) = HB at s11 h11 ⊢
            refine ⟨p, _, _, rfl, rfl, s11 _ _ gp10, sz (m := 9) (by omega), ?_⟩
            have dsm : Dp K HB (.ref tc) (Sm.times (1 + r2) b1).dat := by
              simp only [Sm.dat]
              exact .tup (SqT.of h11) (.cons (.str _) (.cons (.int _) (.cons (Dp.kt (kt_same s11) _ _ (.tup b1.tp) dv1) .nil)))
            have xB : XR d l rm H HB := by
              intro b' o h e1 e2 e3
              have h1 := x9 _ _ (s8 _ _ (x17 b' o h e1 e2 e3)) e1 e2
              exact s11 _ _ (x10 _ _ h1 e1 e2 (ne_of_none h hriH))
            have dbB := Dp.ktAll ((kt_same s8).trans ((kt_ext x9 D8).trans (k910.trans (kt_same s11)))) _ _ b.tp db7
            have hmb : (1 + r2).toNat * b1.mr ≤ 1 + 2 * BMx n := by
              have := Nat.mul_le_mul (show (1 + r2).toNat ≤ 2 by omega) mb1
              omega
            obtain ⟨w5, w6, w7, w8, w9, vs', b', p0, p1, e', D', X', g', gp', lv', dv', gb', nb', mb', cb'⟩ := fin HB (.ref tc) (.times (1 + r2) b1) (q0 - 1) q1 (some (.int (0 + (i : Nat)))) (some (.ref tn)) (some (.int fm)) (some (.ref ri)) v9 (D10.same s11) xB (s11 _ _ g10) (s11 _ _ gp10) dsm dbB (by simp only [Sm.Gx]; exact ⟨by omega, gb1⟩) (by simp only [Sm.nest]; omega) (by simp only [Sm.mr]; exact hmb) (by simp only [Sm.cnt]; omega)
            have hri' : upd HB p (.lst (vs ++ [.ref tc])) ri = some (.lst [.int u0, .int u1]) := by rw [upd_ne nrip]; exact s11 _ _ h10
            have grm' : upd HB p (.lst (vs ++ [.ref tc])) rm = some (.lst [.int (q0 - 1), .int q1]) := by rw [upd_ne (Ne.symm nprm)]; exact s11 _ _ g10
            generalize upd HB p (.lst (vs ++ [.ref tc])) = HC at D' X' g' gp' dv' hri' grm' ⊢
            refine ⟨_, rfl, ri, _, _, .int u0, rfl, rfl, SqL.of hri', at_ofA (j := 0) rfl rfl, _, rfl, rm, _, 0, 0, rfl, rfl, grm', rfl, ?_⟩
            have kC := kt_lst grm' (.lst [.int u0, .int q1])
            exact ⟨_, _, _, _, _, vs', b', u0, q1, rfl, D'.put nd nl _, X'.trans xr_put, upd_same, by rw [upd_ne nprm]; exact gp', lv', Dp.ktAll kC _ _ b'.tp dv', gb', nb', mb', cb'⟩
          · have dlt : deep ≤ 2 := by
              have f3 : fm ≠ 3 := fun e => c5 (by rw [e]; exact decide_eq_true rfl)
              have f2 : fm ≠ 2 := fun e => c2 (by rw [e]; exact decide_eq_true rfl)
              have f1 : ¬ fm < 2 := fun e => c1 (decide_eq_true e)
              by_cases h : deep = 3
              · have := cd h; omega
              · omega
            refine ⟨_, rfl, _, rfl, _, rfl, _, rfl, _, _, rfl, rfl, d, l, rm, x, deep + 1, q0 - 1, q1, rfl, D7, hx, g7, nd, nl, by omega, by omega, by omega, fun v1 b1 H8 u0 u1 D8 x8 g8 dv1 gb1 nb1 mb1 cb1 => ?_⟩
            have k78 := kt_xr x8 D7 g7
            have gp8 := x8 _ _ gp7 npd.1 npd.2 nprm
            dsimp only [gName]
            refine ⟨_, rfl, .inl ⟨rfl, _, SqL.of gp8⟩, _, rfl, _, rfl, _, rfl, _, rfl, _, rfl, _, rfl, _, _, rfl, rfl, d, l, rm, x, deep + 1, u0, u1, rfl, D8, hx, g8, nd, nl, by omega, by omega, by omega, fun v2 b2 H9 w0 w1 D9 x9 g9 dv2 gb2 nb2 mb2 cb2 => ⟨(by show 4 ≤ sizeLine; decide), fun tc htc => ?_⟩⟩
            have k89 := kt_xr x9 D8 g8
            have gp9 := x9 _ _ gp8 npd.1 npd.2 nprm
            have s10 := same_new htc (.tup [.str "if", .ref tn, v1, v2])
            have h10 : upd H9 tc (.tup [.str "if", .ref tn, v1, v2]) tc = some (.tup [.str "if", .ref tn, v1, v2]) := upd_same
            generalize upd H9 tc (.tup [.str "if", .ref tn, v1, v2]) = HA at s10 h10 ⊢
            refine ⟨p, _, _, rfl, rfl, s10 _ _ gp9, sz (m := 9) (by omega), ?_⟩
            have k7A := k78.trans (k89.trans (kt_same s10))
            have dsm : Dp K HA (.ref tc) (Sm.ite (.num rn) b1 b2).dat := by
              simp only [Sm.dat]
              exact .tup (SqT.of h10) (.cons (.str _) (.cons (inum.kt k7A) (.cons (Dp.kt (k89.trans (kt_same s10)) _ _ (.tup b1.tp) dv1) (.cons (Dp.kt (kt_same s10) _ _ (.tup b2.tp) dv2) .nil))))
            exact fin HA (.ref tc) (.ite (.num rn) b1 b2) w0 w1 _ _ _ _ _ (D9.same s10) (((x17.trans x8).trans x9).trans (xr_ext (Ext.ofSame s10))) (s10 _ _ g9) (s10 _ _ gp9) dsm (Dp.ktAll k7A _ _ b.tp db7) (by simp only [Sm.Gx]; exact ⟨enum, gb1, gb2⟩) (by simp only [Sm.nest]; omega) (by simp only [Sm.mr]; omega) (by simp only [Sm.cnt]; omega)
    · rintro σ Hi ⟨v5, v6, v7, v8, v9, vs, b, q0, q1, rfl, Di, xi, gi, gpi, lv, db, hg, hne, hmr, hcn⟩
      refine ⟨_, rfl, p, _, rfl, .inl ⟨SqL.of gpi, fun t ht => ?_⟩⟩
      have s9 := same_new ht (.tup vs)
      have e : m.toNat * (1 + 2 * BMx n) ≤ BMx (n + 1) := Nat.mul_le_mul_right _ (by omega)
      exact k _ b _ q0 q1 (Di.same s9) (xi.trans (xr_ext (Ext.ofSame s9))) (s9 _ _ gi) (.tup (SqT.of upd_same) (Dp.ktAll (kt_same s9) _ _ b.tp db)) hg hne (Nat.le_trans hmr e) (Nat.le_trans hcn e)
end
section
variable {P : Program} {w : World} {K : PySem.W.Frag} {mg : Str → Option Value} {base : Heap}
theorem rec_bare {f : Addr} {fd : FuncData} (F : Fun K "_law_bare" "_law_bare" s_L_bare f fd) (hm : mg "_law_bare" = some (.ref f)) (hb : Binds K fd ps_L_bare []) (Z : Zb mg) (G_L_draw : FnIn P w K mg base 1 "_law_draw" ps_L_draw spDraw) :
    ∀ n : Nat, FnIn P w K mg base (n + 2) "_law_bare" ps_L_bare (spBare K n)
  | 0 => by
    have no : ∀ vs H Q E, ¬ spBare K 0 vs H Q E := fun vs H Q E h => by
      obtain ⟨_, _, _, _, deep, _, _, _, _, _, _, _, _, _, h1, h2, _⟩ := h
      omega
    exact ⟨f, fd, ⟨fun vs H Q E h => absurd h (no vs H Q E), fun A outer s H args us vs Q E _ _ _ _ h => absurd h (no vs H Q E)⟩, hm, F.kp, hb⟩
  | n + 1 => ⟨f, fd, ok_bare n F Z G_L_draw (rec_bare F hm hb Z G_L_draw n), hm, F.kp, hb⟩
end
end My
set_option Elab.async false
set_option maxRecDepth 100000
set_option linter.all false
namespace My
open PySem L2
def Bl.ofL : List Sm → Bl
  | [] => .nil
  | s :: r => .cons s (Bl.ofL r)
theorem Bl.ofL_toL : ∀ ss : List Sm, (Bl.ofL ss).toL = ss
  | [] => by simp [Bl.ofL, Bl.toL]
  | s :: r => by simp [Bl.ofL, Bl.toL, Bl.ofL_toL r]
theorem Bl.ofL_dats (ss : List Sm) : (Bl.ofL ss).dats = ss.map Sm.dat := by rw [Bl.dats_toL, Bl.ofL_toL]
theorem Bl.ofL_mr (ss : List Sm) : (Bl.ofL ss).mr = mrL ss := by rw [Bl.mr_toL, Bl.ofL_toL]
/-- a statement by its sizes -/
structure SmB (n m c : Nat) (s : Sm) : Prop where
  g : s.Gx
  n : s.nest ≤ n
  m : s.mr ≤ m
  c : s.cnt ≤ c
theorem SmB.mono {n m c n' m' c' : Nat} {s : Sm} (h : SmB n m c s) (h1 : n ≤ n') (h2 : m ≤ m') (h3 : c ≤ c') : SmB n' m' c' s := ⟨h.g, Nat.le_trans h.n h1, Nat.le_trans h.m h2, Nat.le_trans h.c h3⟩
theorem Bl.ofL_ok {n m c : Nat} : ∀ {ss : List Sm}, (∀ s ∈ ss, SmB n m c s) → (Bl.ofL ss).Gx ∧ (Bl.ofL ss).nest ≤ n ∧ (Bl.ofL ss).mr ≤ ss.length * m ∧ (Bl.ofL ss).cnt ≤ ss.length * c
  | [], _ => by simp [Bl.ofL, Bl.Gx, Bl.nest, Bl.mr, Bl.cnt]
  | s :: r, h => by
    obtain ⟨h1, h2, h3, h4⟩ := Bl.ofL_ok (n := n) (m := m) (c := c) (ss := r) fun s hs => h s (by simp [hs])
    have q := h s (by simp)
    refine ⟨?_, ?_, ?_, ?_⟩
    · simp only [Bl.ofL, Bl.Gx]; exact ⟨q.g, h1⟩
    · simp only [Bl.ofL, Bl.nest]; have := q.n; omega
    · simp only [Bl.ofL, Bl.mr, List.length_cons, Nat.succ_mul]; have := q.m; omega
    · simp only [Bl.ofL, Bl.cnt, List.length_cons, Nat.succ_mul]; have := q.c; omega
theorem eX_num {r : Int} (h0 : 0 ≤ r) (h : r ≤ 999) : eX (.num r) := ⟨⟨h0, h⟩, by simp [Ex.depth], by simp [Ex.parts]⟩
theorem smB_set {x : Str} {e : Ex} (hx : NmOk x) (he : eX e) : SmB 0 1 1 (.set x e) := ⟨by simp only [Sm.Gx]; exact ⟨hx, he⟩, by simp [Sm.nest], by simp [Sm.mr], by simp [Sm.cnt]⟩
theorem smB_see {e : Ex} (he : eX e) : SmB 0 1 1 (.see e) := ⟨by simp only [Sm.Gx]; exact he, by simp [Sm.nest], by simp [Sm.mr], by simp [Sm.cnt]⟩
theorem smB_times {n m c : Nat} {k : Int} {ss : List Sm} (hk : 1 ≤ k ∧ k ≤ 100) (h : ∀ s ∈ ss, SmB n m c s) : SmB (n + 1) (k.toNat * (ss.length * m)) (1 + ss.length * c) (.times k (Bl.ofL ss)) := by
  obtain ⟨h1, h2, h3, h4⟩ := Bl.ofL_ok h
  exact ⟨by simp only [Sm.Gx]; exact ⟨hk, h1⟩, by simp only [Sm.nest]; omega, by simp only [Sm.mr]; exact Nat.mul_le_mul_left _ h3, by simp only [Sm.cnt]; omega⟩
theorem smB_ite {n m c : Nat} {e : Ex} {ss ts : List Sm} (he : eX e) (h : ∀ s ∈ ss, SmB n m c s) (h' : ∀ s ∈ ts, SmB n m c s) : SmB (n + 1) (1 + ss.length * m + ts.length * m) (1 + ss.length * c + ts.length * c) (.ite e (Bl.ofL ss) (Bl.ofL ts)) := by
  obtain ⟨h1, h2, h3, h4⟩ := Bl.ofL_ok h
  obtain ⟨g1, g2, g3, g4⟩ := Bl.ofL_ok h'
  exact ⟨by simp only [Sm.Gx]; exact ⟨he, h1, g1⟩, by simp only [Sm.nest]; omega, by simp only [Sm.mr]; omega, by simp only [Sm.cnt]; omega⟩
theorem AreS.tup {K : PySem.W.Frag} {H : Hp} {a : Addr} {vs : List V} {ss : List Sm} (hs : SqT K H a vs) (h : AreS K H vs ss) : Dp K H (.ref a) (.tuple (Bl.ofL ss).dats) := by
  rw [Bl.ofL_dats]
  exact .tup hs h
theorem dp_times {K : PySem.W.Frag} {H : Hp} {t : Addr} {k : Int} {v : V} {b : Bl} (h : H t = some (.tup [.str "times", .int k, v])) (hv : Dp K H v (.tuple b.dats)) : Dp K H (.ref t) (Sm.times k b).dat := by
  simp only [Sm.dat]
  exact .tup (SqT.of h) (.cons (.str _) (.cons (.int _) (.cons hv .nil)))
theorem dp_ite {K : PySem.W.Frag} {H : Hp} {t : Addr} {e : Ex} {ve v u : V} {b c : Bl} (h : H t = some (.tup [.str "if", ve, v, u])) (he : IsE K H ve e) (hv : Dp K H v (.tuple b.dats)) (hu : Dp K H u (.tuple c.dats)) : Dp K H (.ref t) (Sm.ite e b c).dat := by
  simp only [Sm.dat]
  exact .tup (SqT.of h) (.cons (.str _) (.cons he (.cons hv (.cons hu .nil))))
theorem dp_set {K : PySem.W.Frag} {H : Hp} {t : Addr} {x : Str} {e : Ex} {ve : V} (h : H t = some (.tup [.str "set", .str x, ve])) (he : IsE K H ve e) : Dp K H (.ref t) (Sm.set x e).dat := by
  simp only [Sm.dat]
  exact .tup (SqT.of h) (.cons (.str _) (.cons (.str _) (.cons he .nil)))
theorem dp_see {K : PySem.W.Frag} {H : Hp} {t : Addr} {e : Ex} {ve : V} (h : H t = some (.tup [.str "see", ve])) (he : IsE K H ve e) : Dp K H (.ref t) (Sm.see e).dat := by
  simp only [Sm.dat]
  exact .tup (SqT.of h) (.cons (.str _) (.cons he .nil))
def spLW (K : PySem.W.Frag) : Sp := fun vs H Q _ => ∃ (d l : Addr) (x : Str), vs = [.ref d, .str x] ∧ Deal H d l ∧ NmOk x ∧
  ∀ (v : V) (b : Bl) (H' : Hp), Deal H' d l → Ext d l H H' → Dp K H' v (.tuple b.dats) → b.Gx → b.nest ≤ 3 → b.mr ≤ 600 → b.cnt ≤ 400 → Q v H'
theorem AreS.dir {K : PySem.W.Frag} {H : Hp} {vs ys : List V} {ss : List Sm} (h : AreS K H vs ss) (e : ys = vs ∨ ys = vs.reverse) : ∃ ts, AreS K H ys ts ∧ (∀ s ∈ ts, s ∈ ss) ∧ ts.length = ss.length := by
  rcases e with rfl | rfl
  · exact ⟨ss, h, fun _ h => h, rfl⟩
  · refine ⟨ss.reverse, ?_, fun s hs => by simpa using hs, by simp⟩
    show DpAll K H _ (ss.reverse.map Sm.dat)
    rw [List.map_reverse]
    exact DpAll.rev h
theorem all_rep {α : Type} {P : α → Prop} {xs : List α} {n : Nat} (h : ∀ x ∈ xs, P x) : ∀ x ∈ (List.replicate n xs).flatten, P x := fun x hx => by
  obtain ⟨l, hl, hx⟩ := List.mem_flatten.mp hx
  rw [(List.mem_replicate.mp hl).2] at hx
  exact h x hx
section
variable {P : Program} {w : World} {K : PySem.W.Frag} {mg : Str → Option Value} {base : Heap}
set_option maxHeartbeats 8000000 in
theorem ok_long {f : Addr} {fd : FuncData} (F : Fun K "_law_long" "_law_long" s_L_long f fd) (Z : Zb mg) (G_L_draw : FnIn P w K mg base 1 "_law_draw" ps_L_draw spDraw) : FnOk P w K mg base CX0 2 f fd ps_L_long (spLW K) := by
  refine F.ok sc_L_long (fun vs H Q E h => ?_) (fun cdv A outer s H vs Q E hr h => ?_)
  · obtain ⟨d, l, x, rfl, _⟩ := h
    rfl
  · obtain ⟨d, l, x, rfl, D, hx, k⟩ := h
    refine ⟨_, (pss_cons (ps_set (i := 2) sc_L_long.nd rfl (by first | exact Or.inl rfl | exact Or.inr rfl) (pe_lst (pa_cons (pe_tup (pa_cons pe_str (pa_cons (pv 1) (pa_cons (pe_tup (pa_cons pe_str (pa_cons (pe_fn G_L_draw hr rfl (pa_cons (pv 0) (pa_cons pe_int pa_nil))) pa_nil))) pa_nil)))) (pa_cons (pe_tup (pa_cons pe_str (pa_cons (pe_tup (pa_cons pe_str (pa_cons (pe_fn G_L_draw hr rfl (pa_cons (pv 0) (pa_cons pe_int pa_nil))) pa_nil))) pa_nil))) pa_nil))))
      (pss_cons (ps_set (i := 3) sc_L_long.nd rfl (by first | exact Or.inl rfl | exact Or.inr rfl) (pe_op op_sub pe_int (pe_op op_mul pe_int (pe_fn G_L_draw hr rfl (pa_cons (pv 0) (pa_cons pe_int pa_nil))))))
      (pss_cons (ps_set (i := 4) sc_L_long.nd rfl (by first | exact Or.inl rfl | exact Or.inr rfl) (pe_tup (pa_cons pe_str (pa_cons pe_int (pa_cons (pe_callTy call_tuple_of (by rfl) Z.tuple (by decide +kernel) (pa_cons (pe_op op_cat (pe_stepU (pv 2) (pv 3)) (pv 2)) pa_nil)) pa_nil)))))
      (pss_cons (ps_set (i := 5) sc_L_long.nd rfl (by first | exact Or.inl rfl | exact Or.inr rfl) (pe_tup (pa_cons pe_str (pa_cons pe_int (pa_cons (pe_stepUT (pe_tup (pa_cons (pe_ix ix_list (pv 2) pe_int (fun _ _ => rfl)) (pa_cons (pv 4) (pa_cons (pe_tup (pa_cons pe_str (pa_cons (pe_ix ix_tup (pe_ix ix_list (pv 2) pe_int (fun _ _ => rfl)) pe_int (fun _ _ => rfl)) (pa_cons (pe_tup (pa_cons (pe_ix ix_list (pv 2) pe_int (fun _ _ => rfl)) pa_nil)) (pa_cons (pe_tup pa_nil) pa_nil))))) pa_nil)))) (pv 3)) pa_nil)))))
      (pss_cons (ps_set (i := 6) sc_L_long.nd rfl (by first | exact Or.inl rfl | exact Or.inr rfl) (pe_tup (pa_cons pe_str (pa_cons (pe_op op_add pe_int (pe_fn G_L_draw hr rfl (pa_cons (pv 0) (pa_cons pe_int pa_nil)))) (pa_cons (pe_tup (pa_cons (pv 5) pa_nil)) pa_nil)))))
      (pss_one (ps_ret (pe_op op_catS (pe_op op_catS (pe_op op_repN (pe_tup (pa_cons (pe_ix ix_list (pv 2) pe_int (fun _ _ => rfl)) pa_nil)) (pe_fn G_L_draw hr rfl (pa_cons (pv 0) (pa_cons pe_int pa_nil)))) (pe_tup (pa_cons (pv 6) pa_nil))) (pe_op op_repN (pe_tup (pa_cons (pe_ix ix_list (pv 2) pe_int (fun _ _ => rfl)) pa_nil)) (pe_fn G_L_draw hr rfl (pa_cons (pv 0) (pa_cons pe_int pa_nil)))))))))))), ?_⟩
    refine ⟨_, rfl, _, rfl, d, l, 3, rfl, D, by decide, by decide, fun r1 H1 r10 r11 D1 x1 => ⟨(by show 2 ≤ sizeLine; decide), fun t1 ht1 => ?_⟩⟩
    have s1 := same_new ht1 (.tup [.str "num", .int r1])
    have g1 : upd H1 t1 (.tup [.str "num", .int r1]) t1 = some (.tup [.str "num", .int r1]) := upd_same
    generalize upd H1 t1 (.tup [.str "num", .int r1]) = H2 at s1 g1 ⊢
    refine ⟨(by show 3 ≤ sizeLine; decide), fun t2 ht2 => ?_⟩
    have s2 := same_new ht2 (.tup [.str "set", .str x, .ref t1])
    have g2 : upd H2 t2 (.tup [.str "set", .str x, .ref t1]) t2 = some (.tup [.str "set", .str x, .ref t1]) := upd_same
    generalize upd H2 t2 (.tup [.str "set", .str x, .ref t1]) = H3 at s2 g2 ⊢
    have D3 := (D1.same s1).same s2
    have x03 := (x1.trans (Ext.ofSame s1)).trans (Ext.ofSame s2)
    have d0 : Dp K H3 (.ref t2) (Sm.set x (.num r1)).dat := dp_set g2 (isE_num (s2 _ _ g1))
    refine ⟨_, rfl, d, l, 3, rfl, D3, by decide, by decide, fun r2 H4 r20 r21 D4 x4 => ⟨(by show 2 ≤ sizeLine; decide), fun t3 ht3 => ?_⟩⟩
    have s5 := same_new ht3 (.tup [.str "num", .int r2])
    have g3 : upd H4 t3 (.tup [.str "num", .int r2]) t3 = some (.tup [.str "num", .int r2]) := upd_same
    generalize upd H4 t3 (.tup [.str "num", .int r2]) = H5 at s5 g3 ⊢
    refine ⟨(by show 2 ≤ sizeLine; decide), fun t4 ht4 => ?_⟩
    have s6 := same_new ht4 (.tup [.str "see", .ref t3])
    have g4 : upd H5 t4 (.tup [.str "see", .ref t3]) t4 = some (.tup [.str "see", .ref t3]) := upd_same
    generalize upd H5 t4 (.tup [.str "see", .ref t3]) = H6 at s6 g4 ⊢
    have d1 : Dp K H6 (.ref t4) (Sm.see (.num r2)).dat := dp_see g4 (isE_num (s6 _ _ g3))
    have k36 := (kt_ext x4 D3).trans ((kt_same s5).trans (kt_same s6))
    have d0 := Dp.kt k36 _ _ (Sm.tp _) d0
    have D6 := (D4.same s5).same s6
    have x06 := ((x03.trans x4).trans (Ext.ofSame s5)).trans (Ext.ofSame s6)
    refine ⟨(by show 2 ≤ sizeLine; decide), fun q hq => ?_⟩
    have s7 := same_new hq (.lst [.ref t2, .ref t4])
    have gq : upd H6 q (.lst [.ref t2, .ref t4]) q = some (.lst [.ref t2, .ref t4]) := upd_same
    obtain ⟨nqd, nql⟩ := D6.nn hq
    generalize upd H6 q (.lst [.ref t2, .ref t4]) = H7 at s7 gq ⊢
    have D7 := D6.same s7
    have as : AreS K H7 [.ref t2, .ref t4] [.set x (.num r1), .see (.num r2)] := .cons (Dp.kt (kt_same s7) _ _ (Sm.tp _) d0) (.cons (Dp.kt (kt_same s7) _ _ (Sm.tp _) d1) .nil)
    have is3 : SqT K H7 t3 [.str "num", .int r2] := SqT.of (s7 _ _ (s6 _ _ g3))
    have g47 : H7 t4 = some (.tup [.str "see", .ref t3]) := s7 _ _ g4
    have x07 := x06.trans (Ext.ofSame s7)
    have b0 : SmB 0 1 1 (.set x (.num r1)) := smB_set hx (eX_num r10 (by omega))
    have b1 : SmB 0 1 1 (.see (.num r2)) := smB_see (eX_num r20 (by omega))
    have ball : ∀ s ∈ [Sm.set x (.num r1), .see (.num r2)], SmB 0 1 1 s := fun s hs => by
      simp only [List.mem_cons, List.not_mem_nil, or_false] at hs
      rcases hs with rfl | rfl
      · exact b0
      · exact b1
    clear d0 d1 s1 s2 s5 s6 x1 x4 x03 x06 D1 D3 D4 D6
    dsimp only [gName]
    -- turn
    refine ⟨_, rfl, d, l, 2, rfl, D7, by decide, by decide, fun r3 H8 r30 r31 D8 x8 => ⟨_, _, rfl, rfl, .inl ⟨by decide, by decide⟩, _, _, rfl, rfl, ?_⟩⟩
    have gq8 := x8 _ _ gq nqd nql
    have as8 := as.kt (kt_ext x8 D7)
    have is8 := sqt_kt is3 (kt_ext x8 D7)
    have x08 := x07.trans x8
    have g48 : SqT K H8 t4 [.str "see", .ref t3] := sqt_kt (SqT.of g47) (kt_ext x8 D7)
    have ht : 1 - 2 * r3 = 1 ∨ 1 - 2 * r3 = -1 := by omega
    -- inner
    refine ⟨_, rfl, _, rfl, q, _, 1 - 2 * r3, rfl, rfl, ht, SqL.of gq8, fun p1 ys hys hp1 => ?_⟩
    have s9 := same_new hp1 (.lst ys)
    have gp1 : upd H8 p1 (.lst ys) p1 = some (.lst ys) := upd_same
    generalize upd H8 p1 (.lst ys) = H9 at s9 gp1 ⊢
    have ly : ys.length = 2 := by rcases hys with rfl | rfl <;> rfl
    obtain ⟨ts, at9, ms, lts⟩ := (as8.kt (kt_same s9)).dir hys
    refine ⟨_, rfl, p1, q, _, _, rfl, rfl, gp1, s9 _ _ gq8, szl (m := 10) (by rw [ly]; show 2 + 2 ≤ 10; omega), fun p2 hp2 => ?_⟩
    have s10 := same_new hp2 (.lst (ys ++ [.ref t2, .ref t4]))
    have gp2 : upd H9 p2 (.lst (ys ++ [.ref t2, .ref t4])) p2 = some (.lst (ys ++ [.ref t2, .ref t4])) := upd_same
    generalize upd H9 p2 (.lst (ys ++ [.ref t2, .ref t4])) = H10 at s10 gp2 ⊢
    refine ⟨p2, _, rfl, .inl ⟨SqL.of gp2, fun p3 hp3 => ?_⟩⟩
    have s11 := same_new hp3 (.tup (ys ++ [.ref t2, .ref t4]))
    have gp3 : upd H10 p3 (.tup (ys ++ [.ref t2, .ref t4])) p3 = some (.tup (ys ++ [.ref t2, .ref t4])) := upd_same
    generalize upd H10 p3 (.tup (ys ++ [.ref t2, .ref t4])) = H11 at s11 gp3 ⊢
    have s811 := (s9.trans s10).trans s11
    have a11 := (at9.kt ((kt_same s10).trans (kt_same s11))).app (as8.kt (kt_same s811))
    refine ⟨(by show 3 ≤ sizeLine; decide), fun ti hti => ?_⟩
    have s12 := same_new hti (.tup [.str "times", .int 2, .ref p3])
    have gti : upd H11 ti (.tup [.str "times", .int 2, .ref p3]) ti = some (.tup [.str "times", .int 2, .ref p3]) := upd_same
    dsimp only [gName]
    generalize upd H11 ti (.tup [.str "times", .int 2, .ref p3]) = H12 at s12 gti ⊢
    have di := dp_times (K := K) gti (AreS.tup (SqT.of (s12 _ _ gp3)) (a11.kt (kt_same s12)))
    have s812 := s811.trans s12
    have bi := smB_times (k := 2) (ss := ts ++ [.set x (.num r1), .see (.num r2)]) (n := 0) (m := 1) (c := 1) ⟨by decide, by decide⟩ (fun s hs => (List.mem_append.mp hs).elim (fun h => ball s (ms s h)) (ball s))
    have lt4 : (ts ++ [Sm.set x (.num r1), .see (.num r2)]).length = 4 := by rw [List.length_append, lts]; rfl
    rw [lt4] at bi
    generalize Sm.times 2 (Bl.ofL (ts ++ [.set x (.num r1), .see (.num r2)])) = si at di bi
    -- middle
    have gq12 := s812 _ _ gq8
    have a12 := as8.kt (kt_same s812)
    have g412 := sqt_kt g48 (kt_same s812)
    have is12 := sqt_kt is8 (kt_same s812)
    have D12 := D8.same s812
    have x12 := x08.trans (Ext.ofSame s812)
    clear s7 s9 s10 s11 s12 gp1 gp2 gp3 at9 a11 gq8 as8 is8 g48 gti s811
    have A0 : atI [V.ref t2, .ref t4] 0 = some (.ref t2) := at_ofA (j := 0) rfl rfl
    have A1 : atI [V.ref t2, .ref t4] 1 = some (.ref t4) := at_ofA (j := 1) rfl rfl
    refine ⟨_, rfl, q, _, _, _, rfl, rfl, SqL.of gq12, A0, _, rfl, _, rfl, q, _, _, _, rfl, rfl, SqL.of gq12, A1, t4, _, _, _, rfl, rfl, g412, at_ofA (j := 1) rfl rfl, _, rfl, q, _, _, _, rfl, rfl, SqL.of gq12, A1, ?_⟩
    refine ⟨(by show 1 ≤ sizeLine; decide), fun tone htone => ?_⟩
    have s13 := same_new htone (.tup [.ref t4])
    have gone1 : upd H12 tone (.tup [.ref t4]) tone = some (.tup [.ref t4]) := upd_same
    generalize upd H12 tone (.tup [.ref t4]) = H13 at s13 gone1 ⊢
    refine ⟨(by show 0 ≤ sizeLine; decide), fun te hte => ?_⟩
    have s14 := same_new hte (.tup [])
    have ge : upd H13 te (.tup []) te = some (.tup []) := upd_same
    generalize upd H13 te (.tup []) = H14 at s14 ge ⊢
    refine ⟨(by show 4 ≤ sizeLine; decide), fun tif htif => ?_⟩
    have s15 := same_new htif (.tup [.str "if", .ref t3, .ref tone, .ref te])
    have gif : upd H14 tif (.tup [.str "if", .ref t3, .ref tone, .ref te]) tif = some (.tup [.str "if", .ref t3, .ref tone, .ref te]) := upd_same
    generalize upd H14 tif (.tup [.str "if", .ref t3, .ref tone, .ref te]) = H15 at s15 gif ⊢
    refine ⟨(by show 3 ≤ sizeLine; decide), fun tm htm => ?_⟩
    have s16 := same_new htm (.tup [.ref t2, .ref ti, .ref tif])
    have gm : upd H15 tm (.tup [.ref t2, .ref ti, .ref tif]) tm = some (.tup [.ref t2, .ref ti, .ref tif]) := upd_same
    generalize upd H15 tm (.tup [.ref t2, .ref ti, .ref tif]) = H16 at s16 gm ⊢
    have s1216 := ((s13.trans s14).trans s15).trans s16
    have dif : Dp K H16 (.ref tif) (Sm.ite (.num r2) (Bl.ofL [.see (.num r2)]) (Bl.ofL [])).dat := by
      cases a12 with
      | cons _ r =>
        cases r with
        | cons h2 _ =>
          exact dp_ite (s16 _ _ gif) (.tup (sqt_kt is12 (kt_same s1216)) (.cons (.str _) (.cons (.int _) .nil))) (AreS.tup (SqT.of ((s14.trans (s15.trans s16)) _ _ gone1)) (.cons (Dp.kt (kt_same s1216) _ _ (Sm.tp _) h2) .nil)) (AreS.tup (ss := []) (SqT.of ((s15.trans s16) _ _ ge)) .nil)
    have bIf := smB_ite (n := 0) (m := 1) (c := 1) (ss := [.see (.num r2)]) (ts := []) (eX_num r20 (by omega)) (fun s hs => by rw [List.mem_singleton.mp hs]; exact b1) (fun s hs => by simp at hs)
    have am : AreS K H16 [.ref t2, .ref ti, .ref tif] [.set x (.num r1), si, .ite (.num r2) (Bl.ofL [.see (.num r2)]) (Bl.ofL [])] := by
      cases a12 with
      | cons h1 _ => exact .cons (Dp.kt (kt_same s1216) _ _ (Sm.tp _) h1) (.cons (Dp.kt (kt_same s1216) _ _ (Sm.tp _) di) (.cons dif .nil))
    have bm : ∀ s ∈ [Sm.set x (.num r1), si, .ite (.num r2) (Bl.ofL [.see (.num r2)]) (Bl.ofL [])], SmB 1 8 6 s := fun s hs => by
      simp only [List.mem_cons, List.not_mem_nil, or_false] at hs
      rcases hs with rfl | rfl | rfl
      · exact b0.mono (by decide) (by decide) (by decide)
      · exact bi.mono (by decide) (by decide) (by decide)
      · exact bIf.mono (by decide) (by simp) (by simp)
    generalize [Sm.set x (.num r1), si, .ite (.num r2) (Bl.ofL [.see (.num r2)]) (Bl.ofL [])] = sm at am bm
    have lm := am.len
    refine ⟨_, rfl, tm, _, 1 - 2 * r3, rfl, rfl, ht, SqT.of gm, fun r4 zs H17 hzs s17 g17 => ?_⟩
    obtain ⟨us, a17, mu, lu⟩ := (am.kt (kt_same s17)).dir hzs
    refine ⟨(by show 3 ≤ sizeLine; decide), fun tmi htmi => ?_⟩
    have s18 := same_new htmi (.tup [.str "times", .int 3, .ref r4])
    have gmi : upd H17 tmi (.tup [.str "times", .int 3, .ref r4]) tmi = some (.tup [.str "times", .int 3, .ref r4]) := upd_same
    generalize upd H17 tmi (.tup [.str "times", .int 3, .ref r4]) = H18 at s18 gmi ⊢
    dsimp only [gName]
    have dm := dp_times (K := K) gmi (AreS.tup (sqt_kt g17 (kt_same s18)) (a17.kt (kt_same s18)))
    have bmi := smB_times (k := 3) (ss := us) (n := 1) (m := 8) (c := 6) ⟨by decide, by decide⟩ (fun s hs => bm s (mu s hs))
    have lu3 : us.length = 3 := by rw [lu, ← lm]; rfl
    rw [lu3] at bmi
    generalize Sm.times 3 (Bl.ofL us) = smi at dm bmi
    have s1218 := (s1216.trans s17).trans s18
    have D18 := D12.same s1218
    have x18 := x12.trans (Ext.ofSame s1218)
    have a18 := a12.kt (kt_same s1218)
    have gq18 := s1218 _ _ gq12
    clear s13 s14 s15 s16 gone1 ge gif gm dif am a17 g17 gmi
    -- great
    refine ⟨_, rfl, d, l, 2, rfl, D18, by decide, by decide, fun r5 H19 r50 r51 D19 x19 => ⟨_, _, rfl, rfl, _, rfl, ?_⟩⟩
    have k19 := kt_ext x19 D18
    refine ⟨(by show 1 ≤ sizeLine; decide), fun tg htg => ?_⟩
    have s20 := same_new htg (.tup [.ref tmi])
    have gg : upd H19 tg (.tup [.ref tmi]) tg = some (.tup [.ref tmi]) := upd_same
    generalize upd H19 tg (.tup [.ref tmi]) = H20 at s20 gg ⊢
    refine ⟨(by show 3 ≤ sizeLine; decide), fun tgr htgr => ?_⟩
    have s21 := same_new htgr (.tup [.str "times", .int (1 + r5), .ref tg])
    have ggr : upd H20 tgr (.tup [.str "times", .int (1 + r5), .ref tg]) tgr = some (.tup [.str "times", .int (1 + r5), .ref tg]) := upd_same
    generalize upd H20 tgr (.tup [.str "times", .int (1 + r5), .ref tg]) = H21 at s21 ggr ⊢
    dsimp only [gName]
    have dg := dp_times (K := K) ggr (AreS.tup (ss := [smi]) (SqT.of (s21 _ _ gg)) (.cons (Dp.kt (k19.trans (kt_same (s20.trans s21))) _ _ (Sm.tp _) dm) .nil))
    have bg := smB_times (k := 1 + r5) (ss := [smi]) (n := 2) (m := 24 * 3) (c := 19) ⟨by omega, by omega⟩ (fun s hs => by rw [List.mem_singleton.mp hs]; exact bmi.mono (by decide) (by decide) (by decide))
    have hr5 : (1 + r5).toNat ≤ 2 := by omega
    have hm5 := Nat.mul_le_mul_right (1 * (24 * 3)) hr5
    have bg := bg.mono (m' := 144) (c' := 20) (Nat.le_refl _) (by simp only [List.length_cons, List.length_nil]; omega) (by simp)
    generalize Sm.times (1 + r5) (Bl.ofL [smi]) = sg at dg bg
    have s1921 := s20.trans s21
    have D21 := D19.same s1921
    have x21 := (x18.trans x19).trans (Ext.ofSame s1921)
    have a21 := a18.kt (k19.trans (kt_same s1921))
    have gq21 := s1921 _ _ (x19 _ _ gq18 nqd nql)
    clear s20 s21 gg ggr
    -- what is told
    refine ⟨_, rfl, q, _, _, _, rfl, rfl, SqL.of gq21, A1, ?_⟩
    refine ⟨(by show 1 ≤ sizeLine; decide), fun ta hta => ?_⟩
    have s22 := same_new hta (.tup [.ref t4])
    have ga : upd H21 ta (.tup [.ref t4]) ta = some (.tup [.ref t4]) := upd_same
    generalize upd H21 ta (.tup [.ref t4]) = H22 at s22 ga ⊢
    have D22 := D21.same s22
    refine ⟨_, rfl, d, l, 3, rfl, D22, by decide, by decide, fun r6 H23 r60 r61 D23 x23 => ⟨ta, r6, _, rfl, rfl, sqt_kt (SqT.of ga) (kt_ext x23 D22), r60, by omega, by simp, fun pa H24 s24 gpa => ⟨_, rfl, ?_⟩⟩⟩
    have k2124 := (kt_same s22).trans ((kt_ext x23 D22).trans (kt_same s24))
    refine ⟨(by show 1 ≤ sizeLine; decide), fun tb htb => ?_⟩
    have s25 := same_new htb (.tup [.ref tgr])
    have gb : upd H24 tb (.tup [.ref tgr]) tb = some (.tup [.ref tgr]) := upd_same
    generalize upd H24 tb (.tup [.ref tgr]) = H25 at s25 gb ⊢
    refine ⟨pa, tb, _, _, rfl, rfl, sqt_kt gpa (kt_same s25), SqT.of gb, szl (m := 100) (by rw [List.length_flatten, List.map_replicate, List.sum_replicate_nat]; simp only [List.length_cons, List.length_nil]; omega), fun pc H26 s26 gpc => ?_⟩
    have s2426 := s25.trans s26
    have D26 := D23.same (s24.trans s2426)
    have gq26 := (s24.trans s2426) _ _ (x23 _ _ (s22 _ _ gq21) nqd nql)
    have k2126 := k2124.trans (kt_same s2426)
    have x26 := ((x21.trans (Ext.ofSame s22)).trans x23).trans (Ext.ofSame (s24.trans s2426))
    refine ⟨_, rfl, q, _, _, _, rfl, rfl, SqL.of gq26, A0, ?_⟩
    refine ⟨(by show 1 ≤ sizeLine; decide), fun td htd => ?_⟩
    have s27 := same_new htd (.tup [.ref t2])
    have gd : upd H26 td (.tup [.ref t2]) td = some (.tup [.ref t2]) := upd_same
    generalize upd H26 td (.tup [.ref t2]) = H27 at s27 gd ⊢
    have D27 := D26.same s27
    refine ⟨_, rfl, d, l, 3, rfl, D27, by decide, by decide, fun r7 H28 r70 r71 D28 x28 => ⟨td, r7, _, rfl, rfl, sqt_kt (SqT.of gd) (kt_ext x28 D27), r70, by omega, by simp, fun pe H29 s29 gpe => ?_⟩⟩
    have k2629 := (kt_same s27).trans ((kt_ext x28 D27).trans (kt_same s29))
    refine ⟨pc, pe, _, _, rfl, rfl, sqt_kt gpc k2629, gpe, szl (m := 100) (by simp only [List.length_append, List.length_flatten, List.map_replicate, List.sum_replicate_nat, List.length_cons, List.length_nil]; omega), fun pf H30 s30 gpf => ?_⟩
    have kall := (k2126.trans k2629).trans (kt_same s30)
    have a30 := a21.kt kall
    have dg30 := Dp.kt kall _ _ (Sm.tp _) dg
    have h0 : AreS K H30 [.ref t2] [.set x (.num r1)] := by cases a30 with | cons h _ => exact .cons h .nil
    have h1 : AreS K H30 [.ref t4] [.see (.num r2)] := by cases a30 with | cons _ r => cases r with | cons h _ => exact .cons h .nil
    have hall : AreS K H30 _ _ := ((h1.rep r6.toNat).app (AreS.app (ss := [sg]) (.cons dg30 .nil) (h0.rep r7.toNat)))
    rw [← List.append_assoc] at hall
    have ball2 : ∀ s ∈ (List.replicate r6.toNat [Sm.see (.num r2)]).flatten ++ ([sg] ++ (List.replicate r7.toNat [Sm.set x (.num r1)]).flatten), SmB 3 144 20 s := fun s hs => by
      rcases List.mem_append.mp hs with hs | hs
      · exact all_rep (P := SmB 3 144 20) (fun s hs => by rw [List.mem_singleton.mp hs]; exact b1.mono (by decide) (by decide) (by decide)) s hs
      rcases List.mem_append.mp hs with hs | hs
      · rw [List.mem_singleton.mp hs]; exact bg
      · exact all_rep (P := SmB 3 144 20) (fun s hs => by rw [List.mem_singleton.mp hs]; exact b0.mono (by decide) (by decide) (by decide)) s hs
    have q1 := Bl.ofL_ok ball2
    have lq : ((List.replicate r6.toNat [Sm.see (.num r2)]).flatten ++ ([sg] ++ (List.replicate r7.toNat [Sm.set x (.num r1)]).flatten)).length ≤ 5 := by
      simp only [List.length_append, List.length_flatten, List.map_replicate, List.sum_replicate_nat, List.length_cons, List.length_nil]
      omega
    have mq : (Bl.ofL ((List.replicate r6.toNat [Sm.see (.num r2)]).flatten ++ ([sg] ++ (List.replicate r7.toNat [Sm.set x (.num r1)]).flatten))).mr ≤ 600 := by
      rw [Bl.ofL_mr, mrL_app, mrL_app, mrL_rep, mrL_rep]
      have m1 : mrL [Sm.see (.num r2)] = 1 := by simp [mrL, Sm.mr]
      have m2 : mrL [Sm.set x (.num r1)] = 1 := by simp [mrL, Sm.mr]
      have m3 : mrL [sg] = sg.mr := by simp [mrL]
      rw [m1, m2, m3]
      have := bg.m
      omega
    refine k _ (Bl.ofL _) H30 ((D28.same s29).same s30) (((x26.trans (Ext.ofSame s27)).trans x28).trans (Ext.ofSame (s29.trans s30))) (AreS.tup gpf hall) q1.1 q1.2.1 mq (by have := q1.2.2.2; omega)
end
end My
set_option Elab.async false
set_option maxRecDepth 100000
set_option linter.all false
namespace My
open PySem L2
theorem DpAll.takeN {K : PySem.W.Frag} {H : Hp} : ∀ (n : Nat) {vs : List V} {ds : List PyData}, DpAll K H vs ds → DpAll K H (vs.take n) (ds.take n)
  | 0, _, _, _ => by simp only [List.take_zero]; exact .nil
  | n + 1, _, _, .nil => by simp only [List.take_nil]; exact .nil
  | n + 1, _, _, .cons a r => by simp only [List.take_succ_cons]; exact .cons a (DpAll.takeN n r)
theorem DpAll.dropN {K : PySem.W.Frag} {H : Hp} : ∀ (n : Nat) {vs : List V} {ds : List PyData}, DpAll K H vs ds → DpAll K H (vs.drop n) (ds.drop n)
  | 0, _, _, h => by simpa only [List.drop_zero] using h
  | n + 1, _, _, .nil => by simp only [List.drop_nil]; exact .nil
  | n + 1, _, _, .cons a r => by simp only [List.drop_succ_cons]; exact DpAll.dropN n r
theorem AreS.cut {K : PySem.W.Frag} {H : Hp} {vs : List V} {ss : List Sm} (h : AreS K H vs ss) (r : Int) (r0 : 0 ≤ r) : ∃ ts, AreS K H (cutV vs none (some r)) ts ∧ (∀ s ∈ ts, s ∈ ss) ∧ ts.length ≤ r.toNat := by
  have e : cutV vs none (some r) = (vs.drop (HT.sIx vs.length 0 none)).take (HT.sIx vs.length vs.length (some r) - HT.sIx vs.length 0 none) := rfl
  have e2 : HT.sIx vs.length vs.length (some r) ≤ r.toNat := by
    simp only [HT.sIx]
    rw [if_neg (by omega)]
    exact Nat.min_le_left _ _
  rw [e]
  refine ⟨(ss.drop (HT.sIx vs.length 0 none)).take (HT.sIx vs.length vs.length (some r) - HT.sIx vs.length 0 none), ?_, fun s hs => List.mem_of_mem_drop (List.mem_of_mem_take hs), ?_⟩
  · show DpAll K H _ (List.map _ _)
    rw [List.map_take, List.map_drop]
    exact DpAll.takeN _ (DpAll.dropN _ h)
  · rw [List.length_take]
    omega
section
variable {P : Program} {w : World} {K : PySem.W.Frag} {mg : Str → Option Value} {base : Heap}
set_option maxHeartbeats 8000000 in
theorem ok_wide {f : Addr} {fd : FuncData} (F : Fun K "_law_wide" "_law_wide" s_L_wide f fd) (Z : Zb mg) (G_L_draw : FnIn P w K mg base 1 "_law_draw" ps_L_draw spDraw) : FnOk P w K mg base CX0 2 f fd ps_L_wide (spLW K) := by
  refine F.ok sc_L_wide (fun vs H Q E h => ?_) (fun cdv A outer s H vs Q E hr h => ?_)
  · obtain ⟨d, l, x, rfl, _⟩ := h
    rfl
  · obtain ⟨d, l, x, rfl, D, hx, k⟩ := h
    refine ⟨_, (pss_cons (ps_set (i := 2) sc_L_wide.nd rfl (by first | exact Or.inl rfl | exact Or.inr rfl) (pe_lst pa_nil))
      (pss_cons (ps_for PassesOwn.never rfl (pi_range1 (by rfl) Z.range (pa_cons (pe_op op_add pe_int (pe_fn G_L_draw hr rfl (pa_cons (pv 0) (pa_cons pe_int pa_nil)))) pa_nil)) (pg_name (i := 3) sc_L_wide.nd rfl (by first | exact Or.inl rfl | exact Or.inr rfl)) (pss_one (ps_expr (pe_bm PySem.F.plainAttrs_list PySem.F.slot_list_append PySem.F.type_list_append mt_append (pv 2) (pa_cons (pe_ix ix_list (pe_lst (pa_cons (pe_tup (pa_cons pe_str (pa_cons (pv 1) (pa_cons (pe_tup (pa_cons pe_str (pa_cons (pv 3) pa_nil))) pa_nil)))) (pa_cons (pe_tup (pa_cons pe_str (pa_cons (pe_tup (pa_cons pe_str (pa_cons (pe_fn G_L_draw hr rfl (pa_cons (pv 0) (pa_cons pe_int pa_nil))) pa_nil))) pa_nil))) pa_nil))) (pe_fn G_L_draw hr rfl (pa_cons (pv 0) (pa_cons pe_int pa_nil))) (fun _ _ => rfl)) pa_nil)))))
      (pss_cons (ps_par (i := 6) (j := 7) (by rfl) sc_L_wide.nd rfl rfl (by decide) rfl rfl (pa_cons (pe_callTy call_tuple_of (by rfl) Z.tuple (by decide +kernel) (pa_cons (pv 2) pa_nil)) (pa_cons (pe_fn G_L_draw hr rfl (pa_cons (pv 0) (pa_cons pe_int pa_nil))) pa_nil)) (by rfl))
      (pss_cons (ps_set (i := 4) sc_L_wide.nd rfl (by first | exact Or.inl rfl | exact Or.inr rfl) (pe_lst (pa_cons (pe_tup (pa_cons pe_str (pa_cons (pe_tup (pa_cons pe_str (pa_cons (pv 7) pa_nil))) (pa_cons (pv 6) (pa_cons (pe_tup pa_nil) pa_nil))))) (pa_cons (pe_tup (pa_cons pe_str (pa_cons (pe_tup (pa_cons pe_str (pa_cons (pv 7) pa_nil))) (pa_cons (pe_tup pa_nil) (pa_cons (pv 6) pa_nil))))) (pa_cons (pe_tup (pa_cons pe_str (pa_cons (pe_op op_add pe_int (pv 7)) (pa_cons (pv 6) pa_nil)))) pa_nil)))))
      (pss_cons (ps_expr (pe_bm PySem.F.plainAttrs_list PySem.F.slot_list_append PySem.F.type_list_append mt_append (pv 4) (pa_cons (pe_tup (pa_cons pe_str (pa_cons (pe_op op_add pe_int (pe_fn G_L_draw hr rfl (pa_cons (pv 0) (pa_cons pe_int pa_nil)))) (pa_cons (pe_slice sl_tupS (pv 6) po_none (po_some (pe_op op_add pe_int (pe_fn G_L_draw hr rfl (pa_cons (pv 0) (pa_cons pe_int pa_nil)))))) pa_nil)))) pa_nil)))
      (pss_cons (ps_set (i := 5) sc_L_wide.nd rfl (by first | exact Or.inl rfl | exact Or.inr rfl) (pe_fn G_L_draw hr rfl (pa_cons (pv 0) (pa_cons pe_int pa_nil))))
      (pss_one (ps_ret (pe_ifExp (pt_cmpR op_eq (pv 5) pe_int (nomark _)) (pe_op op_catS (pv 6) (pe_tup (pa_cons (pe_tup (pa_cons pe_str (pa_cons (pv 1) (pa_cons (pe_tup (pa_cons pe_str (pa_cons pe_int pa_nil))) pa_nil)))) pa_nil))) (pe_tup (pa_cons (pe_ix ix_list (pv 4) (pv 5) (fun _ _ => rfl)) pa_nil))))))))))), ?_⟩
    refine ⟨(by show 0 ≤ sizeLine; decide), fun p hp => ?_⟩
    have s1 := same_new hp (.lst [])
    have gp : upd H p (.lst []) p = some (.lst []) := upd_same
    generalize upd H p (.lst []) = H1 at s1 gp ⊢
    have D1 := D.same s1
    obtain ⟨npd, npl⟩ := D.nn hp
    dsimp only [gName]
    refine ⟨_, rfl, d, l, 5, rfl, D1, by decide, by decide, fun r H2 r0 r1 D2 x2 => ⟨_, _, rfl, rfl, _, rfl, by omega, by omega, ?_⟩⟩
    refine for_range (lo := 0) (n := (9 + r).toNat) (fun i σ Hi => ∃ v3 vs ss, σ = [some (.ref d), some (.str x), some (.ref p), v3, none, none, none, none] ∧ Deal Hi d l ∧ Ext d l H Hi ∧ Hi p = some (.lst vs) ∧ vs.length = i ∧ AreS K Hi vs ss ∧ ∀ s ∈ ss, SmB 0 1 1 s)
      ⟨_, [], [], rfl, D2, (Ext.ofSame s1).trans x2, x2 _ _ gp npd npl, rfl, .nil, by simp⟩ ?_ ?_
    · rintro i σ Hi hi ⟨v3, vs, ss, rfl, Di, xi, gi, li, ai, oi⟩
      dsimp only [gName]
      refine ⟨_, rfl, .inl ⟨rfl, _, SqL.of gi⟩, _, rfl, _, rfl, ?_⟩
      refine ⟨(by show 2 ≤ sizeLine; decide), fun t1 ht1 => ?_⟩
      have s3 := same_new ht1 (.tup [.str "num", .int (0 + (i : Int))])
      have g1 : upd Hi t1 (.tup [.str "num", .int (0 + (i : Int))]) t1 = some (.tup [.str "num", .int (0 + (i : Int))]) := upd_same
      generalize upd Hi t1 (.tup [.str "num", .int (0 + (i : Int))]) = H3 at s3 g1 ⊢
      refine ⟨(by show 3 ≤ sizeLine; decide), fun t2 ht2 => ?_⟩
      have s4 := same_new ht2 (.tup [.str "set", .str x, .ref t1])
      have g2 : upd H3 t2 (.tup [.str "set", .str x, .ref t1]) t2 = some (.tup [.str "set", .str x, .ref t1]) := upd_same
      generalize upd H3 t2 (.tup [.str "set", .str x, .ref t1]) = H4 at s4 g2 ⊢
      have D4 := (Di.same s3).same s4
      refine ⟨_, rfl, d, l, 3, rfl, D4, by decide, by decide, fun r3 H5 r30 r31 D5 x5 => ?_⟩
      refine ⟨(by show 2 ≤ sizeLine; decide), fun t3 ht3 => ?_⟩
      have s6 := same_new ht3 (.tup [.str "num", .int r3])
      have g3 : upd H5 t3 (.tup [.str "num", .int r3]) t3 = some (.tup [.str "num", .int r3]) := upd_same
      generalize upd H5 t3 (.tup [.str "num", .int r3]) = H6 at s6 g3 ⊢
      refine ⟨(by show 2 ≤ sizeLine; decide), fun t4 ht4 => ?_⟩
      have s7 := same_new ht4 (.tup [.str "see", .ref t3])
      have g4 : upd H6 t4 (.tup [.str "see", .ref t3]) t4 = some (.tup [.str "see", .ref t3]) := upd_same
      generalize upd H6 t4 (.tup [.str "see", .ref t3]) = H7 at s7 g4 ⊢
      refine ⟨(by show 2 ≤ sizeLine; decide), fun q hq => ?_⟩
      have s8 := same_new hq (.lst [.ref t2, .ref t4])
      have gq : upd H7 q (.lst [.ref t2, .ref t4]) q = some (.lst [.ref t2, .ref t4]) := upd_same
      generalize upd H7 q (.lst [.ref t2, .ref t4]) = H8 at s8 gq ⊢
      have D8 := ((D5.same s6).same s7).same s8
      obtain ⟨nqd, nql⟩ := ((D5.same s6).same s7).nn hq
      refine ⟨_, rfl, d, l, 2, rfl, D8, by decide, by decide, fun r4 H9 r40 r41 D9 x9 => ?_⟩
      obtain ⟨z, hz, mz⟩ := at_get (xs := [V.ref t2, .ref t4]) (r := r4) r40 (by show r4 < 2; omega)
      have xi9 : Ext d l Hi H9 := (((((Ext.ofSame (s3.trans s4)).trans x5).trans (Ext.ofSame s6)).trans (Ext.ofSame s7)).trans (Ext.ofSame s8)).trans x9
      have g9 := xi9 _ _ gi npd npl
      refine ⟨q, _, _, z, rfl, rfl, SqL.of (x9 _ _ gq nqd nql), hz, p, _, _, rfl, rfl, g9, sz (m := 20) (by omega), ?_⟩
      have kq := kt_lst g9 (.lst (vs ++ [z]))
      have k9 := kt_ext x9 D8
      have hsm : ∃ sm : Sm, Dp K H9 z sm.dat ∧ SmB 0 1 1 sm := by
        simp only [List.mem_cons, List.not_mem_nil, or_false] at mz
        rcases mz with rfl | rfl
        · have k49 := (kt_ext x5 D4).trans ((kt_same ((s6.trans s7).trans s8)).trans k9)
          exact ⟨.set x (.num (0 + (i : Int))), Dp.kt k49 _ _ (Sm.tp _) (dp_set g2 (isE_num (s4 _ _ g1))), smB_set hx (eX_num (by omega) (by omega))⟩
        · exact ⟨.see (.num r3), Dp.kt ((kt_same s8).trans k9) _ _ (Sm.tp _) (dp_see g4 (isE_num (s7 _ _ g3))), smB_see (eX_num r30 (by omega))⟩
      obtain ⟨sm, dsm, bsm⟩ := hsm
      refine ⟨_, vs ++ [z], ss ++ [sm], rfl, D9.put npd npl _, (xi.trans xi9).upd hp _, upd_same, by simp [li], ((ai.kt (kt_ext xi9 Di)).kt kq).app (.cons (Dp.kt kq _ _ (Sm.tp _) dsm) .nil), fun s hs => ?_⟩
      rcases List.mem_append.mp hs with hs | hs
      · exact oi s hs
      · rw [List.mem_singleton.mp hs]; exact bsm
    · rintro σ Hi ⟨v3, vs, ss, rfl, Di, xi, gi, li, ai, oi⟩
      refine ⟨_, rfl, p, _, rfl, .inl ⟨SqL.of gi, ?_⟩⟩
      refine (fun t ht => ?_)
      have s3 := same_new ht (.tup vs)
      have gt : upd Hi t (.tup vs) t = some (.tup vs) := upd_same
      generalize upd Hi t (.tup vs) = H3 at s3 gt ⊢
      have D3 := Di.same s3
      have x3 := xi.trans (Ext.ofSame s3)
      have a3 := ai.kt (kt_same s3)
      refine ⟨_, rfl, d, l, 3, rfl, D3, by decide, by decide, fun r3 H4 r30 r31 D4 x4 => ⟨_, _, rfl, ?_⟩⟩
      have x4' := x3.trans x4
      have a4 := a3.kt (kt_ext x4 D3)
      have t4 : SqT K H4 t vs := sqt_kt (SqT.of gt) (kt_ext x4 D3)
      clear xi gi ai s3 gt a3
      have ls := a4.len
      have hl9 : 9 ≤ vs.length := by omega
      have hl13 : vs.length ≤ 13 := by omega
      have db : Dp K H4 (.ref t) (.tuple (Bl.ofL ss).dats) := AreS.tup t4 a4
      have bb := Bl.ofL_ok oi
      dsimp only [gName]
      refine ⟨_, rfl, (by show 2 ≤ sizeLine; decide), fun n1 hn1 => ?_⟩
      have s5 := same_new hn1 (.tup [.str "num", .int r3])
      have g1 : upd H4 n1 (.tup [.str "num", .int r3]) n1 = some (.tup [.str "num", .int r3]) := upd_same
      generalize upd H4 n1 (.tup [.str "num", .int r3]) = H5 at s5 g1 ⊢
      refine ⟨_, rfl, (by show 0 ≤ sizeLine; decide), fun e1 he1 => ?_⟩
      have s6 := same_new he1 (.tup [])
      have g2 : upd H5 e1 (.tup []) e1 = some (.tup []) := upd_same
      generalize upd H5 e1 (.tup []) = H6 at s6 g2 ⊢
      refine ⟨(by show 4 ≤ sizeLine; decide), fun m1 hm1 => ?_⟩
      have s7 := same_new hm1 (.tup [.str "if", .ref n1, .ref t, .ref e1])
      have h1 : upd H6 m1 (.tup [.str "if", .ref n1, .ref t, .ref e1]) m1 = some (.tup [.str "if", .ref n1, .ref t, .ref e1]) := upd_same
      generalize upd H6 m1 (.tup [.str "if", .ref n1, .ref t, .ref e1]) = H7 at s7 h1 ⊢
      refine ⟨_, rfl, (by show 2 ≤ sizeLine; decide), fun n2 hn2 => ?_⟩
      have s8 := same_new hn2 (.tup [.str "num", .int r3])
      have g3 : upd H7 n2 (.tup [.str "num", .int r3]) n2 = some (.tup [.str "num", .int r3]) := upd_same
      generalize upd H7 n2 (.tup [.str "num", .int r3]) = H8 at s8 g3 ⊢
      refine ⟨(by show 0 ≤ sizeLine; decide), fun e2 he2 => ?_⟩
      have s9 := same_new he2 (.tup [])
      have g4 : upd H8 e2 (.tup []) e2 = some (.tup []) := upd_same
      generalize upd H8 e2 (.tup []) = H9 at s9 g4 ⊢
      refine ⟨_, rfl, (by show 4 ≤ sizeLine; decide), fun m2 hm2 => ?_⟩
      have s10 := same_new hm2 (.tup [.str "if", .ref n2, .ref e2, .ref t])
      have h2 : upd H9 m2 (.tup [.str "if", .ref n2, .ref e2, .ref t]) m2 = some (.tup [.str "if", .ref n2, .ref e2, .ref t]) := upd_same
      generalize upd H9 m2 (.tup [.str "if", .ref n2, .ref e2, .ref t]) = H10 at s10 h2 ⊢
      refine ⟨_, rfl, _, _, rfl, rfl, _, rfl, (by show 3 ≤ sizeLine; decide), fun m3 hm3 => ?_⟩
      have s11 := same_new hm3 (.tup [.str "times", .int (1 + r3), .ref t])
      have h3 : upd H10 m3 (.tup [.str "times", .int (1 + r3), .ref t]) m3 = some (.tup [.str "times", .int (1 + r3), .ref t]) := upd_same
      generalize upd H10 m3 (.tup [.str "times", .int (1 + r3), .ref t]) = H11 at s11 h3 ⊢
      refine ⟨(by show 3 ≤ sizeLine; decide), fun lm hlm => ?_⟩
      have s12 := same_new hlm (.lst [.ref m1, .ref m2, .ref m3])
      have gl : upd H11 lm (.lst [.ref m1, .ref m2, .ref m3]) lm = some (.lst [.ref m1, .ref m2, .ref m3]) := upd_same
      generalize upd H11 lm (.lst [.ref m1, .ref m2, .ref m3]) = H12 at s12 gl ⊢
      have s711 := ((s8.trans s9).trans s10).trans s11
      have s411 := ((s5.trans s6).trans s7).trans s711
      have t411 := sqt_kt t4 (kt_same s411)
      have a411 := a4.kt (kt_same s411)
      have en : eX (.num r3) := eX_num r30 (by omega)
      have dm1 : Dp K H11 (.ref m1) (Sm.ite (.num r3) (Bl.ofL ss) (Bl.ofL [])).dat := dp_ite (s711 _ _ h1) (isE_num ((s6.trans (s7.trans s711)) _ _ g1)) (AreS.tup t411 a411) (AreS.tup (ss := []) (SqT.of ((s7.trans s711) _ _ g2)) .nil)
      have dm2 : Dp K H11 (.ref m2) (Sm.ite (.num r3) (Bl.ofL []) (Bl.ofL ss)).dat := dp_ite (s11 _ _ h2) (isE_num ((s9.trans (s10.trans s11)) _ _ g3)) (AreS.tup (ss := []) (SqT.of ((s10.trans s11) _ _ g4)) .nil) (AreS.tup t411 a411)
      have dm3 : Dp K H11 (.ref m3) (Sm.times (1 + r3) (Bl.ofL ss)).dat := dp_times h3 (AreS.tup t411 a411)
      have am : AreS K H12 [.ref m1, .ref m2, .ref m3] [.ite (.num r3) (Bl.ofL ss) (Bl.ofL []), .ite (.num r3) (Bl.ofL []) (Bl.ofL ss), .times (1 + r3) (Bl.ofL ss)] :=
        .cons (Dp.kt (kt_same s12) _ _ (Sm.tp _) dm1) (.cons (Dp.kt (kt_same s12) _ _ (Sm.tp _) dm2) (.cons (Dp.kt (kt_same s12) _ _ (Sm.tp _) dm3) .nil))
      have bm1 := smB_ite (ss := ss) (ts := []) en oi (fun s hs => by simp at hs)
      have bm2 := smB_ite (ss := []) (ts := ss) en (fun s hs => by simp at hs) oi
      have bm3 := smB_times (k := 1 + r3) (by omega) oi
      have hk3 := Nat.mul_le_mul_right (ss.length * 1) (show (1 + r3).toNat ≤ 3 by omega)
      have bm : ∀ s ∈ [Sm.ite (.num r3) (Bl.ofL ss) (Bl.ofL []), .ite (.num r3) (Bl.ofL []) (Bl.ofL ss), .times (1 + r3) (Bl.ofL ss)], SmB 1 50 20 s := fun s hs => by
        simp only [List.mem_cons, List.not_mem_nil, or_false] at hs
        rcases hs with rfl | rfl | rfl
        · exact bm1.mono (by decide) (by simp only [List.length_nil]; omega) (by simp only [List.length_nil]; omega)
        · exact bm2.mono (by decide) (by simp only [List.length_nil]; omega) (by simp only [List.length_nil]; omega)
        · exact bm3.mono (by decide) (by omega) (by omega)
      have lsm : ([Sm.ite (.num r3) (Bl.ofL ss) (Bl.ofL []), .ite (.num r3) (Bl.ofL []) (Bl.ofL ss), .times (1 + r3) (Bl.ofL ss)]).length = 3 := rfl
      generalize [Sm.ite (.num r3) (Bl.ofL ss) (Bl.ofL []), .ite (.num r3) (Bl.ofL []) (Bl.ofL ss), .times (1 + r3) (Bl.ofL ss)] = sm at am bm lsm
      have D11 := D4.same s411
      obtain ⟨nld, nll⟩ := D11.nn hlm
      have D12 := D11.same s12
      have x12 := x4'.trans (Ext.ofSame (s411.trans s12))
      have t12 := sqt_kt t411 (kt_same s12)
      have a12 := a411.kt (kt_same s12)
      have hlm0 : H lm = none := ((x4'.trans (Ext.ofSame s411))).none hlm nld nll
      clear s5 s6 s7 s8 s9 s10 s11 s12 g1 g2 g3 g4 h1 h2 h3 dm1 dm2 dm3 bm1 bm2 bm3 s711 s411 t411 a411 t4 a4 hk3
      dsimp only [gName]
      refine ⟨_, rfl, .inl ⟨rfl, _, SqL.of gl⟩, _, rfl, d, l, 6, rfl, D12, by decide, by decide, fun r5 H13 r50 r51 D13 x13 => ⟨_, _, rfl, rfl, _, rfl, _, rfl, d, l, 5, rfl, D13, by decide, by decide, fun r6 H14 r60 r61 D14 x14 => ⟨_, _, rfl, rfl, _, rfl, t, vs, rfl, sqt_kt t12 ((kt_ext x13 D12).trans (kt_ext x14 D13)), fun tc H15 s15 gc => ?_⟩⟩⟩
      have k1214 := (kt_ext x13 D12).trans (kt_ext x14 D13)
      have x1214 := x13.trans x14
      obtain ⟨ts, ac, mc, lc⟩ := ((a12.kt k1214).kt (kt_same s15)).cut (1 + r6) (by omega)
      refine ⟨(by show 3 ≤ sizeLine; decide), fun m4 hm4 => ?_⟩
      have s16 := same_new hm4 (.tup [.str "times", .int (4 + r5), .ref tc])
      have h4 : upd H15 m4 (.tup [.str "times", .int (4 + r5), .ref tc]) m4 = some (.tup [.str "times", .int (4 + r5), .ref tc]) := upd_same
      generalize upd H15 m4 (.tup [.str "times", .int (4 + r5), .ref tc]) = H16 at s16 h4 ⊢
      have s1416 := s15.trans s16
      have d4 := dp_times (K := K) h4 (AreS.tup (sqt_kt gc (kt_same s16)) (ac.kt (kt_same s16)))
      have b4 := smB_times (k := 4 + r5) (by omega) (fun s hs => oi s (mc s hs))
      have hk4 := Nat.mul_le_mul (show (4 + r5).toNat ≤ 9 by omega) (show ts.length * 1 ≤ 5 by omega)
      have b4 := b4.mono (n' := 1) (m' := 50) (c' := 20) (by decide) (by omega) (by omega)
      generalize Sm.times (4 + r5) (Bl.ofL ts) = s4 at d4 b4
      have gl16 := s1416 _ _ (x1214 _ _ gl nld nll)
      refine ⟨lm, _, _, rfl, rfl, gl16, sz (m := 20) (by simp), ?_⟩
      have k17 := kt_lst gl16 (.lst ([.ref m1, .ref m2, .ref m3] ++ [.ref m4]))
      have gl17 : upd H16 lm (.lst ([.ref m1, .ref m2, .ref m3] ++ [.ref m4])) lm = some (.lst ([.ref m1, .ref m2, .ref m3] ++ [.ref m4])) := upd_same
      have D17 := (D14.same s1416).put nld nll (.lst ([.ref m1, .ref m2, .ref m3] ++ [.ref m4]))
      have x17 := ((x12.trans x1214).trans (Ext.ofSame s1416)).upd hlm0 (.lst ([.ref m1, .ref m2, .ref m3] ++ [.ref m4]))
      have k1217 := (k1214.trans (kt_same s1416)).trans k17
      have am17 := (am.kt k1217).app (AreS.app (ss := [s4]) (ts := []) (.cons (Dp.kt k17 _ _ (Sm.tp _) d4) .nil) .nil)
      have a17 := a12.kt k1217
      have t17 := sqt_kt t12 k1217
      change tSeq _ _ _ _ (upd H16 lm (.lst ([.ref m1, .ref m2, .ref m3] ++ [.ref m4])))
      generalize upd H16 lm (.lst ([.ref m1, .ref m2, .ref m3] ++ [.ref m4])) = H17 at gl17 D17 x17 am17 a17 t17 ⊢
      have bm17 : ∀ s ∈ sm ++ ([s4] ++ []), SmB 1 50 20 s := fun s hs => by
        rcases List.mem_append.mp hs with hs | hs
        · exact bm s hs
        · rw [List.append_nil, List.mem_singleton] at hs
          rw [hs]; exact b4
      clear x12 x13 x14 D12 D13 D14 a12 t12 k1214 x1214 ac gc s15 s16 h4 d4 gl16 k17 s1416 k1217 am
      refine ⟨_, rfl, d, l, 5, rfl, D17, by decide, by decide, fun r7 H18 r70 r71 D18 x18 => ?_⟩
      have k18 := kt_ext x18 D17
      have gl18 := x18 _ _ gl17 nld nll
      have am18 := am17.kt k18
      have a18 := a17.kt k18
      have t18 := sqt_kt t17 k18
      have x18' := x17.trans x18
      dsimp only [gName]
      refine ⟨_, rfl, rfl, _, rfl, ite2 (fun c => ?_) (fun c => ?_)⟩
      · refine ⟨_, rfl, _, rfl, ?_⟩
        refine ⟨(by show 2 ≤ sizeLine; decide), fun u1 hu1 => ?_⟩
        have s19 := same_new hu1 (.tup [.str "num", .int 1])
        have g1 : upd H18 u1 (.tup [.str "num", .int 1]) u1 = some (.tup [.str "num", .int 1]) := upd_same
        generalize upd H18 u1 (.tup [.str "num", .int 1]) = H19 at s19 g1 ⊢
        refine ⟨(by show 3 ≤ sizeLine; decide), fun u2 hu2 => ?_⟩
        have s20 := same_new hu2 (.tup [.str "set", .str x, .ref u1])
        have g2 : upd H19 u2 (.tup [.str "set", .str x, .ref u1]) u2 = some (.tup [.str "set", .str x, .ref u1]) := upd_same
        generalize upd H19 u2 (.tup [.str "set", .str x, .ref u1]) = H20 at s20 g2 ⊢
        refine ⟨(by show 1 ≤ sizeLine; decide), fun u3 hu3 => ?_⟩
        have s21 := same_new hu3 (.tup [.ref u2])
        have g3 : upd H20 u3 (.tup [.ref u2]) u3 = some (.tup [.ref u2]) := upd_same
        generalize upd H20 u3 (.tup [.ref u2]) = H21 at s21 g3 ⊢
        have s1821 := (s19.trans s20).trans s21
        refine ⟨t, u3, _, _, rfl, rfl, sqt_kt t18 (kt_same s1821), SqT.of g3, szl (m := 20) (by simp only [List.length_cons, List.length_nil]; omega), fun rr H22 s22 gr => ?_⟩
        have d2 : Dp K H22 (.ref u2) (Sm.set x (.num 1)).dat := Dp.kt (kt_same (s21.trans s22)) _ _ (Sm.tp _) (dp_set g2 (isE_num (s20 _ _ g1)))
        have q := Bl.ofL_ok (ss := ss ++ [.set x (.num 1)]) (n := 0) (m := 1) (c := 1) fun s hs => by
          rcases List.mem_append.mp hs with hs | hs
          · exact oi s hs
          · rw [List.mem_singleton.mp hs]; exact smB_set hx eX_one
        have lq : (ss ++ [Sm.set x (.num 1)]).length ≤ 14 := by simp only [List.length_append, List.length_cons, List.length_nil]; omega
        exact k _ (Bl.ofL (ss ++ [.set x (.num 1)])) H22 (D18.same (s1821.trans s22)) (x18'.trans (Ext.ofSame (s1821.trans s22))) (AreS.tup gr ((a18.kt (kt_same (s1821.trans s22))).app (.cons d2 .nil))) q.1 (by omega) (by omega) (by omega)
      · have r74 : r7 ≠ 4 := fun e => c (by rw [e]; exact decide_eq_true rfl)
        obtain ⟨z, hz, mz⟩ := at_get (xs := [V.ref m1, .ref m2, .ref m3] ++ [.ref m4]) (r := r7) r70 (by show r7 < 4; omega)
        obtain ⟨j, hj⟩ := List.getElem?_of_mem mz
        obtain ⟨s, hs, ds⟩ := am18.get hj
        have bs := bm17 s (List.mem_of_getElem? hs)
        refine ⟨_, rfl, _, rfl, lm, _, _, z, rfl, rfl, SqL.of gl18, hz, ?_⟩
        refine ⟨(by show 1 ≤ sizeLine; decide), fun tr htr => ?_⟩
        have s19 := same_new htr (.tup [z])
        have g1 : upd H18 tr (.tup [z]) tr = some (.tup [z]) := upd_same
        generalize upd H18 tr (.tup [z]) = H19 at s19 g1 ⊢
        have q := Bl.ofL_ok (ss := [s]) (n := 1) (m := 50) (c := 20) fun s hs => by rw [List.mem_singleton.mp hs]; exact bs
        simp only [List.length_cons, List.length_nil] at q
        exact k _ (Bl.ofL [s]) H19 (D18.same s19) (x18'.trans (Ext.ofSame s19)) (AreS.tup (ss := [s]) (SqT.of g1) (.cons (Dp.kt (kt_same s19) _ _ (Sm.tp _) ds) .nil)) q.1 (by omega) (by omega) (by omega)
end
end My
set_option Elab.async false
set_option maxRecDepth 100000
set_option linter.all false
namespace My
open PySem L2
def Bl.app : Bl → Bl → Bl
  | .nil, c => c
  | .cons s b, c => .cons s (b.app c)
theorem Bl.app_ok : ∀ (b c : Bl), (b.app c).dats = b.dats ++ c.dats ∧ (b.Gx → c.Gx → (b.app c).Gx) ∧ (b.app c).nest = max b.nest c.nest ∧ (b.app c).mr = b.mr + c.mr ∧ (b.app c).cnt = b.cnt + c.cnt
  | .nil, c => by simp [Bl.app, Bl.dats, Bl.nest, Bl.mr, Bl.cnt, Bl.Gx]
  | .cons s b, c => by
    obtain ⟨h1, h2, h3, h4, h5⟩ := Bl.app_ok b c
    refine ⟨by simp only [Bl.app, Bl.dats, h1, List.cons_append], fun g g' => ?_, by simp only [Bl.app, Bl.nest, h3]; omega, by simp only [Bl.app, Bl.mr, h4]; omega, by simp only [Bl.app, Bl.cnt, h5]; omega⟩
    simp only [Bl.Gx] at g
    simp only [Bl.app, Bl.Gx]
    exact ⟨g.1, h2 g.2 g'⟩
theorem Bl.len_cnt : ∀ b : Bl, b.dats.length ≤ b.cnt
  | .nil => by simp [Bl.dats]
  | .cons s b => by
    have := Bl.len_cnt b
    have c1 : 1 ≤ s.cnt := by cases s <;> simp [Sm.cnt] <;> omega
    simp only [Bl.dats, Bl.cnt, List.length_cons]
    omega
theorem dp_bare {K : PySem.W.Frag} {H : Hp} {tb e1 e2 : Addr} {v : V} {b : Bl} (h : H tb = some (.tup [.ref e1, .ref e2, v])) (h1 : H e1 = some (.tup [])) (h2 : H e2 = some (.tup [])) (hv : Dp K H v (.tuple b.dats)) : Dp K H (.ref tb) (Bk.dat ⟨[], [], b⟩) :=
  .tup (SqT.of h) (.cons (.tup (SqT.of h1) .nil) (.cons (.tup (SqT.of h2) .nil) (.cons hv .nil)))
theorem bare_g {b : Bl} (g : b.Gx) (n : b.nest ≤ 3) (m : b.mr ≤ 600) (c : b.cnt ≤ 400) : BkG ⟨[], [], b⟩ := ⟨⟨by simp, by simp⟩, ⟨by simp, by simp⟩, g, n, m, c⟩
/-- a book and an ask -/
def GoodP (K : PySem.W.Frag) (H : Hp) (v : V) : Prop := ∃ (t : Addr) (vb va : V) (bk : Bk) (e : Ex), v = .ref t ∧ SqT K H t [vb, va] ∧ Dp K H vb bk.dat ∧ IsE K H va e ∧ BkG bk ∧ eX e
theorem GoodP.kt {K : PySem.W.Frag} {H H' : Hp} {v : V} (k : KT H H') (h : GoodP K H v) : GoodP K H' v := by
  obtain ⟨t, vb, va, bk, e, rfl, h1, h2, h3, h4⟩ := h
  exact ⟨t, vb, va, bk, e, rfl, sqt_kt h1 k, Dp.kt k _ _ bk.tp h2, h3.kt k, h4⟩
theorem GoodP.snoc {K : PySem.W.Frag} {H H' : Hp} {vs : List V} {z : V} {q : Addr} (k : KT H H') (h : ∀ v ∈ vs, GoodP K H v) (hz : GoodP K H' z) (g : H' q = some (.lst vs)) : ∀ v ∈ vs ++ [z], GoodP K (upd H' q (.lst (vs ++ [z]))) v := fun v hv => by
  have k2 := kt_lst g (.lst (vs ++ [z]))
  rcases List.mem_append.mp hv with hv | hv
  · exact (h v hv).kt (k.trans k2)
  · rw [List.mem_singleton.mp hv]; exact hz.kt k2
theorem mem_cut {vs : List V} {lo hi : Option Int} {v : V} (h : v ∈ cutV vs lo hi) : v ∈ vs := List.mem_of_mem_drop (List.mem_of_mem_take h)
theorem WorldAt.apart {H : Hp} {wd wl ul sl kn d l : Addr} {ws : List Str} {k : Bk} (W : WorldAt H wd wl ul sl kn ws k) (D : Deal H d l) : (wd ≠ d ∧ wd ≠ l) ∧ wl ≠ d ∧ wl ≠ l := by
  obtain ⟨s, n, ls, h1, h2, _⟩ := D
  refine ⟨⟨fun e => ?_, ne_of W.wd_ h2 (by intro z; cases z)⟩, ne_of W.wl_ h1 (by intro z; cases z), fun e => ?_⟩
  · have h := W.wd_
    rw [e, h1] at h
    have h3 := HO.dK.inj (Option.some.inj h)
    have := congrArg List.length h3
    simp [dealKV, knownKV] at this
  · have h := W.wl_
    rw [e, h2] at h
    have h3 := HO.lst.inj (Option.some.inj h)
    have lw := W.lw
    cases ws with
    | nil => simp at lw
    | cons x r =>
      cases ls with
      | nil => simp at h3
      | cons i r' => simp at h3
def spLaw (K : PySem.W.Frag) : Sp := fun vs H Q _ => ∃ (a : Addr) (ns : List Int), vs = [.ref a] ∧ SqL K H a (ns.map V.int) ∧ ns.length ≤ 63 ∧ ∀ H', Q (.bl true) H'
section
variable {P : Program} {w : World} {K : PySem.W.Frag} {mg : Str → Option Value} {base : Heap}
set_option maxHeartbeats 8000000 in
theorem ok_law {f : Addr} {fd : FuncData} (F : Fun K "law" "law" s_law f fd) (Z : Zb mg) (G_L_deal : FnIn P w K mg base 1 "_law_deal" ps_L_deal (spDeal K)) (G_L_draw : FnIn P w K mg base 1 "_law_draw" ps_L_draw spDraw) (G_L_book : FnIn P w K mg base 22 "_law_book" ps_L_book (spBook K)) (G_L_ask : FnIn P w K mg base 7 "_law_ask" ps_L_ask (spAsk K)) (G_L_bare : FnIn P w K mg base 6 "_law_bare" ps_L_bare (spBare K 4))
    (G_L_long : FnIn P w K mg base 2 "_law_long" ps_L_long (spLW K)) (G_L_wide : FnIn P w K mg base 2 "_law_wide" ps_L_wide (spLW K)) (G_L_right : FnIn P w K mg base 27 "_law_right" ps_L_right (spRight K)) : FnOk P w K mg base CX0 28 f fd ps_law (spLaw K) := by
  refine F.ok sc_law (fun vs H Q E h => ?_) (fun cdv A outer s H vs Q E hr h => ?_)
  · obtain ⟨a, ns, rfl, _⟩ := h
    rfl
  · obtain ⟨a, ns, rfl, hS, h63, k⟩ := h
    have hu := hu_of hr
    refine ⟨_, (pss_cons (ps_par (i := 2) (j := 3) (by rfl) sc_law.nd rfl rfl (by decide) rfl rfl (pa_cons (pe_fn G_L_deal hr rfl (pa_cons (pv 0) (pa_cons pe_int pa_nil))) (pa_cons (pe_lst pa_nil) pa_nil)) (by rfl))
      (pss_cons (ps_for PassesOwn.never rfl (pi_range1 (by rfl) Z.range (pa_cons pe_int pa_nil)) (pg_name (i := 1) sc_law.nd rfl (by first | exact Or.inl rfl | exact Or.inr rfl)) (pss_cons (ps_asg (pe_fn G_L_book hr rfl (pa_cons (pv 2) pa_nil)) (pg_tup rfl (pgs_cons (pg_name (i := 5) sc_law.nd rfl (by first | exact Or.inl rfl | exact Or.inr rfl)) (pgs_cons (pg_name (i := 6) sc_law.nd rfl (by first | exact Or.inl rfl | exact Or.inr rfl)) pgs_nil))))
      (pss_cons (ps_expr (pe_bm PySem.F.plainAttrs_list PySem.F.slot_list_append PySem.F.type_list_append mt_append (pv 3) (pa_cons (pe_tup (pa_cons (pv 6) (pa_cons (pe_fn G_L_ask hr rfl (pa_cons (pv 2) (pa_cons (pv 5) (pa_cons pe_bl pa_nil)))) pa_nil))) pa_nil)))
      (pss_cons (ps_par (i := 7) (j := 8) (by rfl) sc_law.nd rfl rfl (by decide) rfl rfl (pa_cons (pe_lst (pa_cons pe_int (pa_cons pe_int pa_nil))) (pa_cons (pe_ix ix_list (pe_dget hu (pv 5) pe_str (fun _ _ => rfl)) pe_int (fun _ _ => rfl)) pa_nil)) (by rfl))
      (pss_cons (ps_set (i := 4) sc_law.nd rfl (by first | exact Or.inl rfl | exact Or.inr rfl) (pe_op op_catS (pe_fn G_L_bare hr rfl (pa_cons (pv 2) (pa_cons (pv 8) (pa_cons (pv 7) (pa_cons pe_int pa_nil))))) (pe_fn G_L_bare hr rfl (pa_cons (pv 2) (pa_cons (pv 8) (pa_cons (pv 7) (pa_cons pe_int pa_nil)))))))
      (pss_one (ps_expr (pe_bm PySem.F.plainAttrs_list PySem.F.slot_list_append PySem.F.type_list_append mt_append (pv 3) (pa_cons (pe_tup (pa_cons (pe_tup (pa_cons (pe_tup pa_nil) (pa_cons (pe_tup pa_nil) (pa_cons (pv 4) pa_nil)))) (pa_cons (pe_tup (pa_cons pe_str (pa_cons (pe_fn G_L_draw hr rfl (pa_cons (pv 2) (pa_cons pe_int pa_nil))) pa_nil))) pa_nil))) pa_nil)))))))))
      (pss_cons (ps_expr (pe_bm PySem.F.plainAttrs_list PySem.F.slot_list_append PySem.F.type_list_append mt_append (pv 3) (pa_cons (pe_tup (pa_cons (pe_tup (pa_cons (pe_tup pa_nil) (pa_cons (pe_tup pa_nil) (pa_cons (pe_fn G_L_long hr rfl (pa_cons (pv 2) (pa_cons pe_str pa_nil))) pa_nil)))) (pa_cons (pe_tup (pa_cons pe_str (pa_cons pe_int pa_nil))) pa_nil))) pa_nil)))
      (pss_cons (ps_expr (pe_bm PySem.F.plainAttrs_list PySem.F.slot_list_append PySem.F.type_list_append mt_append (pv 3) (pa_cons (pe_tup (pa_cons (pe_tup (pa_cons (pe_tup pa_nil) (pa_cons (pe_tup pa_nil) (pa_cons (pe_fn G_L_wide hr rfl (pa_cons (pv 2) (pa_cons pe_str pa_nil))) pa_nil)))) (pa_cons (pe_tup (pa_cons pe_str (pa_cons pe_int pa_nil))) pa_nil))) pa_nil)))
      (pss_one (ps_ret (pe_callB (cr_all rfl) (by rfl) Z.all (by decide +kernel) (pa_cons (pe_lc (own := [("_law_book_here", 6), ("_law_ask_here", 9)]) (g := gTup K 2 (gCons (gName 6) (gCons (gName 9) (gNil)))) (by rfl) sc_law.nd (pi_list (pe_op op_cat (pv 3) (pe_slice sl_list (pv 3) po_none (po_some pe_int)))) (blkOk_by (own := [("_law_book_here", 6), ("_law_ask_here", 9)]) (N := nm_law) (sc := defScope s_law) (by decide +kernel)) (fun _ _ _ _ _ => (pg_tup rfl (pgs_cons (pg_name (i := 6) sc_law.nd rfl (by first | exact Or.inl rfl | exact Or.inr rfl)) (pgs_cons (pg_name (i := 9) sc_law.nd rfl (by first | exact Or.inl rfl | exact Or.inr rfl)) pgs_nil)))) (fun _ _ _ _ _ => pts_nil) (fun _ _ _ _ _ => (pe_fn G_L_right hr rfl (pa_cons (pv 6) (pa_cons (pv 9) pa_nil))))) pa_nil)))))))), ?_⟩
    refine ⟨_, rfl, a, ns, rfl, hS, h63, fun d l H1 hd hl D1 s1 => ?_⟩
    refine ⟨(by show 0 ≤ sizeLine; decide), fun q hq => ?_⟩
    have s2 := same_new hq (.lst [])
    have gq : upd H1 q (.lst []) q = some (.lst []) := upd_same
    generalize upd H1 q (.lst []) = H2 at s2 gq ⊢
    obtain ⟨nqd, nql⟩ := D1.nn hq
    have D2 := D1.same s2
    refine ⟨_, _, rfl, _, rfl, by decide, by decide, ?_⟩
    refine for_range (lo := 0) (n := 2) (fun i σ Hi => ∃ v1 v4 v5 v6 v7 v8 v9 vs, σ = [some (.ref a), v1, some (.ref d), some (.ref q), v4, v5, v6, v7, v8, v9] ∧ Deal Hi d l ∧ Hi q = some (.lst vs) ∧ vs.length = 2 * i ∧ ∀ v ∈ vs, GoodP K Hi v)
      ⟨_, _, _, _, _, _, _, [], rfl, D2, gq, rfl, by simp⟩ ?_ ?_
    · rintro i σ Hi hi ⟨v1, v4, v5, v6, v7, v8, v9, vs, rfl, Di, gi, li, oi⟩
      dsimp only [gName]
      refine ⟨_, rfl, d, l, rfl, Di, fun t wd wl ul sl kn vb ws bk H3 D3 x3 hs hb ok W => ⟨t, _, rfl, hs, rfl, _, _, rfl, _, _, rfl, rfl, ?_⟩⟩
      have g3 := x3 _ _ gi nqd nql
      have o3 : ∀ v ∈ vs, GoodP K H3 v := fun v hv => (oi v hv).kt (kt_ext x3 Di)
      refine ⟨_, rfl, .inl ⟨rfl, _, SqL.of g3⟩, _, rfl, _, rfl, _, rfl, d, l, wd, wl, ul, sl, kn, ws, bk, rfl, D3, W, ok, fun va e H4 D4 x4 ie lp dp on => ?_⟩
      have g4 := x4 _ _ g3 nqd nql
      have k4 := kt_ext x4 D3
      obtain ⟨⟨nw1, nw2⟩, nw3, nw4⟩ := W.apart D3
      have wd4 := x4 _ _ W.wd_ nw1 nw2
      have wl4 := x4 _ _ W.wl_ nw3 nw4
      refine ⟨(by show 2 ≤ sizeLine; decide), fun tp htp => ?_⟩
      have s5 := same_new htp (.tup [vb, va])
      have g5 : upd H4 tp (.tup [vb, va]) tp = some (.tup [vb, va]) := upd_same
      generalize upd H4 tp (.tup [vb, va]) = H5 at s5 g5 ⊢
      have hn : ∀ y ∈ bk.us.map (·.1) ++ bk.fs ++ bk.b.after [], NmOk y := fun y hy => (List.mem_append.mp hy).elim (ok.seenOk y) (ok.aft.2 y)
      have gp : GoodP K H5 (.ref tp) := ⟨tp, vb, va, bk, e, rfl, SqT.of g5, Dp.kt (k4.trans (kt_same s5)) _ _ bk.tp hb, ie.kt (kt_same s5), ok.g, ⟨Ex.okN.ok hn on, dp, lp⟩⟩
      have gq5 := s5 _ _ g4
      refine ⟨q, _, _, rfl, rfl, gq5, sz (m := 20) (by omega), ?_⟩
      have o6 := GoodP.snoc (k4.trans (kt_same s5)) o3 gp gq5
      have D6 := (D4.same s5).put nqd nql (.lst (vs ++ [.ref tp]))
      have nwq : wd ≠ q := ne_of (s5 _ _ wd4) gq5 (by intro z; cases z)
      have wd6 : upd H5 q (.lst (vs ++ [.ref tp])) wd = some (.dK (knownKV wl ul sl kn)) := by rw [upd_ne nwq]; exact s5 _ _ wd4
      have nwlq : wl ≠ q := fun e => by
        have h := s5 _ _ wl4
        rw [e, gq5] at h
        have h3 := HO.lst.inj (Option.some.inj h)
        have h4 := congrArg List.length h3
        rw [List.length_map, W.lw] at h4
        omega
      have wl6 : upd H5 q (.lst (vs ++ [.ref tp])) wl = some (.lst (ws.map V.str)) := by rw [upd_ne nwlq]; exact s5 _ _ wl4
      have g6 : upd H5 q (.lst (vs ++ [.ref tp])) q = some (.lst (vs ++ [.ref tp])) := upd_same
      change tSeq _ _ _ _ (upd H5 q (.lst (vs ++ [.ref tp])))
      generalize upd H5 q (.lst (vs ++ [.ref tp])) = H6 at o6 D6 wd6 wl6 g6 ⊢
      have lv6 : (vs ++ [V.ref tp]).length = 2 * i + 1 := by simp [li]
      generalize vs ++ [V.ref tp] = vs6 at o6 g6 lv6
      clear x3 x4 g3 o3 g4 k4 wd4 wl4 s5 g5 gp gq5 D3 D4 Di gi oi
      -- room, x
      refine ⟨(by show 2 ≤ sizeLine; decide), fun rm hrm => ?_⟩
      have s7 := same_new hrm (.lst [.int 9, .int 5])
      have gr : upd H6 rm (.lst [.int 9, .int 5]) rm = some (.lst [.int 9, .int 5]) := upd_same
      generalize upd H6 rm (.lst [.int 9, .int 5]) = H7 at s7 gr ⊢
      obtain ⟨nrd, nrl⟩ := D6.nn hrm
      have nrq : rm ≠ q := fun e => by rw [e, g6] at hrm; cases hrm
      have gw : DGet H7 wd (.str "words") (some (.ref wl)) := (known_at wl ul sl kn).2.2 ▸ DGet.k (k := .inr "words") (s7 _ _ wd6)
      obtain ⟨z, hz, mz⟩ := at_get (xs := ws.map V.str) (r := 6) (by decide) (by rw [List.length_map, W.lw]; decide)
      obtain ⟨x, mx, rfl⟩ := List.mem_map.mp mz
      have hx := W.ow x mx
      refine ⟨_, rfl, wd, _, rfl, gw, wl, _, _, _, rfl, rfl, SqL.of (s7 _ _ wl6), hz, _, _, rfl, ?_⟩
      have D7 := D6.same s7
      have g7 := s7 _ _ g6
      have o7 : ∀ v ∈ vs6, GoodP K H7 v := fun v hv => (o6 v hv).kt (kt_same s7)
      clear gw hz mz
      -- body
      refine ⟨_, rfl, _, rfl, _, rfl, d, l, rm, x, 0, 9, 5, rfl, D7, hx, gr, nrd, nrl, by decide, by decide, by decide, fun w1 b1 H8 u0 u1 D8 x8 gr8 db1 gx1 ne1 mr1 cn1 => ?_⟩
      have k8 := kt_xr x8 D7 gr
      have g8 := x8 _ _ g7 nqd nql (Ne.symm nrq)
      refine ⟨_, rfl, _, rfl, _, rfl, d, l, rm, x, 0, u0, u1, rfl, D8, hx, gr8, nrd, nrl, by decide, by decide, by decide, fun w2 b2 H9 t0 t1 D9 x9 gr9 db2 gx2 ne2 mr2 cn2 => ?_⟩
      have k9 := kt_xr x9 D8 gr8
      have g9 := x9 _ _ g8 nqd nql (Ne.symm nrq)
      obtain ⟨a1, vs1, rfl, sq1, da1⟩ := tupOpen db1
      obtain ⟨a2, vs2, rfl, sq2, da2⟩ := tupOpen db2
      have l1 := DpAll.len da1
      have l2 := DpAll.len da2
      have c1 := Bl.len_cnt b1
      have c2 := Bl.len_cnt b2
      have e4 : BMx 4 = 170 := by decide
      rw [e4] at mr1 cn1 mr2 cn2
      refine ⟨a1, a2, vs1, vs2, rfl, rfl, sqt_kt sq1 k9, sq2, szl (m := 400) (by omega), fun rr H10 s10 gr10 => ?_⟩
      obtain ⟨p1, p2, p3, p4, p5⟩ := Bl.app_ok b1 b2
      have dbb : Dp K H10 (.ref rr) (.tuple (b1.app b2).dats) := by
        rw [p1]
        exact .tup gr10 (DpAll.app (Dp.ktAll (k9.trans (kt_same s10)) _ _ b1.tp da1) (Dp.ktAll (kt_same s10) _ _ b2.tp da2))
      have bg : BkG ⟨[], [], b1.app b2⟩ := bare_g (p2 gx1 gx2) (by rw [p3]; omega) (by rw [p4]; omega) (by rw [p5]; omega)
      generalize b1.app b2 = bb at dbb bg
      have k710 := (k8.trans k9).trans (kt_same s10)
      have o10 : ∀ v ∈ vs6, GoodP K H10 v := fun v hv => (o7 v hv).kt k710
      have g10 := s10 _ _ g9
      have D10 := D9.same s10
      clear db1 db2 sq1 sq2 da1 da2 x8 x9 g8 g9 D8 D9 gr gr8 gr9 s10 gr10 k8 k9 k710 s7 o7 o6 g6 g7 D7 D6
      dsimp only [gName]
      refine ⟨_, rfl, .inl ⟨rfl, _, SqL.of g10⟩, ?_⟩
      refine ⟨(by show 0 ≤ sizeLine; decide), fun e1 he1 => ?_⟩
      have s11 := same_new he1 (.tup [])
      have h1 : upd H10 e1 (.tup []) e1 = some (.tup []) := upd_same
      generalize upd H10 e1 (.tup []) = H11 at s11 h1 ⊢
      refine ⟨(by show 0 ≤ sizeLine; decide), fun e2 he2 => ?_⟩
      have s12 := same_new he2 (.tup [])
      have h2 : upd H11 e2 (.tup []) e2 = some (.tup []) := upd_same
      generalize upd H11 e2 (.tup []) = H12 at s12 h2 ⊢
      refine ⟨_, rfl, (by show 3 ≤ sizeLine; decide), fun tb htb => ?_⟩
      have s13 := same_new htb (.tup [.ref e1, .ref e2, .ref rr])
      have h3 : upd H12 tb (.tup [.ref e1, .ref e2, .ref rr]) tb = some (.tup [.ref e1, .ref e2, .ref rr]) := upd_same
      generalize upd H12 tb (.tup [.ref e1, .ref e2, .ref rr]) = H13 at s13 h3 ⊢
      have s1013 := (s11.trans s12).trans s13
      have D13 := D10.same s1013
      have dbk := dp_bare (K := K) h3 ((s12.trans s13) _ _ h1) (s13 _ _ h2) (Dp.kt (kt_same s1013) _ _ (.tup bb.tp) dbb)
      refine ⟨_, rfl, d, l, 3, rfl, D13, by decide, by decide, fun r5 H14 r50 r51 D14 x14 => ?_⟩
      refine ⟨(by show 2 ≤ sizeLine; decide), fun tn htn => ?_⟩
      have s15 := same_new htn (.tup [.str "num", .int r5])
      have h4 : upd H14 tn (.tup [.str "num", .int r5]) tn = some (.tup [.str "num", .int r5]) := upd_same
      generalize upd H14 tn (.tup [.str "num", .int r5]) = H15 at s15 h4 ⊢
      refine ⟨(by show 2 ≤ sizeLine; decide), fun tp2 htp2 => ?_⟩
      have s16 := same_new htp2 (.tup [.ref tb, .ref tn])
      have h5 : upd H15 tp2 (.tup [.ref tb, .ref tn]) tp2 = some (.tup [.ref tb, .ref tn]) := upd_same
      generalize upd H15 tp2 (.tup [.ref tb, .ref tn]) = H16 at s16 h5 ⊢
      have k1316 := (kt_ext x14 D13).trans (kt_same (s15.trans s16))
      have gp : GoodP K H16 (.ref tp2) := ⟨tp2, _, _, ⟨[], [], bb⟩, .num r5, rfl, SqT.of h5, Dp.kt k1316 _ _ (Bk.tp _) dbk, (isE_num h4).kt (kt_same s16), bg, eX_num r50 (by omega)⟩
      have g16 := (s15.trans s16) _ _ (x14 _ _ (s1013 _ _ g10) nqd nql)
      refine ⟨q, _, _, rfl, rfl, g16, sz (m := 20) (by omega), ?_⟩
      exact ⟨_, _, _, _, _, _, _, vs6 ++ [.ref tp2], rfl, ((D14.same s15).same s16).put nqd nql _, upd_same, by simp [lv6]; omega, GoodP.snoc ((kt_same s1013).trans k1316) o10 gp g16⟩
    · rintro σ Hi ⟨v1, v4, v5, v6, v7, v8, v9, vs, rfl, Di, gi, li, oi⟩
      have nmx : NmOk "xq" := ⟨by decide +kernel, asc_by (by decide +kernel)⟩
      refine ⟨_, rfl, .inl ⟨rfl, _, SqL.of gi⟩, ?_⟩
      refine ⟨(by show 0 ≤ sizeLine; decide), fun e1 he1 => ?_⟩
      have s11 := same_new he1 (.tup [])
      have h1 : upd Hi e1 (.tup []) e1 = some (.tup []) := upd_same
      generalize upd Hi e1 (.tup []) = H11 at s11 h1 ⊢
      refine ⟨(by show 0 ≤ sizeLine; decide), fun e2 he2 => ?_⟩
      have s12 := same_new he2 (.tup [])
      have h2 : upd H11 e2 (.tup []) e2 = some (.tup []) := upd_same
      generalize upd H11 e2 (.tup []) = H12 at s12 h2 ⊢
      have D12 := (Di.same s11).same s12
      refine ⟨_, rfl, d, l, "xq", rfl, D12, nmx, fun u1 b1 H13 D13 x13 du gx ne mr cn => ?_⟩
      have k13 := kt_ext x13 D12
      have h1' := sqt_kt (SqT.of (K := K) (s12 _ _ h1)) k13
      have h2' := sqt_kt (SqT.of (K := K) h2) k13
      have g13 := x13 _ _ (s12 _ _ (s11 _ _ gi)) nqd nql
      refine ⟨(by show 3 ≤ sizeLine; decide), fun tb htb => ?_⟩
      have s14 := same_new htb (.tup [.ref e1, .ref e2, u1])
      have h3 : upd H13 tb (.tup [.ref e1, .ref e2, u1]) tb = some (.tup [.ref e1, .ref e2, u1]) := upd_same
      generalize upd H13 tb (.tup [.ref e1, .ref e2, u1]) = H14 at s14 h3 ⊢
      refine ⟨(by show 2 ≤ sizeLine; decide), fun tn htn => ?_⟩
      have s15 := same_new htn (.tup [.str "num", .int 1])
      have h4 : upd H14 tn (.tup [.str "num", .int 1]) tn = some (.tup [.str "num", .int 1]) := upd_same
      generalize upd H14 tn (.tup [.str "num", .int 1]) = H15 at s15 h4 ⊢
      refine ⟨(by show 2 ≤ sizeLine; decide), fun tp2 htp2 => ?_⟩
      have s16 := same_new htp2 (.tup [.ref tb, .ref tn])
      have h5 : upd H15 tp2 (.tup [.ref tb, .ref tn]) tp2 = some (.tup [.ref tb, .ref tn]) := upd_same
      generalize upd H15 tp2 (.tup [.ref tb, .ref tn]) = H16 at s16 h5 ⊢
      have s1416 := (s14.trans s15).trans s16
      have dbk : Dp K H16 (.ref tb) (Bk.dat ⟨[], [], b1⟩) := .tup (SqT.of ((s15.trans s16) _ _ h3)) (.cons (.tup (sqt_kt h1' (kt_same s1416)) .nil) (.cons (.tup (sqt_kt h2' (kt_same s1416)) .nil) (.cons (Dp.kt (kt_same s1416) _ _ (.tup b1.tp) du) .nil)))
      have gp : GoodP K H16 (.ref tp2) := ⟨tp2, _, _, ⟨[], [], b1⟩, .num 1, rfl, SqT.of h5, dbk, (isE_num h4).kt (kt_same s16), bare_g gx ne mr cn, eX_one⟩
      have g16 := s1416 _ _ g13
      refine ⟨q, _, _, rfl, rfl, g16, sz (m := 20) (by omega), ?_⟩
      have o17 := GoodP.snoc ((kt_same (s11.trans s12)).trans (k13.trans (kt_same s1416))) oi gp g16
      have g17 : upd H16 q (.lst (vs ++ [.ref tp2])) q = some (.lst (vs ++ [.ref tp2])) := upd_same
      have D17 := (D13.same s1416).put nqd nql (.lst (vs ++ [.ref tp2]))
      have l17 : (vs ++ [V.ref tp2]).length ≤ 8 := by simp [li]
      change tSeq _ _ _ _ (upd H16 q (.lst (vs ++ [.ref tp2])))
      generalize upd H16 q (.lst (vs ++ [.ref tp2])) = H17 at o17 g17 D17 ⊢
      generalize vs ++ [V.ref tp2] = vs17 at o17 g17 l17
      clear s11 s12 s14 s15 s16 s1416 h1 h2 h3 h4 h5 h1' h2' dbk gp g16 g13 k13 x13 D12 D13 du gx ne mr cn gi oi
      refine ⟨_, rfl, .inl ⟨rfl, _, SqL.of g17⟩, ?_⟩
      refine ⟨(by show 0 ≤ sizeLine; decide), fun e3 he3 => ?_⟩
      have s11 := same_new he3 (.tup [])
      have h1 : upd H17 e3 (.tup []) e3 = some (.tup []) := upd_same
      generalize upd H17 e3 (.tup []) = H18 at s11 h1 ⊢
      refine ⟨(by show 0 ≤ sizeLine; decide), fun e4 he4 => ?_⟩
      have s12 := same_new he4 (.tup [])
      have h2 : upd H18 e4 (.tup []) e4 = some (.tup []) := upd_same
      generalize upd H18 e4 (.tup []) = H19 at s12 h2 ⊢
      have D12 := (D17.same s11).same s12
      refine ⟨_, rfl, d, l, "xq", rfl, D12, nmx, fun u1 b1 H20 D13 x13 du gx ne mr cn => ?_⟩
      have k13 := kt_ext x13 D12
      have h1' := sqt_kt (SqT.of (K := K) (s12 _ _ h1)) k13
      have h2' := sqt_kt (SqT.of (K := K) h2) k13
      have g13 := x13 _ _ (s12 _ _ (s11 _ _ g17)) nqd nql
      refine ⟨(by show 3 ≤ sizeLine; decide), fun tb3 htb3 => ?_⟩
      have s14 := same_new htb3 (.tup [.ref e3, .ref e4, u1])
      have h3 : upd H20 tb3 (.tup [.ref e3, .ref e4, u1]) tb3 = some (.tup [.ref e3, .ref e4, u1]) := upd_same
      generalize upd H20 tb3 (.tup [.ref e3, .ref e4, u1]) = H21 at s14 h3 ⊢
      refine ⟨(by show 2 ≤ sizeLine; decide), fun tn3 htn3 => ?_⟩
      have s15 := same_new htn3 (.tup [.str "num", .int 1])
      have h4 : upd H21 tn3 (.tup [.str "num", .int 1]) tn3 = some (.tup [.str "num", .int 1]) := upd_same
      generalize upd H21 tn3 (.tup [.str "num", .int 1]) = H22 at s15 h4 ⊢
      refine ⟨(by show 2 ≤ sizeLine; decide), fun tp3 htp3 => ?_⟩
      have s16 := same_new htp3 (.tup [.ref tb3, .ref tn3])
      have h5 : upd H22 tp3 (.tup [.ref tb3, .ref tn3]) tp3 = some (.tup [.ref tb3, .ref tn3]) := upd_same
      generalize upd H22 tp3 (.tup [.ref tb3, .ref tn3]) = H23 at s16 h5 ⊢
      have s1416 := (s14.trans s15).trans s16
      have dbk : Dp K H23 (.ref tb3) (Bk.dat ⟨[], [], b1⟩) := .tup (SqT.of ((s15.trans s16) _ _ h3)) (.cons (.tup (sqt_kt h1' (kt_same s1416)) .nil) (.cons (.tup (sqt_kt h2' (kt_same s1416)) .nil) (.cons (Dp.kt (kt_same s1416) _ _ (.tup b1.tp) du) .nil)))
      have gp : GoodP K H23 (.ref tp3) := ⟨tp3, _, _, ⟨[], [], b1⟩, .num 1, rfl, SqT.of h5, dbk, (isE_num h4).kt (kt_same s16), bare_g gx ne mr cn, eX_one⟩
      have g16 := s1416 _ _ g13
      refine ⟨q, _, _, rfl, rfl, g16, sz (m := 20) (by omega), ?_⟩
      have o24 := GoodP.snoc ((kt_same (s11.trans s12)).trans (k13.trans (kt_same s1416))) o17 gp g16
      have g24 : upd H23 q (.lst (vs17 ++ [.ref tp3])) q = some (.lst (vs17 ++ [.ref tp3])) := upd_same
      have l24 : (vs17 ++ [V.ref tp3]).length ≤ 9 := by simp; omega
      generalize upd H23 q (.lst (vs17 ++ [.ref tp3])) = H24 at o24 g24 ⊢
      generalize vs17 ++ [V.ref tp3] = vs24 at o24 g24 l24
      clear s11 s12 s14 s15 s16 s1416 h1 h2 h3 h4 h5 h1' h2' dbk gp g16 g13 k13 x13 D12 D13 du gx ne mr cn
      refine ⟨_, rfl, _, rfl, _, rfl, q, _, rfl, SqL.of g24, fun q2 hq2 => ?_⟩
      have nq := same_new hq2 (.lst (cutV vs24 none (some 1)))
      have lc := cutV_length vs24 none (some 1)
      refine ⟨q, q2, _, _, rfl, rfl, nq _ _ g24, upd_same, szl (m := 20) (by omega), fun r hr' => ?_⟩
      have nr := nq.trans (same_new hr' (.lst (vs24 ++ cutV vs24 none (some 1))))
      have gr : (upd (upd H24 q2 (.lst (cutV vs24 none (some 1)))) r (.lst (vs24 ++ cutV vs24 none (some 1)))) r = some (.lst (vs24 ++ cutV vs24 none (some 1))) := upd_same
      have gd2 : ∀ v ∈ vs24 ++ cutV vs24 none (some 1), GoodP K (upd (upd H24 q2 (.lst (cutV vs24 none (some 1)))) r (.lst (vs24 ++ cutV vs24 none (some 1)))) v := fun v hv => by
        refine GoodP.kt (kt_same nr) ?_
        rcases List.mem_append.mp hv with hv | hv
        · exact o24 v hv
        · exact o24 v (mem_cut hv)
      have lz : (vs24 ++ cutV vs24 none (some 1)).length ≤ 18 := by rw [List.length_append]; omega
      generalize upd (upd H24 q2 (.lst (cutV vs24 none (some 1)))) r (.lst (vs24 ++ cutV vs24 none (some 1))) = H25 at gr gd2 ⊢
      generalize vs24 ++ cutV vs24 none (some 1) = zs at gr gd2 lz ⊢
      refine ⟨r, rfl, ⟨_, SqL.of gr⟩, fun C hC => ?_⟩
      have sC := same_new hC (.lst [])
      refine lc_list (K := K) (a := r) (xs := zs) (fun i Hi => Same H25 Hi ∧ Hi C = some (.lst ((List.replicate i true).map V.bl)))
        ⟨sC, upd_same⟩ (fun i Hi _ ⟨s, _⟩ => SqL.of (s _ _ gr)) ?_ ?_
      · rintro i v Hi hv ⟨si, gC⟩
        obtain ⟨t, vb, va, bk, e, rfl, ht, hb, he, hg, hx⟩ := (gd2 v (List.mem_of_getElem? hv)).kt (kt_same si)
        have li := lt_of_get hv
        refine ⟨t, _, rfl, ht, rfl, _, _, rfl, _, _, rfl, rfl, rfl, _, rfl, _, rfl, vb, va, bk, e, rfl, hb, he, hg, hx, fun H6 s6 => ⟨_, s6 _ _ gC, sz (m := 20) (by simp; omega), ?_⟩⟩
        refine ⟨same_upd (si.trans s6) hC _, ?_⟩
        rw [upd_same, List.replicate_succ', List.map_append]
        rfl
      · rintro Hi ⟨si, gC⟩
        refine ⟨C, _, rfl, SqL.of gC, ?_⟩
        have e : (List.replicate zs.length true).all id = true := by simp
        rw [e]
        exact k Hi
end
end My
set_option Elab.async false
set_option maxRecDepth 100000
set_option linter.all false
namespace My
open PySem L2
section
variable {P : Program} {w : World} {K : PySem.W.Frag} {mg : Str → Option Value} {base : Heap} {f : Addr} {fd : FuncData}
theorem rec_expr (F : Fun K "_law_expr" "_law_expr" s_L_expr f fd) (hm : mg "_law_expr" = some (.ref f)) (hb : Binds K fd ps_L_expr []) (Z : Zb mg) (G_L_draw : FnIn P w K mg base 1 "_law_draw" ps_L_draw spDraw) (G_L_number : FnIn P w K mg base 2 "_law_number" ps_L_number spNum) :
    ∀ n : Nat, FnIn P w K mg base (n + 2) "_law_expr" ps_L_expr (spExpr K n)
  | 0 => by
    have no : ∀ vs H Q E, ¬ spExpr K 0 vs H Q E := fun vs H Q E h => by
      obtain ⟨_, _, _, _, _, _, _, _, h1, _⟩ := h
      omega
    exact ⟨f, fd, ⟨fun vs H Q E h => absurd h (no vs H Q E), fun A outer s H args us vs Q E _ _ _ _ h => absurd h (no vs H Q E)⟩, hm, F.kp, hb⟩
  | n + 1 => ⟨f, fd, ok_expr n F Z G_L_draw G_L_number (rec_expr F hm hb Z G_L_draw G_L_number n), hm, F.kp, hb⟩
end
set_option maxHeartbeats 0 in
theorem all_mk {l : PySem.W.OpenLaw} {w : World} {K : PySem.W.Frag} {h : Heap} {mg : Str → Option Value} {fa : Addr} (X : K.In h) (G : h.Ns mainGlobals mg) (hfa : mg "law" = some (.ref fa))
    {f0 : Addr} {od0 an0 : Option Addr} {sl0 : Array (Option Value)} {oc0 kV0 dc0 pm0 cd0 ct0 : Value}
    {f1 : Addr} {od1 an1 : Option Addr} {sl1 : Array (Option Value)} {oc1 kV1 dc1 pm1 cd1 ct1 : Value}
    {f2 : Addr} {od2 an2 : Option Addr} {sl2 : Array (Option Value)} {oc2 kV2 dc2 pm2 cd2 ct2 : Value}
    {f3 : Addr} {od3 an3 : Option Addr} {sl3 : Array (Option Value)} {oc3 kV3 dc3 pm3 cd3 ct3 : Value}
    {f4 : Addr} {od4 an4 : Option Addr} {sl4 : Array (Option Value)} {oc4 kV4 dc4 pm4 cd4 ct4 : Value}
    {f5 : Addr} {od5 an5 : Option Addr} {sl5 : Array (Option Value)} {oc5 kV5 dc5 pm5 cd5 ct5 : Value}
    {f6 : Addr} {od6 an6 : Option Addr} {sl6 : Array (Option Value)} {oc6 kV6 dc6 pm6 cd6 ct6 : Value}
    {f7 : Addr} {od7 an7 : Option Addr} {sl7 : Array (Option Value)} {oc7 kV7 dc7 pm7 cd7 ct7 : Value}
    {f8 : Addr} {od8 an8 : Option Addr} {sl8 : Array (Option Value)} {oc8 kV8 dc8 pm8 cd8 ct8 : Value}
    {f9 : Addr} {od9 an9 : Option Addr} {sl9 : Array (Option Value)} {oc9 kV9 dc9 pm9 cd9 ct9 : Value}
    {f10 : Addr} {od10 an10 : Option Addr} {sl10 : Array (Option Value)} {oc10 kV10 dc10 pm10 cd10 ct10 : Value}
    {f11 : Addr} {od11 an11 : Option Addr} {sl11 : Array (Option Value)} {oc11 kV11 dc11 pm11 cd11 ct11 : Value}
    {f12 : Addr} {od12 an12 : Option Addr} {sl12 : Array (Option Value)} {oc12 kV12 dc12 pm12 cd12 ct12 : Value}
    {f13 : Addr} {od13 an13 : Option Addr} {sl13 : Array (Option Value)} {oc13 kV13 dc13 pm13 cd13 ct13 : Value}
    {f14 : Addr} {od14 an14 : Option Addr} {sl14 : Array (Option Value)} {oc14 kV14 dc14 pm14 cd14 ct14 : Value}
    {f15 : Addr} {od15 an15 : Option Addr} {sl15 : Array (Option Value)} {oc15 kV15 dc15 pm15 cd15 ct15 : Value}
    {f16 : Addr} {od16 an16 : Option Addr} {sl16 : Array (Option Value)} {oc16 kV16 dc16 pm16 cd16 ct16 : Value}
    {f17 : Addr} {od17 an17 : Option Addr} {sl17 : Array (Option Value)} {oc17 kV17 dc17 pm17 cd17 ct17 : Value}
    {f18 : Addr} {od18 an18 : Option Addr} {sl18 : Array (Option Value)} {oc18 kV18 dc18 pm18 cd18 ct18 : Value}
    {f19 : Addr} {od19 an19 : Option Addr} {sl19 : Array (Option Value)} {oc19 kV19 dc19 pm19 cd19 ct19 : Value}
    {f20 : Addr} {od20 an20 : Option Addr} {sl20 : Array (Option Value)} {oc20 kV20 dc20 pm20 cd20 ct20 : Value}
    {f21 : Addr} {od21 an21 : Option Addr} {sl21 : Array (Option Value)} {oc21 kV21 dc21 pm21 cd21 ct21 : Value}
    {f22 : Addr} {od22 an22 : Option Addr} {sl22 : Array (Option Value)} {oc22 kV22 dc22 pm22 cd22 ct22 : Value}
    {f23 : Addr} {od23 an23 : Option Addr} {sl23 : Array (Option Value)} {oc23 kV23 dc23 pm23 cd23 ct23 : Value}
    {f24 : Addr} {od24 an24 : Option Addr} {sl24 : Array (Option Value)} {oc24 kV24 dc24 pm24 cd24 ct24 : Value}
    {f25 : Addr} {od25 an25 : Option Addr} {sl25 : Array (Option Value)} {oc25 kV25 dc25 pm25 cd25 ct25 : Value}
    {f26 : Addr} {od26 an26 : Option Addr} {sl26 : Array (Option Value)} {oc26 kV26 dc26 pm26 cd26 ct26 : Value}
    {f27 : Addr} {od27 an27 : Option Addr} {sl27 : Array (Option Value)} {oc27 kV27 dc27 pm27 cd27 ct27 : Value}
    {aALWAYS : Addr} {odA : Option Addr} {nA : Nat} {slA : Array (Option Value)} {itA : Array Value}
    {dK : Addr} {tK0 : Tok} {cK0 : Value} {odK0 : Option Addr} {hK0 : Int} {nK0 : Nat} {slK0 : Array (Option Value)}
    (a0 : PySem.W.nsIn K mainGlobals "_law_draw" = some (some (.ref f0))) (l0 : K.lookup f0 = some ⟨oc0, od0, .func (PySem.W.fnOf "_law_draw" "_law_draw" (defArgs s_L_draw) (defBody s_L_draw) (defScope s_L_draw) .none kV0 dc0 pm0 an0 cd0 ct0), sl0⟩) (c0 : PySem.W.codeIn K cd0 "_law_draw" = true) (k0 : PySem.W.keepIn K (.ref f0) = true)
    (a1 : PySem.W.nsIn K mainGlobals "_law_deal" = some (some (.ref f1))) (l1 : K.lookup f1 = some ⟨oc1, od1, .func (PySem.W.fnOf "_law_deal" "_law_deal" (defArgs s_L_deal) (defBody s_L_deal) (defScope s_L_deal) .none kV1 dc1 pm1 an1 cd1 ct1), sl1⟩) (c1 : PySem.W.codeIn K cd1 "_law_deal" = true) (k1 : PySem.W.keepIn K (.ref f1) = true)
    (a2 : PySem.W.nsIn K mainGlobals "_law_words" = some (some (.ref f2))) (l2 : K.lookup f2 = some ⟨oc2, od2, .func (PySem.W.fnOf "_law_words" "_law_words" (defArgs s_L_words) (defBody s_L_words) (defScope s_L_words) .none kV2 dc2 pm2 an2 cd2 ct2), sl2⟩) (c2 : PySem.W.codeIn K cd2 "_law_words" = true) (k2 : PySem.W.keepIn K (.ref f2) = true)
    (a3 : PySem.W.nsIn K mainGlobals "_law_number" = some (some (.ref f3))) (l3 : K.lookup f3 = some ⟨oc3, od3, .func (PySem.W.fnOf "_law_number" "_law_number" (defArgs s_L_number) (defBody s_L_number) (defScope s_L_number) .none kV3 dc3 pm3 an3 cd3 ct3), sl3⟩) (c3 : PySem.W.codeIn K cd3 "_law_number" = true) (k3 : PySem.W.keepIn K (.ref f3) = true)
    (a4 : PySem.W.nsIn K mainGlobals "_law_expr" = some (some (.ref f4))) (l4 : K.lookup f4 = some ⟨oc4, od4, .func (PySem.W.fnOf "_law_expr" "_law_expr" (defArgs s_L_expr) (defBody s_L_expr) (defScope s_L_expr) .none kV4 dc4 pm4 an4 cd4 ct4), sl4⟩) (c4 : PySem.W.codeIn K cd4 "_law_expr" = true) (k4 : PySem.W.keepIn K (.ref f4) = true)
    (a5 : PySem.W.nsIn K mainGlobals "_law_test" = some (some (.ref f5))) (l5 : K.lookup f5 = some ⟨oc5, od5, .func (PySem.W.fnOf "_law_test" "_law_test" (defArgs s_L_test) (defBody s_L_test) (defScope s_L_test) .none kV5 dc5 pm5 an5 cd5 ct5), sl5⟩) (c5 : PySem.W.codeIn K cd5 "_law_test" = true) (k5 : PySem.W.keepIn K (.ref f5) = true)
    (a6 : PySem.W.nsIn K mainGlobals "_law_small" = some (some (.ref f6))) (l6 : K.lookup f6 = some ⟨oc6, od6, .func (PySem.W.fnOf "_law_small" "_law_small" (defArgs s_L_small) (defBody s_L_small) (defScope s_L_small) .none kV6 dc6 pm6 an6 cd6 ct6), sl6⟩) (c6 : PySem.W.codeIn K cd6 "_law_small" = true) (k6 : PySem.W.keepIn K (.ref f6) = true)
    (a7 : PySem.W.nsIn K mainGlobals "_law_mild" = some (some (.ref f7))) (l7 : K.lookup f7 = some ⟨oc7, od7, .func (PySem.W.fnOf "_law_mild" "_law_mild" (defArgs s_L_mild) (defBody s_L_mild) (defScope s_L_mild) .none kV7 dc7 pm7 an7 cd7 ct7), sl7⟩) (c7 : PySem.W.codeIn K cd7 "_law_mild" = true) (k7 : PySem.W.keepIn K (.ref f7) = true)
    (a8 : PySem.W.nsIn K mainGlobals "_law_alts" = some (some (.ref f8))) (l8 : K.lookup f8 = some ⟨oc8, od8, .func (PySem.W.fnOf "_law_alts" "_law_alts" (defArgs s_L_alts) (defBody s_L_alts) (defScope s_L_alts) .none kV8 dc8 pm8 an8 cd8 ct8), sl8⟩) (c8 : PySem.W.codeIn K cd8 "_law_alts" = true) (k8 : PySem.W.keepIn K (.ref f8) = true)
    (a9 : PySem.W.nsIn K mainGlobals "_law_root" = some (some (.ref f9))) (l9 : K.lookup f9 = some ⟨oc9, od9, .func (PySem.W.fnOf "_law_root" "_law_root" (defArgs s_L_root) (defBody s_L_root) (defScope s_L_root) .none kV9 dc9 pm9 an9 cd9 ct9), sl9⟩) (c9 : PySem.W.codeIn K cd9 "_law_root" = true) (k9 : PySem.W.keepIn K (.ref f9) = true)
    (a10 : PySem.W.nsIn K mainGlobals "_law_if" = some (some (.ref f10))) (l10 : K.lookup f10 = some ⟨oc10, od10, .func (PySem.W.fnOf "_law_if" "_law_if" (defArgs s_L_if) (defBody s_L_if) (defScope s_L_if) .none kV10 dc10 pm10 an10 cd10 ct10), sl10⟩) (c10 : PySem.W.codeIn K cd10 "_law_if" = true) (k10 : PySem.W.keepIn K (.ref f10) = true)
    (a11 : PySem.W.nsIn K mainGlobals "_law_times" = some (some (.ref f11))) (l11 : K.lookup f11 = some ⟨oc11, od11, .func (PySem.W.fnOf "_law_times" "_law_times" (defArgs s_L_times) (defBody s_L_times) (defScope s_L_times) .none kV11 dc11 pm11 an11 cd11 ct11), sl11⟩) (c11 : PySem.W.codeIn K cd11 "_law_times" = true) (k11 : PySem.W.keepIn K (.ref f11) = true)
    (a12 : PySem.W.nsIn K mainGlobals "_law_statement" = some (some (.ref f12))) (l12 : K.lookup f12 = some ⟨oc12, od12, .func (PySem.W.fnOf "_law_statement" "_law_statement" (defArgs s_L_statement) (defBody s_L_statement) (defScope s_L_statement) .none kV12 dc12 pm12 an12 cd12 ct12), sl12⟩) (c12 : PySem.W.codeIn K cd12 "_law_statement" = true) (k12 : PySem.W.keepIn K (.ref f12) = true)
    (a13 : PySem.W.nsIn K mainGlobals "_law_block" = some (some (.ref f13))) (l13 : K.lookup f13 = some ⟨oc13, od13, .func (PySem.W.fnOf "_law_block" "_law_block" (defArgs s_L_block) (defBody s_L_block) (defScope s_L_block) .none kV13 dc13 pm13 an13 cd13 ct13), sl13⟩) (c13 : PySem.W.codeIn K cd13 "_law_block" = true) (k13 : PySem.W.keepIn K (.ref f13) = true)
    (a14 : PySem.W.nsIn K mainGlobals "_law_book" = some (some (.ref f14))) (l14 : K.lookup f14 = some ⟨oc14, od14, .func (PySem.W.fnOf "_law_book" "_law_book" (defArgs s_L_book) (defBody s_L_book) (defScope s_L_book) .none kV14 dc14 pm14 an14 cd14 ct14), sl14⟩) (c14 : PySem.W.codeIn K cd14 "_law_book" = true) (k14 : PySem.W.keepIn K (.ref f14) = true)
    (a15 : PySem.W.nsIn K mainGlobals "unrolled" = some (some (.ref f15))) (l15 : K.lookup f15 = some ⟨oc15, od15, .func (PySem.W.fnOf "unrolled" "unrolled" (defArgs s_unrolled) (defBody s_unrolled) (defScope s_unrolled) .none kV15 dc15 pm15 an15 cd15 ct15), sl15⟩) (c15 : PySem.W.codeIn K cd15 "unrolled" = true) (k15 : PySem.W.keepIn K (.ref f15) = true)
    (a16 : PySem.W.nsIn K mainGlobals "many_rows" = some (some (.ref f16))) (l16 : K.lookup f16 = some ⟨oc16, od16, .func (PySem.W.fnOf "many_rows" "many_rows" (defArgs s_many_rows) (defBody s_many_rows) (defScope s_many_rows) .none kV16 dc16 pm16 an16 cd16 ct16), sl16⟩) (c16 : PySem.W.codeIn K cd16 "many_rows" = true) (k16 : PySem.W.keepIn K (.ref f16) = true)
    (a17 : PySem.W.nsIn K mainGlobals "put_statement" = some (some (.ref f17))) (l17 : K.lookup f17 = some ⟨oc17, od17, .func (PySem.W.fnOf "put_statement" "put_statement" (defArgs s_put_statement) (defBody s_put_statement) (defScope s_put_statement) .none kV17 dc17 pm17 an17 cd17 ct17), sl17⟩) (c17 : PySem.W.codeIn K cd17 "put_statement" = true) (k17 : PySem.W.keepIn K (.ref f17) = true)
    (a18 : PySem.W.nsIn K mainGlobals "put_block" = some (some (.ref f18))) (l18 : K.lookup f18 = some ⟨oc18, od18, .func (PySem.W.fnOf "put_block" "put_block" (defArgs s_put_block) (defBody s_put_block) (defScope s_put_block) .none kV18 dc18 pm18 an18 cd18 ct18), sl18⟩) (c18 : PySem.W.codeIn K cd18 "put_block" = true) (k18 : PySem.W.keepIn K (.ref f18) = true)
    (a19 : PySem.W.nsIn K mainGlobals "flow_of" = some (some (.ref f19))) (l19 : K.lookup f19 = some ⟨oc19, od19, .func (PySem.W.fnOf "flow_of" "flow_of" (defArgs s_flow_of) (defBody s_flow_of) (defScope s_flow_of) .none kV19 dc19 pm19 an19 cd19 ct19), sl19⟩) (c19 : PySem.W.codeIn K cd19 "flow_of" = true) (k19 : PySem.W.keepIn K (.ref f19) = true)
    (a20 : PySem.W.nsIn K mainGlobals "_law_ask" = some (some (.ref f20))) (l20 : K.lookup f20 = some ⟨oc20, od20, .func (PySem.W.fnOf "_law_ask" "_law_ask" (defArgs s_L_ask) (defBody s_L_ask) (defScope s_L_ask) .none kV20 dc20 pm20 an20 cd20 ct20), sl20⟩) (c20 : PySem.W.codeIn K cd20 "_law_ask" = true) (k20 : PySem.W.keepIn K (.ref f20) = true)
    (a21 : PySem.W.nsIn K mainGlobals "_law_lay" = some (some (.ref f21))) (l21 : K.lookup f21 = some ⟨oc21, od21, .func (PySem.W.fnOf "_law_lay" "_law_lay" (defArgs s_L_lay) (defBody s_L_lay) (defScope s_L_lay) .none kV21 dc21 pm21 an21 cd21 ct21), sl21⟩) (c21 : PySem.W.codeIn K cd21 "_law_lay" = true) (k21 : PySem.W.keepIn K (.ref f21) = true)
    (a22 : PySem.W.nsIn K mainGlobals "_law_flow" = some (some (.ref f22))) (l22 : K.lookup f22 = some ⟨oc22, od22, .func (PySem.W.fnOf "_law_flow" "_law_flow" (defArgs s_L_flow) (defBody s_L_flow) (defScope s_L_flow) .none kV22 dc22 pm22 an22 cd22 ct22), sl22⟩) (c22 : PySem.W.codeIn K cd22 "_law_flow" = true) (k22 : PySem.W.keepIn K (.ref f22) = true)
    (a23 : PySem.W.nsIn K mainGlobals "_law_bare" = some (some (.ref f23))) (l23 : K.lookup f23 = some ⟨oc23, od23, .func (PySem.W.fnOf "_law_bare" "_law_bare" (defArgs s_L_bare) (defBody s_L_bare) (defScope s_L_bare) .none kV23 dc23 pm23 an23 cd23 ct23), sl23⟩) (c23 : PySem.W.codeIn K cd23 "_law_bare" = true) (k23 : PySem.W.keepIn K (.ref f23) = true)
    (a24 : PySem.W.nsIn K mainGlobals "_law_long" = some (some (.ref f24))) (l24 : K.lookup f24 = some ⟨oc24, od24, .func (PySem.W.fnOf "_law_long" "_law_long" (defArgs s_L_long) (defBody s_L_long) (defScope s_L_long) .none kV24 dc24 pm24 an24 cd24 ct24), sl24⟩) (c24 : PySem.W.codeIn K cd24 "_law_long" = true) (k24 : PySem.W.keepIn K (.ref f24) = true)
    (a25 : PySem.W.nsIn K mainGlobals "_law_wide" = some (some (.ref f25))) (l25 : K.lookup f25 = some ⟨oc25, od25, .func (PySem.W.fnOf "_law_wide" "_law_wide" (defArgs s_L_wide) (defBody s_L_wide) (defScope s_L_wide) .none kV25 dc25 pm25 an25 cd25 ct25), sl25⟩) (c25 : PySem.W.codeIn K cd25 "_law_wide" = true) (k25 : PySem.W.keepIn K (.ref f25) = true)
    (a26 : PySem.W.nsIn K mainGlobals "_law_right" = some (some (.ref f26))) (l26 : K.lookup f26 = some ⟨oc26, od26, .func (PySem.W.fnOf "_law_right" "_law_right" (defArgs s_L_right) (defBody s_L_right) (defScope s_L_right) .none kV26 dc26 pm26 an26 cd26 ct26), sl26⟩) (c26 : PySem.W.codeIn K cd26 "_law_right" = true) (k26 : PySem.W.keepIn K (.ref f26) = true)
    (a27 : PySem.W.nsIn K mainGlobals "law" = some (some (.ref f27))) (l27 : K.lookup f27 = some ⟨oc27, od27, .func (PySem.W.fnOf "law" "law" (defArgs s_law) (defBody s_law) (defScope s_law) .none kV27 dc27 pm27 an27 cd27 ct27), sl27⟩) (c27 : PySem.W.codeIn K cd27 "law" = true) (k27 : PySem.W.keepIn K (.ref f27) = true)
    (z_min : PySem.W.nsIn K mainGlobals "min" = some none)
    (z_len : PySem.W.nsIn K mainGlobals "len" = some none)
    (z_list : PySem.W.nsIn K mainGlobals "list" = some none)
    (z_range : PySem.W.nsIn K mainGlobals "range" = some none)
    (z_repr : PySem.W.nsIn K mainGlobals "repr" = some none)
    (z_reversed : PySem.W.nsIn K mainGlobals "reversed" = some none)
    (z_max : PySem.W.nsIn K mainGlobals "max" = some none)
    (z_int : PySem.W.nsIn K mainGlobals "int" = some none)
    (z_tuple : PySem.W.nsIn K mainGlobals "tuple" = some none)
    (z_all : PySem.W.nsIn K mainGlobals "all" = some none)
    (z_enumerate : PySem.W.nsIn K mainGlobals "enumerate" = some none)
    (q1 : PySem.W.nsIn K mainGlobals "ALWAYS" = some (some (.ref aALWAYS)))
    (q2 : K.lookup aALWAYS = some ⟨.type "tuple", odA, .seq itA nA, slA⟩)
    (q3 : Vals [V.str "num", V.int 1] itA.toList)
    (kd0 : kV19 = .ref dK)
    (kl0 : K.lookup dK = some ⟨cK0, odK0, .dict #[⟨hK0, .str "asked" tK0, .ref aALWAYS⟩] nK0, slK0⟩) :
    ∃ fd : FuncData, (∀ (s : Shared) (v : Value), BindsTo s fd ⟨[v], []⟩ [("_law_script", v)]) ∧ ∀ base : Heap, K.In base → base.Ns mainGlobals mg → FnOk l.prog w K mg base CX0 28 fa fd ["_law_script"] (spLaw K) := by
  have e := hfa.symm.trans (PySem.W.mg_of X G a27)
  cases e
  have Z : Zb mg := { min := PySem.W.mg_none_of X G z_min, len := PySem.W.mg_none_of X G z_len, list := PySem.W.mg_none_of X G z_list, range := PySem.W.mg_none_of X G z_range, repr := PySem.W.mg_none_of X G z_repr, reversed := PySem.W.mg_none_of X G z_reversed, max := PySem.W.mg_none_of X G z_max, int := PySem.W.mg_none_of X G z_int, tuple := PySem.W.mg_none_of X G z_tuple, all := PySem.W.mg_none_of X G z_all, enumerate := PySem.W.mg_none_of X G z_enumerate }
  have F0 := fun_mk (st := s_L_draw) l0 c0 k0
  have b0 := F0.binds (ps := ps_L_draw) fun _ _ _ _ _ _ us hl => match us, hl with | [_, _], _ => rfl
  have F1 := fun_mk (st := s_L_deal) l1 c1 k1
  have b1 := F1.binds (ps := ps_L_deal) fun _ _ _ _ _ _ us hl => match us, hl with | [_, _], _ => rfl
  have F2 := fun_mk (st := s_L_words) l2 c2 k2
  have b2 := F2.binds (ps := ps_L_words) fun _ _ _ _ _ _ us hl => match us, hl with | [_, _], _ => rfl
  have F3 := fun_mk (st := s_L_number) l3 c3 k3
  have b3 := F3.binds (ps := ps_L_number) fun _ _ _ _ _ _ us hl => match us, hl with | [_], _ => rfl
  have F4 := fun_mk (st := s_L_expr) l4 c4 k4
  have b4 := F4.binds (ps := ps_L_expr) fun _ _ _ _ _ _ us hl => match us, hl with | [_, _, _], _ => rfl
  have F5 := fun_mk (st := s_L_test) l5 c5 k5
  have b5 := F5.binds (ps := ps_L_test) fun _ _ _ _ _ _ us hl => match us, hl with | [_, _], _ => rfl
  have F6 := fun_mk (st := s_L_small) l6 c6 k6
  have b6 := F6.binds (ps := ps_L_small) fun _ _ _ _ _ _ us hl => match us, hl with | [_, _], _ => rfl
  have F7 := fun_mk (st := s_L_mild) l7 c7 k7
  have b7 := F7.binds (ps := ps_L_mild) fun _ _ _ _ _ _ us hl => match us, hl with | [_, _], _ => rfl
  have F8 := fun_mk (st := s_L_alts) l8 c8 k8
  have b8 := F8.binds (ps := ps_L_alts) fun _ _ _ _ _ _ us hl => match us, hl with | [_, _, _], _ => rfl
  have F9 := fun_mk (st := s_L_root) l9 c9 k9
  have b9 := F9.binds (ps := ps_L_root) fun _ _ _ _ _ _ us hl => match us, hl with | [_, _], _ => rfl
  have F10 := fun_mk (st := s_L_if) l10 c10 k10
  have b10 := F10.binds (ps := ps_L_if) fun _ _ _ _ _ _ us hl => match us, hl with | [_, _, _, _, _], _ => rfl
  have F11 := fun_mk (st := s_L_times) l11 c11 k11
  have b11 := F11.binds (ps := ps_L_times) fun _ _ _ _ _ _ us hl => match us, hl with | [_, _, _, _, _], _ => rfl
  have F12 := fun_mk (st := s_L_statement) l12 c12 k12
  have b12 := F12.binds (ps := ps_L_statement) fun _ _ _ _ _ _ us hl => match us, hl with | [_, _, _, _, _], _ => rfl
  have F13 := fun_mk (st := s_L_block) l13 c13 k13
  have b13 := F13.binds (ps := ps_L_block) fun _ _ _ _ _ _ us hl => match us, hl with | [_, _, _, _, _], _ => rfl
  have F14 := fun_mk (st := s_L_book) l14 c14 k14
  have b14 := F14.binds (ps := ps_L_book) fun _ _ _ _ _ _ us hl => match us, hl with | [_], _ => rfl
  have F15 := fun_mk (st := s_unrolled) l15 c15 k15
  have b15 := F15.binds (ps := ps_unrolled) fun _ _ _ _ _ _ us hl => match us, hl with | [_], _ => rfl
  have F16 := fun_mk (st := s_many_rows) l16 c16 k16
  have b16 := F16.binds (ps := ps_many_rows) fun _ _ _ _ _ _ us hl => match us, hl with | [_], _ => rfl
  have F17 := fun_mk (st := s_put_statement) l17 c17 k17
  have b17 := F17.binds (ps := ps_put_statement) fun _ _ _ _ _ _ us hl => match us, hl with | [_, _, _], _ => rfl
  have F18 := fun_mk (st := s_put_block) l18 c18 k18
  have b18 := F18.binds (ps := ps_put_block) fun _ _ _ _ _ _ us hl => match us, hl with | [_, _, _], _ => rfl
  have F19 := fun_mk (st := s_flow_of) l19 c19 k19
  subst kd0
  have kb19 : KBinds K _ ps_flow_of ["asked"] g11 g11 := F19.kbinds (fun _ _ _ _ _ _ us ws hl => match us, ws, hl with | [_], [_], _ => rfl) g11_rel
  have kd19 : KBinds K _ ps_flow_of [] (gD1 (.ref aALWAYS)) (gD1 (V.ref aALWAYS)) := ⟨fun s us ws X hl => match us, ws, hl with | [v], [], _ => bind_flow X kl0 dc19 pm19 an19 cd19 ct19 v, gD1_rel (x := V.ref aALWAYS) (y := .ref aALWAYS) rfl⟩
  have F20 := fun_mk (st := s_L_ask) l20 c20 k20
  have b20 := F20.binds (ps := ps_L_ask) fun _ _ _ _ _ _ us hl => match us, hl with | [_, _, _], _ => rfl
  have F21 := fun_mk (st := s_L_lay) l21 c21 k21
  have b21 := F21.binds (ps := ps_L_lay) fun _ _ _ _ _ _ us hl => match us, hl with | [_, _, _], _ => rfl
  have F22 := fun_mk (st := s_L_flow) l22 c22 k22
  have b22 := F22.binds (ps := ps_L_flow) fun _ _ _ _ _ _ us hl => match us, hl with | [_, _], _ => rfl
  have F23 := fun_mk (st := s_L_bare) l23 c23 k23
  have b23 := F23.binds (ps := ps_L_bare) fun _ _ _ _ _ _ us hl => match us, hl with | [_, _, _, _], _ => rfl
  have F24 := fun_mk (st := s_L_long) l24 c24 k24
  have b24 := F24.binds (ps := ps_L_long) fun _ _ _ _ _ _ us hl => match us, hl with | [_, _], _ => rfl
  have F25 := fun_mk (st := s_L_wide) l25 c25 k25
  have b25 := F25.binds (ps := ps_L_wide) fun _ _ _ _ _ _ us hl => match us, hl with | [_, _], _ => rfl
  have F26 := fun_mk (st := s_L_right) l26 c26 k26
  have b26 := F26.binds (ps := ps_L_right) fun _ _ _ _ _ _ us hl => match us, hl with | [_, _], _ => rfl
  have F27 := fun_mk (st := s_law) l27 c27 k27
  have sA : ∀ H, SqT K H aALWAYS [V.str "num", V.int 1] := fun H => .inr ⟨_, itA, nA, q2, rfl, rfl, by have := q3.length; simp at this; rw [← this]; decide, q3⟩
  refine ⟨PySem.W.fnOf "law" "law" (defArgs s_law) (defBody s_law) (defScope s_law) .none kV27 dc27 pm27 an27 cd27 ct27, fun s v => .of_eq rfl, fun base _ _ => ?_⟩
  have G_L_draw : FnIn l.prog w K mg base 1 "_law_draw" ps_L_draw spDraw := ⟨_, _, ok_draw F0 Z, PySem.W.mg_of X G a0, k0, b0⟩
  have G_L_deal : FnIn l.prog w K mg base 1 "_law_deal" ps_L_deal (spDeal K) := ⟨_, _, ok_deal F1 Z, PySem.W.mg_of X G a1, k1, b1⟩
  have G_L_words : FnIn l.prog w K mg base 2 "_law_words" ps_L_words spWords := ⟨_, _, ok_words F2 Z G_L_draw, PySem.W.mg_of X G a2, k2, b2⟩
  have G_L_number : FnIn l.prog w K mg base 2 "_law_number" ps_L_number spNum := ⟨_, _, ok_num F3 Z G_L_draw, PySem.W.mg_of X G a3, k3, b3⟩
  have G_L_expr : FnIn l.prog w K mg base 5 "_law_expr" ps_L_expr (spExpr K 3) := rec_expr F4 (PySem.W.mg_of X G a4) b4 Z G_L_draw G_L_number 3
  have G_L_test : FnIn l.prog w K mg base 6 "_law_test" ps_L_test (spTest K) := ⟨_, _, ok_test F5 Z G_L_draw G_L_expr, PySem.W.mg_of X G a5, k5, b5⟩
  have G_L_small : FnIn l.prog w K mg base 2 "_law_small" ps_L_small (spTest K) := ⟨_, _, ok_small F6 Z G_L_draw, PySem.W.mg_of X G a6, k6, b6⟩
  have G_L_mild : FnIn l.prog w K mg base 7 "_law_mild" ps_L_mild (spTest K) := ⟨_, _, ok_mild F7 Z G_L_draw G_L_test, PySem.W.mg_of X G a7, k7, b7⟩
  have G_L_alts : FnIn l.prog w K mg base 6 "_law_alts" ps_L_alts (spAlts K) := ⟨_, _, ok_alts F8 Z G_L_draw G_L_number G_L_expr G_L_small, PySem.W.mg_of X G a8, k8, b8⟩
  have G_L_root : FnIn l.prog w K mg base 1 "_law_root" ps_L_root spRoot := ⟨_, _, ok_root F9 Z, PySem.W.mg_of X G a9, k9, b9⟩
  have G_L_block : FnIn l.prog w K mg base 21 "_law_block" ps_L_block (spBlock K 4) := (rec_bk F10 (PySem.W.mg_of X G a10) b10 F11 (PySem.W.mg_of X G a11) b11 F12 (PySem.W.mg_of X G a12) b12 F13 (PySem.W.mg_of X G a13) b13 Z G_L_draw G_L_root G_L_expr G_L_test G_L_mild G_L_alts 4).2.2
  have G_L_book : FnIn l.prog w K mg base 22 "_law_book" ps_L_book (spBook K) := ⟨_, _, ok_book F14 Z G_L_draw G_L_words G_L_alts G_L_block, PySem.W.mg_of X G a14, k14, b14⟩
  have G_unrolled : FnIn l.prog w K mg base 7 "unrolled" ps_unrolled (spUn K 6) := rec_un F15 (PySem.W.mg_of X G a15) b15 Z 6
  have G_many_rows : FnIn l.prog w K mg base 14 "many_rows" ps_many_rows (spMR K 6) := rec_mr F16 (PySem.W.mg_of X G a16) b16 Z G_unrolled 6 (by omega)
  have G_put_block : FnIn l.prog w K mg base 25 "put_block" ps_put_block (spPB K 4) := (rec_put F17 (PySem.W.mg_of X G a17) b17 F18 (PySem.W.mg_of X G a18) b18 Z G_unrolled G_many_rows 4 (by omega)).2
  have GK_flow_of : FnK l.prog w K mg base 26 "flow_of" ps_flow_of (spFlow K) [] (gD1 (.ref aALWAYS)) := ⟨_, _, _, ok_flow F19 Z G_put_block G_many_rows, (PySem.W.mg_of X G a19), k19, kd19⟩
  have GK_flow_of_asked : FnK l.prog w K mg base 26 "flow_of" ps_flow_of (spFlow K) ["asked"] g11 := ⟨_, _, _, ok_flow F19 Z G_put_block G_many_rows, (PySem.W.mg_of X G a19), k19, kb19⟩
  have G_L_ask : FnIn l.prog w K mg base 7 "_law_ask" ps_L_ask (spAsk K) := ⟨_, _, ok_ask F20 Z G_L_test, PySem.W.mg_of X G a20, k20, b20⟩
  have G_L_lay : FnIn l.prog w K mg base 5 "_law_lay" ps_L_lay (spLay K 4) := rec_lay F21 (PySem.W.mg_of X G a21) b21 Z 4
  have G_L_flow : FnIn l.prog w K mg base 6 "_law_flow" ps_L_flow (spFlow K) := ⟨_, _, ok_lflow F22 Z G_L_lay, PySem.W.mg_of X G a22, k22, b22⟩
  have G_L_bare : FnIn l.prog w K mg base 6 "_law_bare" ps_L_bare (spBare K 4) := rec_bare F23 (PySem.W.mg_of X G a23) b23 Z G_L_draw 4
  have G_L_long : FnIn l.prog w K mg base 2 "_law_long" ps_L_long (spLW K) := ⟨_, _, ok_long F24 Z G_L_draw, PySem.W.mg_of X G a24, k24, b24⟩
  have G_L_wide : FnIn l.prog w K mg base 2 "_law_wide" ps_L_wide (spLW K) := ⟨_, _, ok_wide F25 Z G_L_draw, PySem.W.mg_of X G a25, k25, b25⟩
  have G_L_right : FnIn l.prog w K mg base 27 "_law_right" ps_L_right (spRight K) := ⟨_, _, ok_right F26 Z (PySem.W.mg_of X G q1) sA G_L_flow GK_flow_of GK_flow_of_asked, PySem.W.mg_of X G a26, k26, b26⟩
  exact ok_law F27 Z G_L_deal G_L_draw G_L_book G_L_ask G_L_bare G_L_long G_L_wide G_L_right
theorem walk {l : PySem.W.OpenLaw} {q : Program} {loose : List Str} {XP : (Str → Option Value) → Heap → Prop} {YP : World → Heap → Prop} {d : DefRec} {K : Params → PySem.W.Frag} (hn : l.most = some 63) (hdf : d.params.defaults = []) (hI : PyProof.Rows.importsNone q = true)
    (hY : ∀ (w : World) (h : Heap), YP w h → (K w.params).In h)
    (F : ∀ (w : World) (mg : Str → Option Value) (fa : Addr) (h : Heap), (K w.params).In h → h.Ns mainGlobals mg → mg d.name = some (.ref fa) →
      ∃ fd : FuncData, (∀ (s : Shared) (u : Value), BindsTo s fd ⟨[u], []⟩ [("_law_script", u)]) ∧ ∀ base : Heap, (K w.params).In base → base.Ns mainGlobals mg → FnOk l.prog w (K w.params) mg base CX0 28 fa fd ["_law_script"] (spLaw (K w.params))) :
    PySem.W.WalkO q loose XP YP l.row.toRowW d [] (fun f vs => PySem.call f vs) :=
  L2.walk_of (n := 63) (k := 28) (x := "_law_script") (CX := fun _ => CX0) (sp := fun w => spLaw (K w.params)) hn (by decide) hdf hI ⟨rfl, by decide, by decide, rfl⟩ hY F (fun _ _ a ns hl _ hS => ⟨a, ns, rfl, hS, hl, fun _ => rfl⟩) fun _ _ _ _ _ z => z
end My
open PySem PySem.W PyProof.Rows
set_option maxRecDepth 100000 in
set_option maxHeartbeats 0 in
theorem PySem.Challenge.cw_chancetongue_k27_flows_laid_out_holds : PySem.Challenge.rw_chancetongue_k27_flows_laid_out.Holds := by
  w_on; o_law; k_head; (case hw => w_witness2)
  k_fill
  refine My.walk (l := PySem.Challenge.rw_chancetongue_k27_flows_laid_out) rfl rfl (by decide +kernel) (fun w h Y => PySem.W.kIn_of Y) ?F
  case F =>
    intro w mg fa h KX G hmg
    refine' My.all_mk KX G hmg ?a0 ?l0 ?c0 ?k0 ?a1 ?l1 ?c1 ?k1 ?a2 ?l2 ?c2 ?k2 ?a3 ?l3 ?c3 ?k3 ?a4 ?l4 ?c4 ?k4 ?a5 ?l5 ?c5 ?k5 ?a6 ?l6 ?c6 ?k6 ?a7 ?l7 ?c7 ?k7 ?a8 ?l8 ?c8 ?k8 ?a9 ?l9 ?c9 ?k9 ?a10 ?l10 ?c10 ?k10 ?a11 ?l11 ?c11 ?k11 ?a12 ?l12 ?c12 ?k12 ?a13 ?l13 ?c13 ?k13 ?a14 ?l14 ?c14 ?k14 ?a15 ?l15 ?c15 ?k15 ?a16 ?l16 ?c16 ?k16 ?a17 ?l17 ?c17 ?k17 ?a18 ?l18 ?c18 ?k18 ?a19 ?l19 ?c19 ?k19 ?a20 ?l20 ?c20 ?k20 ?a21 ?l21 ?c21 ?k21 ?a22 ?l22 ?c22 ?k22 ?a23 ?l23 ?c23 ?k23 ?a24 ?l24 ?c24 ?k24 ?a25 ?l25 ?c25 ?k25 ?a26 ?l26 ?c26 ?k26 ?a27 ?l27 ?c27 ?k27 ?z_min ?z_len ?z_list ?z_range ?z_repr ?z_reversed ?z_max ?z_int ?z_tuple ?z_all ?z_enumerate ?q1 ?q2 ?q3 ?kd0 ?kl0
    (case a0 => k_is)
    (case l0 => k_is)
    (case c0 => k_is)
    (case k0 => k_is)
    (case a1 => k_is)
    (case l1 => k_is)
    (case c1 => k_is)
    (case k1 => k_is)
    (case a2 => k_is)
    (case l2 => k_is)
    (case c2 => k_is)
    (case k2 => k_is)
    (case a3 => k_is)
    (case l3 => k_is)
    (case c3 => k_is)
    (case k3 => k_is)
    (case a4 => k_is)
    (case l4 => k_is)
    (case c4 => k_is)
    (case k4 => k_is)
    (case a5 => k_is)
    (case l5 => k_is)
    (case c5 => k_is)
    (case k5 => k_is)
    (case a6 => k_is)
    (case l6 => k_is)
    (case c6 => k_is)
    (case k6 => k_is)
    (case a7 => k_is)
    (case l7 => k_is)
    (case c7 => k_is)
    (case k7 => k_is)
    (case a8 => k_is)
    (case l8 => k_is)
    (case c8 => k_is)
    (case k8 => k_is)
    (case a9 => k_is)
    (case l9 => k_is)
    (case c9 => k_is)
    (case k9 => k_is)
    (case a10 => k_is)
    (case l10 => k_is)
    (case c10 => k_is)
    (case k10 => k_is)
    (case a11 => k_is)
    (case l11 => k_is)
    (case c11 => k_is)
    (case k11 => k_is)
    (case a12 => k_is)
    (case l12 => k_is)
    (case c12 => k_is)
    (case k12 => k_is)
    (case a13 => k_is)
    (case l13 => k_is)
    (case c13 => k_is)
    (case k13 => k_is)
    (case a14 => k_is)
    (case l14 => k_is)
    (case c14 => k_is)
    (case k14 => k_is)
    (case a15 => k_is)
    (case l15 => k_is)
    (case c15 => k_is)
    (case k15 => k_is)
    (case a16 => k_is)
    (case l16 => k_is)
    (case c16 => k_is)
    (case k16 => k_is)
    (case a17 => k_is)
    (case l17 => k_is)
    (case c17 => k_is)
    (case k17 => k_is)
    (case a18 => k_is)
    (case l18 => k_is)
    (case c18 => k_is)
    (case k18 => k_is)
    (case a19 => k_is)
    (case l19 => k_is)
    (case c19 => k_is)
    (case k19 => k_is)
    (case a20 => k_is)
    (case l20 => k_is)
    (case c20 => k_is)
    (case k20 => k_is)
    (case a21 => k_is)
    (case l21 => k_is)
    (case c21 => k_is)
    (case k21 => k_is)
    (case a22 => k_is)
    (case l22 => k_is)
    (case c22 => k_is)
    (case k22 => k_is)
    (case a23 => k_is)
    (case l23 => k_is)
    (case c23 => k_is)
    (case k23 => k_is)
    (case a24 => k_is)
    (case l24 => k_is)
    (case c24 => k_is)
    (case k24 => k_is)
    (case a25 => k_is)
    (case l25 => k_is)
    (case c25 => k_is)
    (case k25 => k_is)
    (case a26 => k_is)
    (case l26 => k_is)
    (case c26 => k_is)
    (case k26 => k_is)
    (case a27 => k_is)
    (case l27 => k_is)
    (case c27 => k_is)
    (case k27 => k_is)
    (case z_min => k_is)
    (case z_len => k_is)
    (case z_list => k_is)
    (case z_range => k_is)
    (case z_repr => k_is)
    (case z_reversed => k_is)
    (case z_max => k_is)
    (case z_int => k_is)
    (case z_tuple => k_is)
    (case z_all => k_is)
    (case z_enumerate => k_is)
    (case q1 => k_is)
    (case q2 => k_is)
    (case q3 => repeat' (first | exact Paired.nil | refine Paired.cons ⟨_, rfl⟩ ?_))
    (case kd0 => exact rfl)
    (case kl0 => k_is)

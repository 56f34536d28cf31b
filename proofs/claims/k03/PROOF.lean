import PyProof.Rows.All
import Wide.All
import OpenK.AllK
import Wide.FinOn
import PyProof.EqAt
import PyProof.EqKinds
import PyProof.TupleCall
import KE.BitLaws
import PyProof.DictCompW
import PyProof.ListMulRoad
import PyProof.AutoListH
import PyProof.CallFns
import PyProof.StrLawsRepr
import PySem.Challenge.RW_pagemaker_k03_errors
set_option Elab.async false
set_option linter.all false
set_option maxRecDepth 100000
set_option maxHeartbeats 4000000
namespace TK
open PySem PySem.Spec PyProof.Rows
/-! ### the counter of made values never falls -/
theorem runs_le {M : Model} {Γ : PySem.Ctx} {p : Pos} {t : Sem Fin} {fs : List Frame} {s s' : Shared} {e : End} (h : Runs M Γ p t fs s e s') : s.toks ≤ s'.toks := by
  induction h with
  | done => exact Nat.le_refl _
  | raise => exact Nat.le_refl _
  | yield => exact Nat.le_refl _
  | fresh _ ih => exact Nat.le_trans (Nat.le_succ _) ih
  | call _ _ ih1 ih2 => exact Nat.le_trans ih1 ih2
  | resumeFresh _ _ _ _ ih1 ih2 => exact Nat.le_trans ih1 ih2
  | resumeSuspended _ _ _ _ ih1 ih2 => exact Nat.le_trans ih1 ih2
  | segRet _ _ ih1 ih2 => exact Nat.le_trans ih1 ih2
  | segGen _ _ ih1 ih2 => exact Nat.le_trans ih1 ih2
  | segSuspGen _ _ _ _ ih1 ih2 => exact Nat.le_trans ih1 ih2
  | _ => assumption
theorem wakes_le {M : Model} {Γ : PySem.Ctx} {p : Pos} {g : Nat} {r : Resume} {s s' : Shared} {res : GenResult} (h : Wakes M Γ p g r s res s') : s.toks ≤ s'.toks := by
  unfold Wakes at h
  split at h
  · exact h.elim
  · split at h
    · obtain ⟨e, s1, h1, _, _, rfl⟩ := h; have q := runs_le h1; exact q
    · obtain ⟨_, rfl⟩ := h; exact Nat.le_refl _
    · obtain ⟨_, rfl⟩ := h; exact Nat.le_refl _
  · obtain ⟨e, s1, h1, _, _, rfl⟩ := h; have q := runs_le h1; exact q
  · obtain ⟨_, rfl⟩ := h; exact Nat.le_refl _
  · obtain ⟨_, rfl⟩ := h; exact Nat.le_refl _
open Sem (wp) in
theorem wp_le {α : Type} {M : Model} {Γ : PySem.Ctx} (n : Nat) (t : Sem α) : ∀ {Q : α → Pos → Shared → Prop} {E : Value → Pos → Shared → Prop} {p : Pos} {s : Shared}, n ≤ s.toks → wp M Γ t Q E p s → wp M Γ t (fun a p' s' => Q a p' s' ∧ n ≤ s'.toks) E p s := by
  induction t with
  | pure a => intro Q E p s hn h; rw [Sem.wp] at h ⊢; exact ⟨h, hn⟩
  | raise e => intro Q E p s hn h; rw [Sem.wp] at h ⊢; exact h
  | unsupported w => intro Q E p s hn h; rw [Sem.wp] at h; exact h.elim
  | finish e => intro Q E p s hn h; rw [Sem.wp] at h; exact h.elim
  | rule tag k ih => intro Q E p s hn h; rw [Sem.wp] at h ⊢; exact ih () hn h
  | «at» pos k ih => intro Q E p s hn h; rw [Sem.wp] at h ⊢; exact ih () hn h
  | load a part k ih => intro Q E p s hn h; rw [Sem.wp] at h ⊢; obtain ⟨o, ho, h⟩ := h; exact ⟨o, ho, ih o hn h⟩
  | update a part f k ih => intro Q E p s hn h; rw [Sem.wp] at h ⊢; exact ⟨h.1, ih () hn h.2⟩
  | alloc o k ih => intro Q E p s hn h; rw [Sem.wp] at h ⊢; exact ih _ hn h
  | loadIfAlive a k ih => intro Q E p s hn h; rw [Sem.wp] at h ⊢; exact ih _ hn h
  | point l k ih => intro Q E p s hn h; rw [Sem.wp] at h ⊢; exact ih _ hn h
  | register a k ih => intro Q E p s hn h; rw [Sem.wp] at h; exact h.elim
  | fresh k ih => intro Q E p s hn h; rw [Sem.wp] at h ⊢; exact ih _ (Nat.le_succ_of_le hn) h
  | ask k ih => intro Q E p s hn h; rw [Sem.wp] at h ⊢; exact ih _ hn h
  | choose src m k ih => intro Q E p s hn h; rw [Sem.wp] at h ⊢; exact ⟨h.1, ih _ hn h.2⟩
  | os q l k ih => intro Q E p s hn h; rw [Sem.wp] at h ⊢; exact ih _ hn h
  | call c hd g l k ih =>
    intro Q E p s hn h; rw [Sem.wp] at h ⊢
    obtain ⟨r, s', h1, h2⟩ := h
    exact ⟨r, s', h1, ih r (Nat.le_trans hn (runs_le h1)) h2⟩
  | handled own k ih => intro Q E p s hn h; rw [Sem.wp] at h ⊢; exact ih _ hn h
  | newGen c k ih => intro Q E p s hn h; rw [Sem.wp] at h ⊢; exact ih _ hn h
  | genState g k ih => intro Q E p s hn h; rw [Sem.wp] at h ⊢; obtain ⟨st, e, h⟩ := h; exact ⟨st, e, ih _ hn h⟩
  | resume g r l k ih =>
    intro Q E p s hn h; rw [Sem.wp] at h ⊢
    obtain ⟨res, s', h1, h2⟩ := h
    exact ⟨res, s', h1, ih res (Nat.le_trans hn (wakes_le h1)) h2⟩
  | yield v g l k ih => intro Q E p s hn h; rw [Sem.wp] at h; exact h.elim
  | stack k ih => intro Q E p s hn h; rw [Sem.wp] at h ⊢; exact ih _ hn h
  | fork c k ih => intro Q E p s hn h; rw [Sem.wp] at h; exact h.elim
  | thread k ih => intro Q E p s hn h; rw [Sem.wp] at h ⊢; exact ih _ hn h
  | await a f d l k ih => intro Q E p s hn h; rw [Sem.wp] at h; exact h.elim
theorem wpAny_le {α : Type} {M : Model} {A : Around} {t : Sem α} {Q : α → Shared → Prop} {E : Value → Shared → Prop} {s : Shared} {n : Nat} (hn : n ≤ s.toks) (h : wpAny M A t Q E s) : wpAny M A t (fun a s' => Q a s' ∧ n ≤ s'.toks) E s :=
  fun Γ p g => wp_le n t hn (h Γ p g)
theorem up_tk {α : Type} {M : Model} {A : Around} {t : Sem α} {Q : α → Shared → Prop} {E : Value → Shared → Prop} {s : Shared} {n : Nat} (hs : n ≤ s.toks) (h : wpAny M A t (fun a s' => n ≤ s'.toks → Q a s') E s) : wpAny M A t Q E s :=
  wpAny_mono (wpAny_le hs h) (fun _ _ z => z.1 z.2) fun _ _ x => x
end TK
/-! THE HAND LAYER, for ints, bools, texts, own classes, lists, tuples, dicts, comprehensions, walks over dicts, enumerate, zip, reversed, texts, calls, loops. Paste it whole ahead of your own text; what your proof does not reach may be deleted. -/
namespace L2
open PySem PySem.Spec PyProof.Rows

/-- a key: an int or a str -/
abbrev Key := Sum Int Str
def keyIs : Key → Value → Bool
  | .inl k, v => Value.isInt k v
  | .inr x, v => Value.isStrOf x v
def keyH (w : World) : Key → Int
  | .inl k => hashInt k
  | .inr x => hashStr w x
theorem keyIs_shape : ∀ {k : Key} {v : Value}, keyIs k v = true → (∃ i t, k = Sum.inl i ∧ v = Value.int i t) ∨ (∃ x t, k = Sum.inr x ∧ v = Value.str x t)
  | .inl i, v, h => by
    obtain ⟨t, e⟩ := Value.isInt_shape (k := i) (v := v) h
    exact .inl ⟨i, t, rfl, e⟩
  | .inr x, v, h => by
    obtain ⟨t, e⟩ := Value.isStrOf_shape (x := x) (v := v) h
    exact .inr ⟨x, t, rfl, e⟩
theorem key_ll (a b : Int) : decide ((Sum.inl a : Key) = Sum.inl b) = (a == b) := by
  by_cases e : a = b
  · subst e; simp
  · have h : ¬ (Sum.inl a : Key) = Sum.inl b := fun q => e (Sum.inl.inj q)
    rw [decide_eq_false h]
    exact (beq_eq_false_iff_ne.mpr e).symm
theorem key_rr (a b : Str) : decide ((Sum.inr a : Key) = Sum.inr b) = decide (a = b) := by
  by_cases e : a = b
  · subst e; simp
  · have h : ¬ (Sum.inr a : Key) = Sum.inr b := fun q => e (Sum.inr.inj q)
    rw [decide_eq_false h, decide_eq_false e]
theorem key_lr (a : Int) (b : Str) : decide ((Sum.inl a : Key) = Sum.inr b) = false := decide_eq_false (fun q => nomatch q)
theorem key_rl (a : Str) (b : Int) : decide ((Sum.inr a : Key) = Sum.inl b) = false := decide_eq_false (fun q => nomatch q)

def mixKind (prog : Program) (w : World) : PySem.KeyKind prog w Key where
  is := keyIs
  hash := keyH w
  inj := fun v a b ha hb => by
    rcases keyIs_shape ha with ⟨i, t, rfl, rfl⟩ | ⟨x, t, rfl, rfl⟩
    · rcases keyIs_shape hb with ⟨j, u, rfl, e⟩ | ⟨y, u, rfl, e⟩
      · injection e with e1 _; rw [e1]
      · exact nomatch e
    · rcases keyIs_shape hb with ⟨j, u, rfl, e⟩ | ⟨y, u, rfl, e⟩
      · exact nomatch e
      · injection e with e1 _; rw [e1]
  byValue := fun k v h => by
    rcases keyIs_shape h with ⟨i, t, rfl, rfl⟩ | ⟨x, t, rfl, rfl⟩ <;> rfl
  pyHash := fun hv h => by
    rcases keyIs_shape hv with ⟨i, t, rfl, rfl⟩ | ⟨x, t, rfl, rfl⟩
    · exact wpAny_pyHash_int h
    · exact wpAny_pyHash_str h
  eqBool := fun hu hv h => by
    rcases keyIs_shape hu with ⟨i, t, rfl, rfl⟩ | ⟨x, t, rfl, rfl⟩
    · rcases keyIs_shape hv with ⟨j, u, rfl, rfl⟩ | ⟨y, u, rfl, rfl⟩
      · rw [key_ll] at h; exact wpAny_eqBool_int h
      · rw [key_lr] at h; exact SeqAt.EqAt.int_str i t y u _ _ _ _ h
    · rcases keyIs_shape hv with ⟨j, u, rfl, rfl⟩ | ⟨y, u, rfl, rfl⟩
      · rw [key_rl] at h; exact SeqAt.EqAt.str_int x t j u _ _ _ _ h
      · rw [key_rr] at h; exact wpAny_eqBool_str h
  «strs» := fun k x t v h => by
    rcases keyIs_shape h with ⟨i, u, rfl, e⟩ | ⟨y, u, rfl, e⟩
    · exact nomatch e
    · injection e with e1 _
      subst e1
      cases v <;> rfl

end L2

namespace L2
open PySem PySem.Spec PyProof.Rows

/-- a value, without the heap -/
inductive V where
  | non | bl (b : Bool) | int (i : Int) | str (x : Str) | byt (b : Array UInt8) | flt (b : UInt64) | ref (a : Addr) | ty (n : String)
  deriving DecidableEq

def RelV : V → Value → Prop
  | .non, u => u = Value.none
  | .bl b, u => u = Value.bool b
  | .int i, u => ∃ t, u = Value.int i t
  | .str x, u => ∃ t, u = Value.str x t
  | .byt b, u => ∃ t, u = Value.bytes b t
  | .flt b, u => ∃ t, u = Value.float b t
  | .ref a, u => u = Value.ref a
  | .ty n, u => u = Value.type n

abbrev Vals : List V → List Value → Prop := Paired RelV
theorem Vals.length {xs : List V} {us : List Value} (r : Vals xs us) : xs.length = us.length := Paired.length r
theorem Vals.get : ∀ {xs : List V} {us : List Value} {i : Nat} {x : V}, Vals xs us → xs[i]? = some x → ∃ u, us[i]? = some u ∧ RelV x u
  | _, _, _, _, .nil, e => by simp at e
  | _, _, 0, _, .cons r _, e => by simp at e; subst e; exact ⟨_, rfl, r⟩
  | _, _, i + 1, x, .cons _ t, e => by
    obtain ⟨u, h1, h2⟩ := Vals.get (i := i) (x := x) t (by simpa using e)
    exact ⟨u, by simpa using h1, h2⟩
theorem Vals.set {x : V} {u : Value} (r : RelV x u) : ∀ {xs : List V} {us : List Value} (i : Nat), Vals xs us → Vals (xs.set i x) (us.set i u)
  | _, _, _, .nil => .nil
  | _, _, 0, .cons _ t => .cons r t
  | _, _, i + 1, .cons q t => .cons q (Vals.set r i t)
theorem Vals.append : ∀ {xs ys : List V} {us ws : List Value}, Vals xs us → Vals ys ws → Vals (xs ++ ys) (us ++ ws)
  | _, _, _, _, .nil, s => s
  | _, _, _, _, .cons r t, s => .cons r (Vals.append t s)
theorem Vals.take : ∀ {xs : List V} {us : List Value} (n : Nat), Vals xs us → Vals (xs.take n) (us.take n)
  | _, _, 0, _ => .nil
  | _, _, _ + 1, .nil => .nil
  | _, _, n + 1, .cons r t => .cons r (Vals.take n t)
theorem Vals.drop : ∀ {xs : List V} {us : List Value} (n : Nat), Vals xs us → Vals (xs.drop n) (us.drop n)
  | _, _, 0, r => r
  | _, _, _ + 1, .nil => .nil
  | _, _, n + 1, .cons _ t => Vals.drop n t
theorem Vals.none_of : ∀ {xs : List V} {us : List Value} {i : Nat}, Vals xs us → xs[i]? = none → us[i]? = none := fun {xs us i} r e => by
  have h1 := r.length
  have h2 : xs.length ≤ i := List.getElem?_eq_none_iff.mp e
  exact List.getElem?_eq_none_iff.mpr (by omega)

def RelO : Option V → Option Value → Prop
  | some v, some u => RelV v u
  | none, none => True
  | _, _ => False
def KV {κ : Type} : List (κ × V) → List (κ × Value) → Prop := Paired fun (p : κ × V) (q : κ × Value) => p.1 = q.1 ∧ RelV p.2 q.2

/-- a key of a dict (00_mix): an int or a text -/
def kV : Key → V
  | .inl i => .int i
  | .inr x => .str x

/-- what stands at a tracked address -/
inductive HO where
  /-- a list -/
  | lst (xs : List V)
  /-- a tuple (never changes) -/
  | tup (xs : List V)
  /-- a dict whose keys are ints and texts; one whose keys are tuples of ints and texts (the empty one is both) -/
  | dK (kvs : List (Key × V)) | dT (kvs : List (List Key × V))
  /-- a set of ints: its members, its size -/
  | set (S : Int → Bool) (n : Nat)
  /-- an instance of the class at C, its dict at dx, its attributes -/
  | ins (C dx : Addr) (fs : List (Str × V))
  /-- the dict of the instance at x -/
  | own (x : Addr)
  /-- the dict of an exception -/
  | xd (fs : List (Str × V))
  /-- a bound method, f of x -/
  | met (f x : Addr)
  /-- a range object lo, lo + 1, .. below hi -/
  | rng (lo hi : Int)
  /-- a thing that is known to the object (the script; a dict while a loop walks it): read, never written while it is so -/
  | frz (o : Obj) (u : HO)
  /-- a code object's table -/
  | tbl (ps : Array Value)
  /-- any other thing, by what is true of its one object (a def of one's own: SetO a S n := HO.ext fun h => ..) -/
  | ext (φ : Heap → Prop)

abbrev Hp := Addr → Option HO
def upd (H : Hp) (a : Addr) (o : HO) : Hp := fun b => if b = a then some o else H b
theorem upd_same {H : Hp} {a : Addr} {o : HO} : upd H a o a = some o := by unfold upd; rw [if_pos rfl]
theorem upd_ne {H : Hp} {a b : Addr} {o : HO} (h : b ≠ a) : upd H a o b = H b := by unfold upd; rw [if_neg h]
theorem ne_of_none {H : Hp} {a b : Addr} {o : HO} (h : H a = some o) (h' : H b = none) : a ≠ b := by
  intro e; subst e; rw [h] at h'; cases h'

section
variable (P : Program) (w : World)
def ObjOk (H : Hp) (h : Heap) (a : Addr) : HO → Prop
  | .lst xs => xs.length ≤ sizeLine ∧ ∃ (its : List Value) (n : Nat), Vals xs its ∧ h.get? a = some { cls := .type "list", data := .seq its.toArray n }
  | .tup xs => xs.length ≤ sizeLine ∧ ∃ its : List Value, Vals xs its ∧ IsTup h a its.toArray
  | .dK kvs => kvs.length ≤ sizeLine ∧ (a == sysModules) = false ∧ ∃ vs, KV kvs vs ∧ h.DictOf (mixKind P w) a vs
  | .dT kvs => kvs.length ≤ sizeLine ∧ (a == sysModules) = false ∧ ∃ xs : List (List Key × Addr × Value),
      Paired (fun (p : List Key × V) (q : List Key × Addr × Value) => p.1 = q.1 ∧ H q.2.1 = some (.tup (p.1.map kV)) ∧ RelV p.2 q.2.2) kvs xs ∧
      ∃ o es ep, h.get? a = some o ∧ o.ExactDict ∧ o.data = .dict es ep ∧ es.toList = xs.map (entryOfKey (tupleKind (mixKind P w))) ∧ (xs.map (·.1)).Nodup
  | .set S n => h.SetOf (intKind P w) a S n
  | .ins C dx fs => H dx = some (.own a) ∧ fs.length ≤ 1000 ∧ dx ≠ a ∧ h.get? a = some (PySem.W.instObj C dx) ∧
      ∃ mA, h.Ns1 dx mA ∧ (∀ f, RelO (fs.lookup f) (mA f)) ∧ PySem.Within mA (fs.map (·.1))
  | .own _ => ∃ o, h.get? a = some o
  | .xd fs => ∃ mA, h.Ns1 a mA ∧ ∀ f, RelO (fs.lookup f) (mA f)
  | .rng lo hi => ∃ t u v, h.get? a = some { cls := .type "range", data := .fields #[.int lo t, .int hi u, .int 1 v] }
  | .frz o u => h.get? a = some o ∧ ObjOk H h a u
  | .tbl ps => h.get? a = some { cls := .none, data := .fields ps }
  | .met f x => h.get? a = some (PySem.W.methodObj (.ref f) (.ref x))
  | .ext φ => φ h ∧ (∃ o, h.get? a = some o) ∧ ∀ h1 h2 : Heap, φ h1 → (∀ o, h1.get? a = some o → h2.get? a = some o) → φ h2
/-- the abstract heap is held -/
def HOk (H : Hp) (h : Heap) : Prop := ∀ a o, H a = some o → ObjOk P w H h a o
end

section
variable {P : Program} {w : World} {H H' : Hp} {h h' : Heap} {a : Addr} {o : HO}
theorem ObjOk.lt (x : ObjOk P w H h a o) : a < h.objs.size := by
  cases o with
  | lst xs => obtain ⟨_, _, _, _, e⟩ := x; exact Heap.lt_size e
  | tup xs => obtain ⟨_, _, _, p⟩ := x; exact p.lt
  | dK kvs => obtain ⟨_, _, _, _, o, _, _, e, _⟩ := x; exact Heap.lt_size e
  | dT kvs => obtain ⟨_, _, _, _, o, _, _, e, _⟩ := x; exact Heap.lt_size e
  | set S n => obtain ⟨o, _, _, _, e, _⟩ := x; exact Heap.lt_size e
  | ins C dx fs => obtain ⟨_, _, _, e, _⟩ := x; exact Heap.lt_size e
  | own y => obtain ⟨_, e⟩ := x; exact Heap.lt_size e
  | xd fs => obtain ⟨_, ⟨_, _, _, e, _⟩, _⟩ := x; exact Heap.lt_size e
  | rng lo hi => obtain ⟨_, _, _, e⟩ := x; exact Heap.lt_size e
  | frz ob u => obtain ⟨e, _⟩ := x; exact Heap.lt_size e
  | tbl ps => exact Heap.lt_size (show h.get? a = some _ from x)
  | met f y => exact Heap.lt_size (show h.get? a = some _ from x)
  | ext φ => obtain ⟨_, ⟨_, e⟩, _⟩ := x; exact Heap.lt_size e
theorem Paired.mapP {α β : Type} {F G : α → β → Prop} : ∀ {l₁ : List α} {l₂ : List β}, Paired F l₁ l₂ → (∀ a b, F a b → G a b) → Paired G l₁ l₂
  | _, _, .nil, _ => .nil
  | _, _, .cons r t, f => .cons (f _ _ r) (Paired.mapP t f)
/-- what an object's description leans on: its own object, its own dict, the tuples -/
theorem ObjOk.stay (x : ObjOk P w H h a o) (k : ∀ b u, (b = a ∨ H b = some (.own a)) → h.get? b = some u → h'.get? b = some u)
    (ho : ∀ b, H b = some (.own a) → H' b = some (.own a)) (ht : ∀ b xs, H b = some (.tup xs) → H' b = some (.tup xs)) : ObjOk P w H' h' a o := by
  induction o with
  | lst xs => obtain ⟨z, its, n, r, e⟩ := x; exact ⟨z, its, n, r, k _ _ (.inl rfl) e⟩
  | tup xs => obtain ⟨z, its, r, ob, e, c⟩ := x; exact ⟨z, its, r, ob, k _ _ (.inl rfl) e, c⟩
  | dK kvs => obtain ⟨z, y, vs, r, ob, es, ep, e, c⟩ := x; exact ⟨z, y, vs, r, ob, es, ep, k _ _ (.inl rfl) e, c⟩
  | dT kvs =>
    obtain ⟨z, y, xs, r, ob, es, ep, e, c⟩ := x
    exact ⟨z, y, xs, Paired.mapP r fun p q z => ⟨z.1, ht _ _ z.2.1, z.2.2⟩, ob, es, ep, k _ _ (.inl rfl) e, c⟩
  | set S n => obtain ⟨ob, es, ep, t, e, c⟩ := x; exact ⟨ob, es, ep, t, k _ _ (.inl rfl) e, c⟩
  | ins C dx fs =>
    obtain ⟨d, z, ne, e, mA, ⟨od, es, ep, e2, c⟩, r⟩ := x
    exact ⟨ho _ d, z, ne, k _ _ (.inl rfl) e, mA, ⟨od, es, ep, k _ _ (.inr d) e2, c⟩, r⟩
  | own y => obtain ⟨ob, e⟩ := x; exact ⟨ob, k _ _ (.inl rfl) e⟩
  | xd fs => obtain ⟨mA, ⟨od, es, ep, e, c⟩, r⟩ := x; exact ⟨mA, ⟨od, es, ep, k _ _ (.inl rfl) e, c⟩, r⟩
  | rng lo hi => obtain ⟨t, u, v, e⟩ := x; exact ⟨t, u, v, k _ _ (.inl rfl) e⟩
  | frz ob u ih => obtain ⟨e, q⟩ := x; exact ⟨k _ _ (.inl rfl) e, ih q⟩
  | tbl ps =>
    have e : h.get? a = some { cls := .none, data := .fields ps } := x
    show h'.get? a = some { cls := .none, data := .fields ps }
    exact k a _ (.inl rfl) e
  | met f y =>
    have e : h.get? a = some (PySem.W.methodObj (.ref f) (.ref y)) := x
    show h'.get? a = some (PySem.W.methodObj (.ref f) (.ref y))
    exact k a _ (.inl rfl) e
  | ext φ => obtain ⟨p, ⟨o, e⟩, st⟩ := x; exact ⟨st _ _ p fun o q => k _ _ (.inl rfl) q, ⟨o, k _ _ (.inl rfl) e⟩, st⟩
theorem HOk.lt (x : HOk P w H h) (e : H a = some o) : a < h.objs.size := (x a o e).lt
theorem HOk.fresh (x : HOk P w H h) (e : h.objs.size ≤ a) : H a = none := by
  cases q : H a with
  | none => rfl
  | some u => exact absurd (Nat.lt_of_lt_of_le (x.lt q) e) (Nat.lt_irrefl _)
/-- every object of the heap is kept -/
theorem HOk.kept (x : HOk P w H h) (k : ∀ b u, h.get? b = some u → h'.get? b = some u) : HOk P w H h' := fun a o e =>
  (x a o e).stay (fun b u _ q => k b u q) (fun _ q => q) fun _ _ q => q
/-- a new object is laid and tracked -/
theorem HOk.laid (x : HOk P w H h) (k : ∀ b u, h.get? b = some u → h'.get? b = some u) (hp : h.objs.size ≤ a) (new : ObjOk P w (upd H a o) h' a o) : HOk P w (upd H a o) h' := fun b u e => by
  have hn := x.fresh hp
  by_cases hb : b = a
  · subst hb; rw [upd_same] at e; cases e; exact new
  · rw [upd_ne hb] at e
    exact (x b u e).stay (fun c v _ q => k c v q) (fun c q => by rw [upd_ne (ne_of_none q hn)]; exact q) fun c xs q => by rw [upd_ne (ne_of_none q hn)]; exact q
end

/-- what may be read as u: it is u, or a known u -/
def Rd (H : Hp) (a : Addr) (u : HO) : Prop := H a = some u ∨ ∃ o, H a = some (.frz o u)
theorem Rd.of {H : Hp} {a : Addr} {u : HO} (h : H a = some u) : Rd H a u := .inl h
theorem Rd.ok {P : Program} {w : World} {H : Hp} {h : Heap} {a : Addr} {u : HO} (r : Rd H a u) (x : HOk P w H h) : ObjOk P w H h a u := by
  rcases r with r | ⟨o, r⟩
  · exact x a u r
  · obtain ⟨_, q⟩ := x a _ r
    exact q
/-- what may be written -/
def Mut : Option HO → Prop
  | some (.lst _) => True
  | some (.dK _) => True
  | some (.dT _) => True
  | some (.set _ _) => True
  | some (.ins _ _ _) => True
  | some (.ext _) => True
  | _ => False
section
variable {P : Program} {w : World} {H : Hp} {h h' : Heap} {x e : Addr} {o' : HO}
/-- the object at e is changed: x itself, or the dict of the instance x -/
theorem HOk.write (ok : HOk P w H h) (mu : Mut (H x)) (he : e = x ∨ H e = some (.own x)) (k : ∀ b u, b ≠ e → h.get? b = some u → h'.get? b = some u) (heo : ∃ u, h'.get? e = some u)
    (new : ObjOk P w (upd H x o') h' x o') : HOk P w (upd H x o') h' := fun b u q => by
  have nown : ∀ c y, H c = some (.own y) → c ≠ x := fun c y r z => by subst z; rw [r] at mu; exact mu
  have ntup : ∀ c xs, H c = some (.tup xs) → c ≠ x := fun c xs r z => by subst z; rw [r] at mu; exact mu
  by_cases hb : b = x
  · subst hb; rw [upd_same] at q; cases q; exact new
  · rw [upd_ne hb] at q
    by_cases hbe : b = e
    · have q' : H b = some (.own x) := by
        rcases he with z | z
        · exact absurd (hbe.trans z) hb
        · rw [hbe]; exact z
      rw [q] at q'; cases q'
      obtain ⟨v, hv⟩ := heo
      exact ⟨v, by rw [hbe]; exact hv⟩
    · refine (ok b u q).stay (fun c v hc r => k c v ?_ r) (fun c r => by rw [upd_ne (nown c b r)]; exact r) fun c xs r => by rw [upd_ne (ntup c xs r)]; exact r
      rcases hc with rfl | hc
      · exact hbe
      · rintro rfl
        rcases he with z | z
        · exact nown c b hc z
        · rw [hc] at z; cases z; exact hb rfl
end

/-! ### kept unless tracked; of the frames at fs (the callers') the slots may change (an exception that passes writes there); of the records at ex (iterators) nothing is said -/
structure Un (fs ex : List Addr) (H H' : Hp) (h h' : Heap) : Prop where
  keep : ∀ b o, h.get? b = some o → H b = none → b ∉ fs → b ∉ ex → h'.get? b = some o
  slot : ∀ b o, h.get? b = some o → H b = none → b ∈ fs → b ∉ ex → ∃ sl, h'.get? b = some { o with slots := sl }
  free : ∀ b o, h.get? b = some o → H b = none → b ∉ ex → H' b = none
  there : ∀ b o, h.get? b = some o → b ∉ ex → ∃ o', h'.get? b = some o'
  tups : ∀ b xs, H b = some (.tup xs) → H' b = some (.tup xs)
  frzs : ∀ b o u, H b = some (.frz o u) → H' b = some (.frz o u)
  tbls : ∀ b ps, H b = some (.tbl ps) → ∃ more, H' b = some (.tbl (ps ++ more))
section
variable {fs fs' ex ex' : List Addr} {H H1 H2 : Hp} {h h1 h2 h' : Heap} {a x e : Addr} {o : HO}
theorem Un.any (u : Un fs ex H H1 h h1) {b : Addr} {ob : Obj} (q : h.get? b = some ob) (n : H b = none) (hx : b ∉ ex) : ∃ sl, h1.get? b = some { ob with slots := sl } := by
  by_cases hb : b ∈ fs
  · exact u.slot b ob q n hb hx
  · exact ⟨ob.slots, u.keep b ob q n hb hx⟩
theorem Un.trans (a : Un fs ex H H1 h h1) (b : Un fs ex H1 H2 h1 h2) : Un fs ex H H2 h h2 where
  keep := fun c ob q n hc hx => b.keep c ob (a.keep c ob q n hc hx) (a.free c ob q n hx) hc hx
  slot := fun c ob q n hc hx => by
    obtain ⟨sl, e1⟩ := a.slot c ob q n hc hx
    obtain ⟨sl', e2⟩ := b.slot c _ e1 (a.free c ob q n hx) hc hx
    exact ⟨sl', e2⟩
  free := fun c ob q n hx => by
    obtain ⟨o', e1⟩ := a.there c ob q hx
    exact b.free c o' e1 (a.free c ob q n hx) hx
  there := fun c ob q hx => by
    obtain ⟨o', e1⟩ := a.there c ob q hx
    exact b.there c o' e1 hx
  tups := fun c xs q => b.tups c xs (a.tups c xs q)
  frzs := fun c ob xs q => b.frzs c ob xs (a.frzs c ob xs q)
  tbls := fun c ps q => by
    obtain ⟨m1, e1⟩ := a.tbls c ps q
    obtain ⟨m2, e2⟩ := b.tbls c _ e1
    exact ⟨m1 ++ m2, by rw [e2, Array.append_assoc]⟩
theorem Un.kept (k : ∀ b u, h.get? b = some u → h'.get? b = some u) : Un fs ex H H h h' :=
  ⟨fun b ob q _ _ _ => k b ob q, fun b ob q _ _ _ => ⟨ob.slots, k b ob q⟩, fun _ _ _ n _ => n, fun b ob q _ => ⟨ob, k b ob q⟩, fun _ _ q => q, fun _ _ _ q => q, fun _ ps q => ⟨#[], by rw [q]; simp⟩⟩
theorem Un.refl : Un fs ex H H h h := Un.kept fun _ _ q => q
theorem Un.laid (k : ∀ b u, h.get? b = some u → h'.get? b = some u) (hp : h.objs.size ≤ a) (hn : H a = none) : Un fs ex H (upd H a o) h h' where
  keep := fun b u q _ _ _ => k b u q
  slot := fun b u q _ _ _ => ⟨u.slots, k b u q⟩
  free := fun b u q n _ => by rw [upd_ne (Nat.ne_of_lt (Nat.lt_of_lt_of_le (Heap.lt_size q) hp))]; exact n
  there := fun b u q _ => ⟨u, k b u q⟩
  tups := fun b xs q => by rw [upd_ne (ne_of_none q hn)]; exact q
  frzs := fun b u xs q => by rw [upd_ne (ne_of_none q hn)]; exact q
  tbls := fun b ps q => ⟨#[], by rw [upd_ne (ne_of_none q hn), q]; simp⟩
theorem Un.write (mu : Mut (H x)) (he : e = x ∨ H e = some (.own x)) (k : ∀ b u, b ≠ e → h.get? b = some u → h'.get? b = some u) (heo : ∃ u, h'.get? e = some u) : Un fs ex H (upd H x o) h h' := by
  have hx : ∀ b, H b = none → b ≠ x := fun b n z => by subst z; rw [n] at mu; exact mu
  have hb : ∀ b, H b = none → b ≠ e := fun b n z => by
    subst z
    rcases he with r | r
    · exact hx b n r
    · rw [n] at r; cases r
  have hm : ∀ b u, H b = some u → ¬ Mut (some u) → b ≠ x := fun b u q nm z => by subst z; rw [q] at mu; exact nm mu
  refine ⟨fun b u q n _ _ => k b u (hb b n) q, fun b u q n _ _ => ⟨u.slots, k b u (hb b n) q⟩, fun b u q n _ => by rw [upd_ne (hx b n)]; exact n, fun b u q _ => ?_,
    fun b xs q => by rw [upd_ne (hm b _ q fun z => z)]; exact q, fun b u xs q => by rw [upd_ne (hm b _ q fun z => z)]; exact q, fun b ps q => ⟨#[], by rw [upd_ne (hm b _ q fun z => z), q]; simp⟩⟩
  by_cases hbe : b = e
  · subst hbe; exact heo
  · exact ⟨u, k b u hbe q⟩
theorem Un.mono (u : Un fs ex H H1 h h1) (hs : ∀ b ∈ fs, b ∈ fs') (hx : ∀ b ∈ ex, b ∈ ex') : Un fs' ex' H H1 h h1 :=
  ⟨fun b ob q n hb he => u.keep b ob q n (fun z => hb (hs b z)) fun z => he (hx b z), fun _ _ q n _ he => u.any q n fun z => he (hx _ z), fun b ob q n he => u.free b ob q n fun z => he (hx b z), fun b ob q he => u.there b ob q fun z => he (hx b z), u.tups, u.frzs, u.tbls⟩
end

/-! ### the heap without what is tracked -/
def trk (h : Heap) (H : Hp) : List Addr := (List.range h.objs.size).filter fun a => (H a).isSome
def hidT (h : Heap) (H : Hp) : Heap := PySem.W.hideAll h (trk h H)
theorem hidT_size (h : Heap) (H : Hp) : (hidT h H).objs.size = h.objs.size := PySem.W.hideAll_size _ _
theorem hidT_get {h : Heap} {H : Hp} {b : Addr} {o : Obj} (e : h.get? b = some o) (n : H b = none) : (hidT h H).get? b = some o :=
  PySem.W.hideAll_get _ e fun hm => by
    have q : (H b).isSome = true := (List.mem_filter.mp hm).2
    rw [n] at q; simp at q
theorem of_hidT {h : Heap} {H : Hp} {b : Addr} {o : Obj} (e : (hidT h H).get? b = some o) : h.get? b = some o ∧ H b = none := by
  have e' : h.get? b = some o := PySem.W.of_hideAll (trk h H) e
  refine ⟨e', ?_⟩
  cases q : H b with
  | none => rfl
  | some x =>
    have hm : b ∈ trk h H := List.mem_filter.mpr ⟨List.mem_range.mpr (Heap.lt_size e'), by simp [q]⟩
    have z : (hidT h H).get? b = none := PySem.W.hideAll_none (trk h H) hm
    rw [z] at e; cases e

/-! ### OpenK's ledger, filled with every new object but one -/
def allNews (g h : Heap) (L : Addr) : List (Addr × Obj) := (List.range h.objs.size).filterMap fun a => if a = L ∨ (g.get? a).isSome = true then none else (h.get? a).map fun o => (a, o)
def rest (g h : Heap) (L d : Addr) : List (Addr × Obj) := (allNews g h L).filter fun p => decide (p.1 ≠ d)
end L2

namespace L2
open PySem PySem.Spec PyProof.Rows

/-- the module's facts, over the base: the heap at the law's entry without what is tracked there -/
structure Mod (K : PySem.W.Frag) (mg : Str → Option Value) (base : Heap) : Prop where
  kin : K.In base
  glob : base.Ns mainGlobals mg
  blt : ∃ mb, base.Ns builtinsNs mb ∧ ∀ x : Str, x ≠ "__name__" → mb x = bootBuiltins x
  nolimit : base.NoLimit

/-- the context: a def's body (or a comprehension's block) running. base: fixed through the whole law; s₀, H₀: the entry; outer: the frames whose slots others may change (a def's callers); stack: all frames that run;
   ex: iterators that were made ahead of the entry and are walked here (a comprehension's); fn: the names whose cells were made at the entry (a def: all; a comprehension's block: its own); calm: not within an except suite; pn: pins that every state bears; xe: what is wanted of an exception that leaves the code -/
structure Cx where
  prog : Program
  w : World
  K : PySem.W.Frag
  mg : Str → Option Value
  base : Heap
  A : Around
  N : List Str
  s_0 : Shared
  H_0 : Hp
  env : Env
  outer : List Env
  stack : List Env
  ex : List Addr
  fn : Str → Bool
  calm : Bool
  pn : List (Addr × Obj)
  xe : Value → Shared → Prop
  tk : Nat
/-- the callers' frames -/
def frs (l : List Env) : List Addr := l.filterMap (·.frame)
abbrev Cx.fs (X : Cx) : List Addr := frs X.outer

def Vis (sc : Scope) (x : Str) : Prop := sc.names.lookup x = some .local ∨ sc.names.lookup x = some .cell ∨ sc.names.lookup x = some .free
def Loc (sc : Scope) (x : Str) : Prop := sc.names.lookup x = some .local ∨ sc.names.lookup x = some .cell
def Look (env : Env) (h : Heap) (m : Str → Option Value) (x : Str) (u : Value) : Prop :=
  (env.kindOf x = some .local ∧ m x = some u) ∨ ((env.kindOf x = some .cell ∨ env.kindOf x = some .free) ∧ ∃ c, env.cells.lookup x = some c ∧ h.IsCell c (some u))

structure Cx.Ok (X : Cx) : Prop where
  mod : Mod X.K X.mg X.base
  kind : X.env.scope.kind = .function
  glob : X.env.globals = mainGlobals
  blt : X.env.builtins = builtinsNs
  above : X.s_0.heap.objs.size ≤ X.env.locals
  inj : ∀ x y c, X.env.cells.lookup x = some c → X.env.cells.lookup y = some c → x = y
  has : ∀ x, (X.env.kindOf x = some .cell ∨ X.env.kindOf x = some .free) → ∃ c, X.env.cells.lookup x = some c
  cab : ∀ x c, X.fn x = true → X.env.cells.lookup x = some c → X.s_0.heap.objs.size ≤ c
  hd : X.calm = true → X.A.handled = none
  frames : X.A.frames = some X.stack
  stk : X.stack = X.outer ∨ (X.stack = X.env :: X.outer ∧ X.env.frame = some X.env.locals)
  exf : ∀ b ∈ X.ex, b ≠ X.env.locals ∧ ∀ x c, X.env.cells.lookup x = some c → c ≠ b
  bs : ∀ b o, X.base.get? b = some o → X.s_0.heap.get? b = some o ∧ X.H_0 b = none
  bsz : X.base.objs.size ≤ X.s_0.heap.objs.size
  noex : ∀ b o, X.base.get? b = some o → b ∉ X.ex
  exfs : ∀ b ∈ X.ex, b ∉ X.fs
  funs : X.s_0.heap.FunFrames X.base X.outer
  frf : ∀ b ∈ X.fs, X.H_0 b = none

structure Inv (X : Cx) (pins : List (Addr × Obj)) (σ : List (Option V)) (H : Hp) (s : Shared) : Prop where
  ok : X.Ok
  os : s.os = X.s_0.os
  bare : AllBare s.gens
  base : Un X.fs X.ex X.H_0 H X.s_0.heap s.heap
  loc : ∃ m, s.heap.Ns X.env.locals m ∧ ∀ (i : Nat) (x : Str) (v : V), X.N[i]? = some x → σ[i]? = some (some v) → Vis X.env.scope x → ∃ u, RelV v u ∧ Look X.env s.heap m x u
  cell : ∀ x c, X.env.cells.lookup x = some c → ∃ v, s.heap.IsCell c v
  free : H X.env.locals = none
  freeC : ∀ x c, X.env.cells.lookup x = some c → H c = none
  pin : ∀ p ∈ X.pn ++ pins, s.heap.get? p.1 = some p.2 ∧ H p.1 = none ∧ p.1 ≠ X.env.locals ∧ p.1 ∉ X.fs ∧ ∀ v, p.2.data ≠ .cell v
  hok : HOk X.prog X.w H s.heap
  len : σ.length = X.N.length
  tk : X.tk ≤ s.toks

section
variable {X : Cx} {pins : List (Addr × Obj)} {σ : List (Option V)} {H H' : Hp} {s : Shared} {h' : Heap}

theorem Cx.Ok.nofr (ok : X.Ok) {b : Addr} {o : Obj} (e : X.base.get? b = some o) : b ∉ X.fs := fun hb => by
  have := (ok.funs.mem hb).1
  rw [e] at this; cases this
theorem Inv.bs (I : Inv X pins σ H s) : ∀ b o, X.base.get? b = some o → s.heap.get? b = some o ∧ H b = none := fun b o e =>
  ⟨I.base.keep b o (I.ok.bs b o e).1 (I.ok.bs b o e).2 (I.ok.nofr e) (I.ok.noex b o e), I.base.free b o (I.ok.bs b o e).1 (I.ok.bs b o e).2 (I.ok.noex b o e)⟩
theorem Inv.bk (I : Inv X pins σ H s) : ∀ b o, X.base.get? b = some o → s.heap.get? b = some o := fun b o e => (I.bs b o e).1
theorem Inv.mod (I : Inv X pins σ H s) : Mod X.K X.mg X.base := I.ok.mod
theorem Inv.kIn (I : Inv X pins σ H s) : X.K.In s.heap := I.ok.mod.kin.keeps I.bk
theorem Inv.nolimit (I : Inv X pins σ H s) : s.heap.NoLimit := I.ok.mod.nolimit.keeps I.bk
/-- the frame over the base: for OpenK's rules (K.In X.base is I.mod.kin) -/
theorem Inv.fr (I : Inv X pins σ H s) : ∃ m, Fr X.base X.env.locals s.heap m :=
  let ⟨m, hn, _⟩ := I.loc
  ⟨m, hn, I.bk, Nat.le_trans I.ok.bsz I.ok.above⟩
theorem Inv.lt (I : Inv X pins σ H s) : X.env.locals < s.heap.objs.size := let ⟨_, hn, _⟩ := I.loc; hn.lt
theorem Inv.sz (I : Inv X pins σ H s) : X.s_0.heap.objs.size ≤ s.heap.objs.size := Nat.le_trans I.ok.above (Nat.le_of_lt I.lt)
theorem Inv.nofs (I : Inv X pins σ H s) {a : Addr} (h : s.heap.objs.size ≤ a) : a ∉ X.fs := fun hb => by
  obtain ⟨_, o, ho, _⟩ := I.ok.funs.mem hb
  exact absurd (Nat.lt_of_lt_of_le (Heap.lt_size ho) (Nat.le_trans I.sz h)) (Nat.lt_irrefl _)
theorem Inv.cne (I : Inv X pins σ H s) : ∀ x c, X.env.cells.lookup x = some c → c ≠ X.env.locals := fun x c e z => by
  obtain ⟨v, o, ho, hd⟩ := I.cell x c e
  obtain ⟨m, ⟨o', es, ep, ho', hd', _⟩, _⟩ := I.loc
  rw [z, ho'] at ho; cases ho; rw [hd'] at hd; cases hd
theorem Inv.funs (I : Inv X pins σ H s) : s.heap.FunFrames X.base X.outer := by
  have all : ∀ (l : List Env), (∀ b ∈ frs l, b ∈ X.fs) → X.s_0.heap.FunFrames X.base l → s.heap.FunFrames X.base l := by
    intro l
    induction l with
    | nil => intro _ _; trivial
    | cons env r ih =>
      intro hs hl
      obtain ⟨hk, ⟨L, o, hf, hn, ho, hd⟩, hr⟩ := hl
      have hL : L ∈ X.fs := hs L (by unfold frs; rw [List.filterMap_cons, hf]; exact List.mem_cons_self)
      obtain ⟨sl, e⟩ := I.base.slot L o ho (I.ok.frf L hL) hL fun z => I.ok.exfs L z hL
      exact ⟨hk, ⟨L, _, hf, hn, e, hd⟩, ih (fun b hb => hs b (by unfold frs; rw [List.filterMap_cons, hf]; exact List.mem_cons_of_mem _ hb)) hr⟩
  exact all X.outer (fun _ hb => hb) I.ok.funs

/-- the frames that run, for a call -/
theorem Inv.stack (I : Inv X pins σ H s) : s.heap.FunFrames X.base X.stack := by
  rcases I.ok.stk with e | ⟨e, hf⟩
  · rw [e]; exact I.funs
  · rw [e]
    obtain ⟨m, hn, _⟩ := I.loc
    refine .cons (by rw [I.ok.kind]; decide) hf hn ?_ I.funs
    exact Heap.get?_none_of_le (Nat.le_trans I.ok.bsz I.ok.above)
theorem Inv.stkSub (I : Inv X pins σ H s) : ∀ b ∈ frs X.stack, b ∈ X.env.locals :: X.fs := fun b hb => by
  rcases I.ok.stk with e | ⟨e, hf⟩
  · rw [e] at hb; exact List.mem_cons_of_mem _ hb
  · rw [e] at hb
    unfold frs at hb
    rw [List.filterMap_cons, hf] at hb
    exact hb
theorem Inv.stkFree (I : Inv X pins σ H s) : ∀ b ∈ frs X.stack, H b = none := fun b hb => by
  rcases List.mem_cons.mp (I.stkSub b hb) with e | hb
  · rw [e]; exact I.free
  · obtain ⟨_, o, ho, _⟩ := I.ok.funs.mem hb
    exact I.base.free b o ho (I.ok.frf b hb) fun z => I.ok.exfs b z hb

/-- THE STEP: the untracked objects but the frame and the records at ch are kept (the callers' frames up to slots), the frame's map is kept, the new abstract heap is held -/
theorem Inv.step {g' : Array GenState} {t' : Nat} {d' : Drawn} {ch : List Addr} (I : Inv X pins σ H s)
    (hch : ∀ b ∈ ch, (b ∈ X.ex ∨ X.s_0.heap.objs.size ≤ b) ∧ b ≠ X.env.locals ∧ (∀ x c, X.env.cells.lookup x = some c → c ≠ b) ∧ ∀ p ∈ X.pn ++ pins, p.1 ≠ b)
    (keep : ∀ b o, b ≠ X.env.locals → b ∉ X.fs → b ∉ ch → s.heap.get? b = some o → H b = none → h'.get? b = some o)
    (slot : ∀ b o, b ≠ X.env.locals → b ∈ X.fs → b ∉ ch → s.heap.get? b = some o → H b = none → ∃ sl, h'.get? b = some { o with slots := sl }) (free : ∀ b o, b ∉ ch → s.heap.get? b = some o → H b = none → H' b = none)
    (there : ∀ b o, b ∉ ch → s.heap.get? b = some o → ∃ o', h'.get? b = some o')
    (tups : ∀ b xs, H b = some (.tup xs) → H' b = some (.tup xs)) (frzs : ∀ b o u, H b = some (.frz o u) → H' b = some (.frz o u)) (tbls : ∀ b ps, H b = some (.tbl ps) → ∃ more, H' b = some (.tbl (ps ++ more)))
    (ns : ∀ m, s.heap.Ns X.env.locals m → h'.Ns X.env.locals m) (hok : HOk X.prog X.w H' h') (hg : AllBare g') (ht : X.tk ≤ t') :
    Inv X pins σ H' { s with heap := h', gens := g', drawn := d', toks := t' } := by
  have neL : ∀ b o, X.s_0.heap.get? b = some o → b ≠ X.env.locals := fun b o e => Nat.ne_of_lt (Nat.lt_of_lt_of_le (Heap.lt_size e) I.ok.above)
  have neC : ∀ b o, X.s_0.heap.get? b = some o → b ∉ X.ex → b ∉ ch := fun b o e hx hb => by
    rcases (hch b hb).1 with z | z
    · exact hx z
    · exact absurd (Nat.lt_of_lt_of_le (Heap.lt_size e) z) (Nat.lt_irrefl _)
  have cellK : ∀ x c, X.env.cells.lookup x = some c → ∀ v, s.heap.IsCell c v → h'.IsCell c v := fun x c e v ⟨o, ho, hd⟩ => by
    have nch : c ∉ ch := fun z => (hch c z).2.2.1 x c e rfl
    by_cases hc : c ∈ X.fs
    · obtain ⟨sl, q⟩ := slot c o (I.cne x c e) hc nch ho (I.freeC x c e)
      exact ⟨_, q, hd⟩
    · exact ⟨o, keep c o (I.cne x c e) hc nch ho (I.freeC x c e), hd⟩
  refine ⟨I.ok, I.os, hg, ⟨fun b o e n hb hx => ?_, fun b o e n hb hx => ?_, fun b o e n hx => ?_, fun b o e hx => ?_, fun b xs e => tups b xs (I.base.tups b xs e), fun b o xs e => frzs b o xs (I.base.frzs b o xs e), fun b ps e => ?_⟩, ?_, fun x c e => ?_, ?_, fun x c e => ?_, fun p hp => ?_, hok, I.len, ht⟩
  · exact keep b o (neL b o e) hb (neC b o e hx) (I.base.keep b o e n hb hx) (I.base.free b o e n hx)
  · obtain ⟨sl, e1⟩ := I.base.slot b o e n hb hx
    obtain ⟨sl', e2⟩ := slot b _ (neL b o e) hb (neC b o e hx) e1 (I.base.free b o e n hx)
    exact ⟨sl', e2⟩
  · obtain ⟨o', e1⟩ := I.base.there b o e hx
    exact free b o' (neC b o e hx) e1 (I.base.free b o e n hx)
  · obtain ⟨o', e1⟩ := I.base.there b o e hx
    exact there b o' (neC b o e hx) e1
  · obtain ⟨m1, e1⟩ := I.base.tbls b ps e
    obtain ⟨m2, e2⟩ := tbls b _ e1
    exact ⟨m1 ++ m2, by rw [e2, Array.append_assoc]⟩
  · obtain ⟨m, hn, hl⟩ := I.loc
    refine ⟨m, ns m hn, fun i x v e1 e2 e3 => ?_⟩
    obtain ⟨u, r, l⟩ := hl i x v e1 e2 e3
    refine ⟨u, r, ?_⟩
    rcases l with l | ⟨k, c, e, z⟩
    · exact .inl l
    · exact .inr ⟨k, c, e, cellK x c e _ z⟩
  · obtain ⟨v, z⟩ := I.cell x c e
    exact ⟨v, cellK x c e v z⟩
  · obtain ⟨m, ⟨o, _, _, ho, _⟩, _⟩ := I.loc
    exact free _ o (fun z => (hch _ z).2.1 rfl) ho I.free
  · obtain ⟨v, o, ho, hd⟩ := I.cell x c e
    exact free c o (fun z => (hch c z).2.2.1 x c e rfl) ho (I.freeC x c e)
  · obtain ⟨e, n, ne, nf, d⟩ := I.pin p hp
    have nch : p.1 ∉ ch := fun z => (hch p.1 z).2.2.2 p hp rfl
    exact ⟨keep p.1 p.2 ne nf nch e n, free p.1 p.2 nch e n, ne, nf, d⟩
/-- .. where the frame's own object is kept too -/
theorem Inv.un {t' : Nat} (I : Inv X pins σ H s) (u : Un X.fs [] H H' s.heap h') (hok : HOk X.prog X.w H' h') (ht : X.tk ≤ t' := by first | exact Inv.tk ‹_› | exact Nat.le_succ_of_le (Inv.tk ‹_›) | assumption | exact Nat.le_succ_of_le (Nat.le_succ_of_le (Inv.tk ‹_›)) | exact Nat.le_trans (Inv.tk ‹_›) (Nat.le_add_right _ _)) : Inv X pins σ H' { s with heap := h', toks := t' } := by
  obtain ⟨m, ⟨o, es, ep, ho, r⟩, _⟩ := id I.loc
  obtain ⟨sl, hL⟩ := u.any ho I.free (by simp)
  exact I.step (g' := s.gens) (d' := s.drawn) (ch := []) (fun _ z => nomatch z) (fun b o _ hb _ e n => u.keep b o e n hb (by simp)) (fun b o _ hb _ e n => u.slot b o e n hb (by simp)) (fun b o _ e n => u.free b o e n (by simp)) (fun b o _ e => u.there b o e (by simp)) u.tups u.frzs u.tbls (fun m' hm => by
    obtain ⟨o', es', ep', ho', r'⟩ := hm
    rw [ho] at ho'; cases ho'
    exact ⟨_, es', ep', hL, r'⟩) hok I.bare ht
/-- behind a call (or a comprehension's block): the slots of this frame may have changed too, the records at ch may have turned -/
theorem Inv.call {g' : Array GenState} {t' : Nat} {d' : Drawn} {ch : List Addr} (I : Inv X pins σ H s) (u : Un (frs X.stack) ch H H' s.heap h') (hok : HOk X.prog X.w H' h') (hg : AllBare g')
    (hch : ∀ b ∈ ch, (b ∈ X.ex ∨ X.s_0.heap.objs.size ≤ b) ∧ b ≠ X.env.locals ∧ (∀ x c, X.env.cells.lookup x = some c → c ≠ b) ∧ ∀ p ∈ X.pn ++ pins, p.1 ≠ b) (ht : X.tk ≤ t' := by first | exact Inv.tk ‹_› | exact Nat.le_succ_of_le (Inv.tk ‹_›) | assumption | exact Nat.le_succ_of_le (Nat.le_succ_of_le (Inv.tk ‹_›)) | exact Nat.le_trans (Inv.tk ‹_›) (Nat.le_add_right _ _)) :
    Inv X pins σ H' { s with heap := h', gens := g', drawn := d', toks := t' } := by
  obtain ⟨m, ⟨o, es, ep, ho, r⟩, _⟩ := id I.loc
  obtain ⟨sl, hL⟩ := u.any ho I.free fun z => (hch _ z).2.1 rfl
  exact I.step (ch := ch) hch (fun b o hL hb hc e n => u.keep b o e n (fun z => (List.mem_cons.mp (I.stkSub b z)).elim hL hb) hc) (fun b o _ _ hc e n => u.any e n hc) (fun b o hc e n => u.free b o e n hc) (fun b o hc e => u.there b o e hc) u.tups u.frzs u.tbls (fun m' hm => by
    obtain ⟨o', es', ep', ho', r'⟩ := hm
    rw [ho] at ho'; cases ho'
    exact ⟨_, es', ep', hL, r'⟩) hok hg ht
/-- an untracked record of ours (an iterator) has turned -/
theorem Inv.turned {t' : Nat} {it : Addr} (I : Inv X pins σ H s) (k : ∀ b o, b ≠ it → s.heap.get? b = some o → h'.get? b = some o) (hn : H it = none) (hL : it ≠ X.env.locals)
    (h1 : it ∈ X.ex ∨ X.s_0.heap.objs.size ≤ it) (h2 : ∀ x c, X.env.cells.lookup x = some c → c ≠ it) (h3 : ∀ p ∈ X.pn ++ pins, p.1 ≠ it) (ht : X.tk ≤ t' := by first | exact Inv.tk ‹_› | exact Nat.le_succ_of_le (Inv.tk ‹_›) | assumption | exact Nat.le_succ_of_le (Nat.le_succ_of_le (Inv.tk ‹_›)) | exact Nat.le_trans (Inv.tk ‹_›) (Nat.le_add_right _ _)) : Inv X pins σ H { s with heap := h', toks := t' } := by
  have nit : ∀ b u, H b = some u → b ≠ it := fun b u e z => by rw [z, hn] at e; cases e
  refine I.step (g' := s.gens) (d' := s.drawn) (ch := [it]) (fun b hb => ?_) (fun b o _ _ hc e _ => k b o (fun z => hc (by simp [z])) e) (fun b o _ _ hc e _ => ⟨o.slots, k b o (fun z => hc (by simp [z])) e⟩) (fun _ _ _ _ n => n)
    (fun b o hc e => ⟨o, k b o (fun z => hc (by simp [z])) e⟩) (fun _ _ e => e) (fun _ _ _ e => e) (fun b ps e => ⟨#[], by rw [e]; simp⟩) (fun m hm => ?_) (fun b u e => ?_) I.bare ht
  · have e : b = it := by simpa using hb
    subst e
    exact ⟨h1, hL, h2, h3⟩
  · obtain ⟨o, es, ep, ho, r⟩ := hm
    exact ⟨o, es, ep, k _ o (Ne.symm hL) ho, r⟩
  · refine (I.hok b u e).stay (fun c v hc q => k c v ?_ q) (fun _ q => q) fun _ _ q => q
    rcases hc with z | z
    · rw [z]; exact nit b u e
    · exact nit c _ z
theorem Inv.tok (I : Inv X pins σ H s) (t' : Nat) (ht : X.tk ≤ t' := by first | exact Inv.tk ‹_› | exact Nat.le_succ_of_le (Inv.tk ‹_›) | assumption | exact Nat.le_succ_of_le (Nat.le_succ_of_le (Inv.tk ‹_›)) | exact Nat.le_trans (Inv.tk ‹_›) (Nat.le_add_right _ _)) : Inv X pins σ H { s with toks := t' } := I.un (h' := s.heap) (t' := t') Un.refl I.hok ht
/-- all objects kept -/
theorem Inv.kept {t' : Nat} (I : Inv X pins σ H s) (k : ∀ b u, s.heap.get? b = some u → h'.get? b = some u) (ht : X.tk ≤ t' := by first | exact Inv.tk ‹_› | exact Nat.le_succ_of_le (Inv.tk ‹_›) | assumption | exact Nat.le_succ_of_le (Nat.le_succ_of_le (Inv.tk ‹_›)) | exact Nat.le_trans (Inv.tk ‹_›) (Nat.le_add_right _ _)) : Inv X pins σ H { s with heap := h', toks := t' } := I.un (Un.kept k) (I.hok.kept k) ht
/-- a new object laid and tracked -/
theorem Inv.laid {a : Addr} {o : HO} {t' : Nat} (I : Inv X pins σ H s) (k : ∀ b u, s.heap.get? b = some u → h'.get? b = some u) (hp : s.heap.objs.size ≤ a) (new : ObjOk X.prog X.w (upd H a o) h' a o) (ht : X.tk ≤ t' := by first | exact Inv.tk ‹_› | exact Nat.le_succ_of_le (Inv.tk ‹_›) | assumption | exact Nat.le_succ_of_le (Nat.le_succ_of_le (Inv.tk ‹_›)) | exact Nat.le_trans (Inv.tk ‹_›) (Nat.le_add_right _ _)) :
    Inv X pins σ (upd H a o) { s with heap := h', toks := t' } := I.un (Un.laid k hp (I.hok.fresh hp)) (I.hok.laid k hp new) ht
/-- an object written -/
theorem Inv.write {x e : Addr} {o : HO} {t' : Nat} (I : Inv X pins σ H s) (mu : Mut (H x)) (he : e = x ∨ H e = some (.own x)) (k : ∀ b u, b ≠ e → s.heap.get? b = some u → h'.get? b = some u) (heo : ∃ u, h'.get? e = some u)
    (new : ObjOk X.prog X.w (upd H x o) h' x o) (ht : X.tk ≤ t' := by first | exact Inv.tk ‹_› | exact Nat.le_succ_of_le (Inv.tk ‹_›) | assumption | exact Nat.le_succ_of_le (Nat.le_succ_of_le (Inv.tk ‹_›)) | exact Nat.le_trans (Inv.tk ‹_›) (Nat.le_add_right _ _)) : Inv X pins σ (upd H x o) { s with heap := h', toks := t' } := I.un (Un.write mu he k heo) (I.hok.write mu he k heo new) ht
/-- forgetting slots, pins -/
theorem Inv.weak {σ' : List (Option V)} (I : Inv X pins σ H s) (hl : σ'.length = σ.length) (w : ∀ (i : Nat) v, σ'[i]? = some (some v) → σ[i]? = some (some v)) : Inv X pins σ' H s :=
  ⟨I.ok, I.os, I.bare, I.base, let ⟨m, hn, hl'⟩ := I.loc; ⟨m, hn, fun i x v e1 e2 e3 => hl' i x v e1 (w i v e2) e3⟩, I.cell, I.free, I.freeC, I.pin, I.hok, hl.trans I.len, I.tk⟩
theorem Inv.pins_of {pins' : List (Addr × Obj)} (I : Inv X pins σ H s) (h : ∀ p ∈ pins', s.heap.get? p.1 = some p.2 ∧ H p.1 = none ∧ p.1 ≠ X.env.locals ∧ p.1 ∉ X.fs ∧ ∀ v, p.2.data ≠ .cell v) : Inv X pins' σ H s :=
  ⟨I.ok, I.os, I.bare, I.base, I.loc, I.cell, I.free, I.freeC, fun p hp => (List.mem_append.mp hp).elim (fun z => I.pin p (List.mem_append_left _ z)) (h p), I.hok, I.len, I.tk⟩

theorem nodup_ix {N : List Str} (hN : N.Nodup) {i j : Nat} {x : Str} (a : N[i]? = some x) (b : N[j]? = some x) : i = j := by
  obtain ⟨h1, e1⟩ := List.getElem?_eq_some_iff.mp a
  obtain ⟨h2, e2⟩ := List.getElem?_eq_some_iff.mp b
  exact (List.getElem_inj hN).mp (e1.trans e2.symm)

/-- a name is stored; what changed -/
theorem store_ok2 {M : Model} {A : Around} {E : Value → Shared → Prop} {i : Nat} {x : Str} {v : V} {u : Value} {Q : Unit → Shared → Prop} (I : Inv X pins σ H s) (hN : X.N.Nodup) (hi : X.N[i]? = some x) (hx : Loc X.env.scope x) (r : RelV v u)
    (h : ∀ s', Inv X pins (σ.set i (some v)) H s' → (∃ a, Heap.SameBut a s.heap s'.heap ∧ (a = X.env.locals ∨ X.env.cells.lookup x = some a)) → Q () s') (hf : X.fn x = true ∨ X.env.scope.names.lookup x = some .local := by first | exact .inl rfl | exact .inr rfl | assumption) : wpAny M A (storeName X.env x u) Q E s := by
  obtain ⟨m, hn, hl⟩ := id I.loc
  have hcls : (X.env.scope.kind == .class || (X.env.scope.kind == .module && X.env.locals != X.env.globals)) = false := by rw [I.ok.kind]; rfl
  have hiσ : i < σ.length := by rw [I.len]; exact (List.getElem?_eq_some_iff.mp hi).1
  have cne := I.cne
  have tracked : ∀ {a : Addr} {h' : Heap}, (∃ o, s.heap.get? a = some o ∧ H a = none) → Heap.SameBut a s.heap h' → HOk X.prog X.w H h' := fun {a h'} ha hs b ob e => by
    obtain ⟨_, _, hfree⟩ := ha
    refine (I.hok b ob e).stay (fun c w' hc q => (hs.2 c ?_).trans q) (fun _ q => q) fun _ _ q => q
    rintro rfl
    rcases hc with rfl | hc
    · rw [hfree] at e; cases e
    · rw [hfree] at hc; cases hc
  rcases hx with hk | hk
  · refine wpAny_storeName_local hk hn (fun h' hn' hs => ?_) hcls
    obtain ⟨oL, _, _, hoL, _⟩ := id hn
    refine h _ ⟨I.ok, I.os, I.bare, ⟨fun b o e n hb hx => ?_, fun b o e n hb hx => ?_, I.base.free, fun b o e hx => ?_, I.base.tups, I.base.frzs, I.base.tbls⟩, ⟨_, hn', fun j y v' e1 e2 e3 => ?_⟩, fun y c e => ?_, I.free, I.freeC, fun p hp => ?_, tracked ⟨oL, hoL, I.free⟩ hs, by simpa using I.len, Nat.le_succ_of_le I.tk⟩ ⟨_, hs, .inl rfl⟩
    · exact (hs.2 b (Nat.ne_of_lt (Nat.lt_of_lt_of_le (Heap.lt_size e) I.ok.above))).trans (I.base.keep b o e n hb hx)
    · obtain ⟨sl, e1⟩ := I.base.slot b o e n hb hx
      exact ⟨sl, (hs.2 b (Nat.ne_of_lt (Nat.lt_of_lt_of_le (Heap.lt_size e) I.ok.above))).trans e1⟩
    · obtain ⟨o', e1⟩ := I.base.there b o e hx
      exact ⟨o', (hs.2 b (Nat.ne_of_lt (Nat.lt_of_lt_of_le (Heap.lt_size e) I.ok.above))).trans e1⟩
    · by_cases hj : j = i
      · subst hj
        rw [hi] at e1; cases e1
        rw [List.getElem?_set_self hiσ] at e2
        cases e2
        exact ⟨u, r, .inl ⟨hk, by simp⟩⟩
      · rw [List.getElem?_set_ne (Ne.symm hj)] at e2
        obtain ⟨u', r', q⟩ := hl j y v' e1 e2 e3
        refine ⟨u', r', ?_⟩
        rcases q with ⟨k, e⟩ | ⟨k, c, e, z⟩
        · refine .inl ⟨k, ?_⟩
          have : y ≠ x := fun e => hj (nodup_ix hN e1 (e ▸ hi))
          simp [this, e]
        · exact .inr ⟨k, c, e, z.sameBut hs (cne y c e)⟩
    · obtain ⟨w', z⟩ := I.cell y c e
      exact ⟨w', z.sameBut hs (cne y c e)⟩
    · obtain ⟨e, n, ne, nf, d⟩ := I.pin p hp
      exact ⟨(hs.2 p.1 ne).trans e, n, ne, nf, d⟩
  · have hfn : X.fn x = true := by
      rcases hf with z | z
      · exact z
      · rw [z] at hk; cases hk
    obtain ⟨c, hc⟩ := I.ok.has x (.inl hk)
    obtain ⟨w', z⟩ := I.cell x c hc
    refine wpAny_storeName_cell I.ok.kind hk hc z (fun h' hc' hs => ?_)
    obtain ⟨oc, hoc, hocd⟩ := id z
    refine h { s with heap := h' } ⟨I.ok, I.os, I.bare, ⟨fun b o e n hb hx => ?_, fun b o e n hb hx => ?_, I.base.free, fun b o e hx => ?_, I.base.tups, I.base.frzs, I.base.tbls⟩, ⟨m, hn.sameBut hs (Ne.symm (cne x c hc)), fun j y v' e1 e2 e3 => ?_⟩, fun y c' e => ?_, I.free, I.freeC, fun p hp => ?_, tracked ⟨oc, hoc, I.freeC x c hc⟩ hs, by simpa using I.len, I.tk⟩ ⟨c, hs, .inr hc⟩
    · exact (hs.2 b (Nat.ne_of_lt (Nat.lt_of_lt_of_le (Heap.lt_size e) (I.ok.cab x c hfn hc)))).trans (I.base.keep b o e n hb hx)
    · obtain ⟨sl, e1⟩ := I.base.slot b o e n hb hx
      exact ⟨sl, (hs.2 b (Nat.ne_of_lt (Nat.lt_of_lt_of_le (Heap.lt_size e) (I.ok.cab x c hfn hc)))).trans e1⟩
    · obtain ⟨o', e1⟩ := I.base.there b o e hx
      exact ⟨o', (hs.2 b (Nat.ne_of_lt (Nat.lt_of_lt_of_le (Heap.lt_size e) (I.ok.cab x c hfn hc)))).trans e1⟩
    · by_cases hj : j = i
      · subst hj
        rw [hi] at e1; cases e1
        rw [List.getElem?_set_self hiσ] at e2
        cases e2
        exact ⟨u, r, .inr ⟨.inl hk, c, hc, hc'⟩⟩
      · rw [List.getElem?_set_ne (Ne.symm hj)] at e2
        obtain ⟨u', r', q⟩ := hl j y v' e1 e2 e3
        refine ⟨u', r', ?_⟩
        rcases q with q | ⟨k, c', e, z'⟩
        · exact .inl q
        · refine .inr ⟨k, c', e, z'.sameBut hs ?_⟩
          rintro rfl
          exact hj (nodup_ix hN e1 (I.ok.inj _ _ _ e hc ▸ hi))
    · by_cases hcc : c' = c
      · subst hcc; exact ⟨_, hc'⟩
      · obtain ⟨w2, z2⟩ := I.cell y c' e
        exact ⟨w2, z2.sameBut hs hcc⟩
    · obtain ⟨e, n, ne, nf, d⟩ := I.pin p hp
      refine ⟨(hs.2 p.1 ?_).trans e, n, ne, nf, d⟩
      intro q
      rw [q, hoc] at e
      have q' : oc = p.2 := Option.some.inj e
      exact d w' (by rw [← q']; exact hocd)
theorem store_ok {M : Model} {A : Around} {E : Value → Shared → Prop} {i : Nat} {x : Str} {v : V} {u : Value} {Q : Unit → Shared → Prop} (I : Inv X pins σ H s) (hN : X.N.Nodup) (hi : X.N[i]? = some x) (hx : Loc X.env.scope x) (r : RelV v u)
    (h : ∀ s', Inv X pins (σ.set i (some v)) H s' → Q () s') (hf : X.fn x = true ∨ X.env.scope.names.lookup x = some .local := by first | exact .inl rfl | exact .inr rfl | assumption) : wpAny M A (storeName X.env x u) Q E s :=
  store_ok2 I hN hi hx r (fun s' I' _ => h s' I') hf
/-- behind a call or a block, the state as it is -/
theorem Inv.call' {s' : Shared} {ch : List Addr} (I : Inv X pins σ H s) (ho : s'.os = s.os) (u : Un (frs X.stack) ch H H' s.heap s'.heap) (hok : HOk X.prog X.w H' s'.heap) (hg : AllBare s'.gens)
    (hch : ∀ b ∈ ch, (b ∈ X.ex ∨ X.s_0.heap.objs.size ≤ b) ∧ b ≠ X.env.locals ∧ (∀ x c, X.env.cells.lookup x = some c → c ≠ b) ∧ ∀ p ∈ X.pn ++ pins, p.1 ≠ b) (ht : X.tk ≤ s'.toks := by first | exact Inv.tk ‹_› | assumption) : Inv X pins σ H' s' := by
  obtain ⟨h', g', d', t', o'⟩ := s'
  have e : o' = s.os := ho
  subst e
  exact I.call (g' := g') (t' := t') (d' := d') u hok hg hch ht
end

/-! ### the judgements -/
/-- an exception: its class, its own dict's address (where it has one), the abstract heap behind it -/
abbrev XK := Value → Option Addr → Hp → Prop
abbrev St := List (Option V)
abbrev VK := V → Hp → Prop
/-- an expression's reading; a test's; an argument list's -/
abbrev TE := St → Hp → VK → Prop
abbrev TT := St → Hp → (Bool → Hp → Prop) → Prop
abbrev TA := St → Hp → (List V → Hp → Prop) → Prop
/-- what is wanted behind a statement -/
structure Ends where
  nx : St → Hp → Prop
  rt : VK
  bk : St → Hp → Prop := fun _ _ => False
  ct : St → Hp → Prop := fun _ _ => False
abbrev TS := Ends → St → Hp → Prop

def EP (X : Cx) (pins : List (Addr × Obj)) (σ : St) (Q : VK) (u : Value) (s' : Shared) : Prop := ∃ v H', Inv X pins σ H' s' ∧ RelV v u ∧ Q v H'
def TP (X : Cx) (pins : List (Addr × Obj)) (σ : St) (Q : Bool → Hp → Prop) (b : Bool) (s' : Shared) : Prop := ∃ H', Inv X pins σ H' s' ∧ Q b H'
def AP (X : Cx) (pins : List (Addr × Obj)) (σ : St) (Q : List V → Hp → Prop) (us : List Value) (s' : Shared) : Prop := ∃ vs H', Inv X pins σ H' s' ∧ Vals vs us ∧ Q vs H'
def SP (X : Cx) (pins : List (Addr × Obj)) (D : Ends) (f : Flow) (s' : Shared) : Prop :=
  match f with
  | .next => ∃ σ' H', Inv X pins σ' H' s' ∧ D.nx σ' H'
  | .brk => ∃ σ' H', Inv X pins σ' H' s' ∧ D.bk σ' H'
  | .cont => ∃ σ' H', Inv X pins σ' H' s' ∧ D.ct σ' H'
  | .ret u => ∃ v σ' H', Inv X pins σ' H' s' ∧ RelV v u ∧ D.rt v H'

def PE (X : Cx) (e : Expr) (t : TE) : Prop :=
  ∀ (pins : List (Addr × Obj)) (s : Shared) (σ : St) (H : Hp) (Q : VK), Inv X pins σ H s → t σ H Q → wpAny (model X.prog X.w) X.A (eval e X.env) (EP X pins σ Q) X.xe s
def PT (X : Cx) (e : Expr) (t : TT) : Prop :=
  ∀ (pins : List (Addr × Obj)) (s : Shared) (σ : St) (H : Hp) (Q : Bool → Hp → Prop), Inv X pins σ H s → t σ H Q → wpAny (model X.prog X.w) X.A (isTrue e X.env (eval e X.env)) (TP X pins σ Q) X.xe s
/-- a test whatever its 'whole' is (and, or) -/
def PW (X : Cx) (e : Expr) (t : TT) : Prop :=
  ∀ (whole : Sem Value) (pins : List (Addr × Obj)) (s : Shared) (σ : St) (H : Hp) (Q : Bool → Hp → Prop), Inv X pins σ H s → t σ H Q → wpAny (model X.prog X.w) X.A (isTrue e X.env whole) (TP X pins σ Q) X.xe s
theorem PW.pt {X : Cx} {e : Expr} {t : TT} (h : PW X e t) : PT X e t := h _
/-- an argument list (no star), from the left -/
def PA (X : Cx) (es : List Expr) (t : TA) : Prop :=
  ∀ (pos : Pos) (pins : List (Addr × Obj)) (s : Shared) (σ : St) (H : Hp) (Q : List V → Hp → Prop), Inv X pins σ H s → t σ H Q → wpAny (model X.prog X.w) X.A (spliced (backTo pos (starEach es X.env))) (AP X pins σ Q) X.xe s
def PS (X : Cx) (st : Stmt) (t : TS) : Prop :=
  ∀ (pins : List (Addr × Obj)) (s : Shared) (σ : St) (H : Hp) (D : Ends), Inv X pins σ H s → t D σ H → wpAny (model X.prog X.w) X.A (exec st X.env) (SP X pins D) X.xe s
def PSs (X : Cx) (st : List Stmt) (t : TS) : Prop :=
  ∀ (pins : List (Addr × Obj)) (s : Shared) (σ : St) (H : Hp) (D : Ends), Inv X pins σ H s → t D σ H → wpAny (model X.prog X.w) X.A (execs st X.env) (SP X pins D) X.xe s
/-- weaken the end -/
theorem thn {α : Type} {t : Sem α} {Q Q' : α → Shared → Prop} {M : Model} {A : Around} {E : Value → Shared → Prop} {s : Shared} (h : wpAny M A t Q E s) (hQ : ∀ a s, Q a s → Q' a s) : wpAny M A t Q' E s := wpAny_mono h hQ fun _ _ x => x
end L2

namespace L2
open PySem PySem.Spec PyProof.Rows
section
variable {X : Cx}

/-! ### names and constants -/
def tVar (i : Nat) : TE := fun σ H Q => ∃ v, σ[i]? = some (some v) ∧ Q v H
def tC (v : V) : TE := fun _ H Q => Q v H
theorem pe_var {i : Nat} {x : Str} {pos : Pos} (hN : X.N[i]? = some x) (hv : Vis X.env.scope x) (hd : (x == ("__debug__" : Str)) = false := by decide) (hcd : (x == ("__classdict__" : Str)) = false := by decide) : PE X (.Name x pos) (tVar i) := by
  intro pins s σ H Q I h
  obtain ⟨v, e, h⟩ := h
  obtain ⟨m, hn, hl⟩ := I.loc
  obtain ⟨u, r, l⟩ := hl i x v hN e hv
  have fin : EP X pins σ Q u s := ⟨v, H, I, r, h⟩
  rcases l with ⟨hk, hm⟩ | ⟨hk, c, hc, hcell⟩
  · exact wpAny_Name (wpAny_loadName_local I.ok.kind hk hn hm fin) hd
  · rcases hk with hk | hk
    · exact wpAny_Name (wpAny_loadName_cell I.ok.kind hk hc hcell fin) hd
    · exact wpAny_Name (wpAny_loadName_free I.ok.kind hk hc hcell fin hcd) hd
theorem pe_int {i j pos} : PE X (.Constant (.int i) j pos) (tC (.int i)) := fun _ _ _ H _ I h => wpAny_Constant_int ⟨.int i, H, I.tok _, ⟨_, rfl⟩, h⟩
theorem pe_bl {b j pos} : PE X (.Constant (.bool b) j pos) (tC (.bl b)) := fun _ _ _ H _ I h => Constant_bool ⟨.bl b, H, I, rfl, h⟩
theorem pe_non {j pos} : PE X (.Constant .none j pos) (tC .non) := fun _ _ _ H _ I h => Constant_none ⟨.non, H, I, rfl, h⟩
theorem pe_str {x j pos} : PE X (.Constant (.str x) j pos) (tC (.str x)) := fun _ _ _ H _ I h => Calls.Constant_str ⟨.str x, H, I.tok _, ⟨_, rfl⟩, h⟩

/-- a global name of the def -/
def Gl (X : Cx) (x : Str) : Prop := X.env.kindOf x = some .globalImplicit
theorem ld_glob {E : Value → Shared → Prop} {pins : List (Addr × Obj)} {s : Shared} {σ : St} {H : Hp} {x : Str} {u : Value} {pos : Pos} {Q : Value → Shared → Prop} (I : Inv X pins σ H s) (hg : Gl X x) (hm : X.mg x = some u) (h : Q u s)
    (hd : (x == ("__debug__" : Str)) = false := by decide) : wpAny (model X.prog X.w) X.A (eval (.Name x pos) X.env) Q E s :=
  Calls.Name_function_global I.ok.kind hg (Calls.loadGlobal_global (by rw [I.ok.glob]; exact I.mod.glob.keeps I.bk) hm h) hd
theorem ld_blt {E : Value → Shared → Prop} {pins : List (Addr × Obj)} {s : Shared} {σ : St} {H : Hp} {x : Str} {u : Value} {pos : Pos} {Q : Value → Shared → Prop} (I : Inv X pins σ H s) (hg : Gl X x) (hm : X.mg x = none) (hv : bootBuiltins x = some u) (h : Q u s)
    (hn : x ≠ "__name__" := by decide) (hd : (x == ("__debug__" : Str)) = false := by decide) : wpAny (model X.prog X.w) X.A (eval (.Name x pos) X.env) Q E s := by
  obtain ⟨mb, h1, h2⟩ := I.mod.blt
  exact Calls.Name_function_global I.ok.kind hg (Calls.loadGlobal_builtin (by rw [I.ok.glob]; exact I.mod.glob.keeps I.bk) hm (by rw [I.ok.blt]; exact h1.keeps I.bk) ((h2 x hn).trans hv) h) hd
theorem pe_bltn {x : Str} {v : V} {u : Value} {pos : Pos} (hg : Gl X x) (hm : X.mg x = none) (hv : bootBuiltins x = some u) (r : RelV v u) (hn : x ≠ "__name__" := by decide) (hd : (x == ("__debug__" : Str)) = false := by decide) : PE X (.Name x pos) (tC v) :=
  fun _ _ _ H _ I h => ld_blt I hg hm hv ⟨v, H, I, r, h⟩ hn hd

/-! ### arithmetic -/
/-- two ints -/
def t2I (ta tb : TE) (k : Int → Int → Hp → Prop) : St → Hp → Prop := fun σ H => ta σ H fun x H1 => tb σ H1 fun y H2 => ∃ i j, x = .int i ∧ y = .int j ∧ k i j H2
def tAdd (ta tb : TE) : TE := fun σ H Q => t2I ta tb (fun i j H2 => Q (.int (i + j)) H2) σ H
def tSub (ta tb : TE) : TE := fun σ H Q => t2I ta tb (fun i j H2 => Q (.int (i - j)) H2) σ H
/-- the left factor below 2^64 -/
def tMul (ta tb : TE) : TE := fun σ H Q => t2I ta tb (fun i j H2 => (-(2 ^ 64) < i ∧ i < 2 ^ 64) ∧ Q (.int (i * j)) H2) σ H
variable {a b : Expr} {ta tb : TE} {pos : Pos}
/-! ### comparisons -/
def PC (X : Cx) (op : CmpOp) (a b : Expr) (t : TE) : Prop :=
  ∀ (pins : List (Addr × Obj)) (s : Shared) (σ : St) (H : Hp) (Q : VK), Inv X pins σ H s → t σ H Q →
    wpAny (model X.prog X.w) X.A (eval a X.env) (fun v s₁ => wpAny (model X.prog X.w) X.A (eval b X.env) (fun u s₂ => wpAny (model X.prog X.w) X.A (compareOp op v u) (EP X pins σ Q) X.xe s₂) X.xe s₁) X.xe s
def tCmp (p : Int → Int → Bool) (ta tb : TE) : TE := fun σ H Q => t2I ta tb (fun i j H2 => Q (.bl (p i j)) H2) σ H
abbrev tLt : TE → TE → TE := tCmp fun i j => decide (i < j)
abbrev tLe : TE → TE → TE := tCmp fun i j => decide (i ≤ j)
abbrev tGt : TE → TE → TE := tCmp fun i j => decide (j < i)
abbrev tGe : TE → TE → TE := tCmp fun i j => decide (j ≤ i)
abbrev tEqI : TE → TE → TE := tCmp fun i j => decide (i = j)
abbrev tNeI : TE → TE → TE := tCmp fun i j => !decide (i = j)
/-- is None -/
def tIsN (ta : TE) : TE := fun σ H Q => ta σ H fun x H1 => Q (.bl (decide (x = .non))) H1
def tNotN (ta : TE) : TE := fun σ H Q => ta σ H fun x H1 => Q (.bl (!decide (x = .non))) H1
/-- a comparison as a value, as a test -/
def tB (t : TE) : TT := fun σ H Q => t σ H fun x H1 => ∃ c, x = .bl c ∧ Q c H1
/-- an expression whose value is a bool, as a test -/
theorem pt_val {e : Expr} {t : TE} (h : PE X e t) (he : ∀ whole, isTrue e X.env whole = (do let v ← whole; standAt e.pos; holding [v] (truthy v)) := by intro _; rfl) : PT X e (tB t) := by
  intro pins s σ H Q I hw
  refine isTrue_plain (thn (h pins s σ H _ I hw) fun v s1 ⟨x, H1, I1, r1, q1⟩ => ?_) (he _)
  obtain ⟨d, rfl, q⟩ := q1
  cases r1
  exact wpAny_truthy_bool ⟨H1, I1, q⟩

/-! ### and, or, not -/
variable {tA tB' : TT} {rest : List Expr}
def tAnd (t u : TT) : TT := fun σ H Q => t σ H fun c H1 => if c = true then u σ H1 Q else Q false H1
def tOr (t u : TT) : TT := fun σ H Q => t σ H fun c H1 => if c = true then Q true H1 else u σ H1 Q
def tNot (t : TT) : TT := fun σ H Q => t σ H fun c H1 => Q (!c) H1
theorem pw_or1 (ha : PT X a tA) : PW X (.BoolOp .Or [a] pos) tA := by
  intro wh pins s σ H Q I h
  refine isTrue_or (thn (ha pins s σ H Q I h) fun c s1 e => ?_)
  cases c with
  | false => exact isTrue_or_nil e
  | true => exact e
theorem pw_or (ha : PT X a tA) (hb : PW X (.BoolOp .Or (b :: rest) pos) tB') : PW X (.BoolOp .Or (a :: b :: rest) pos) (tOr tA tB') := by
  intro wh pins s σ H Q I h
  refine isTrue_or (thn (ha pins s σ H _ I h) fun c s1 ⟨H1, I1, q1⟩ => ?_)
  cases c with
  | true => exact ⟨H1, I1, q1⟩
  | false => exact hb wh pins s1 σ H1 Q I1 q1
theorem pt_not (ha : PT X a tA) : PT X (.UnaryOp .Not a pos) (tNot tA) := by
  intro pins s σ H Q I h
  exact isTrue_not (ha pins s σ H (fun c H1 => Q (!c) H1) I h)
/-- .. as values (bools) -/
def tAndV (ta tb : TE) : TE := fun σ H Q => ta σ H fun x H1 => ∃ c, x = .bl c ∧ if c = true then tb σ H1 Q else Q (.bl false) H1
def tOrV (ta tb : TE) : TE := fun σ H Q => ta σ H fun x H1 => ∃ c, x = .bl c ∧ if c = true then Q (.bl true) H1 else tb σ H1 Q
def tNotV (ta : TE) : TE := fun σ H Q => ta σ H fun x H1 => ∃ c, x = .bl c ∧ Q (.bl (!c)) H1
theorem pe_one {op} {t : TE} (h : PE X a t) : PE X (.BoolOp op [a] pos) t := fun pins s σ H Q I hw => BoolOp_one (h pins s σ H Q I hw)
theorem pe_and (ha : PE X a ta) (hb : PE X (.BoolOp .And (b :: rest) pos) tb) : PE X (.BoolOp .And (a :: b :: rest) pos) (tAndV ta tb) := by
  intro pins s σ H Q I h
  refine BoolOp_and (thn (ha pins s σ H _ I h) fun v s1 ⟨x, H1, I1, r1, q1⟩ => ?_)
  obtain ⟨c, rfl, q1⟩ := q1
  cases r1
  refine wpAny_truthy_bool ?_
  cases c with
  | true => exact hb pins s1 σ H1 Q I1 q1
  | false => exact ⟨.bl false, H1, I1, rfl, q1⟩
theorem pe_not (ha : PE X a ta) : PE X (.UnaryOp .Not a pos) (tNotV ta) := by
  intro pins s σ H Q I h
  refine UnaryOp_ (thn (ha pins s σ H _ I h) fun v s1 ⟨x, H1, I1, r1, q1⟩ => ?_)
  obtain ⟨c, rfl, q1⟩ := q1
  cases r1
  exact not_of (wpAny_truthy_bool ⟨.bl (!c), H1, I1, rfl, q1⟩)
/-- a if t else b -/
def tIf (t : TT) (ta tb : TE) : TE := fun σ H Q => t σ H fun c H1 => if c = true then ta σ H1 Q else tb σ H1 Q
theorem pe_ifExp {c : Expr} (hc : PT X c tA) (ha : PE X a ta) (hb : PE X b tb) : PE X (.IfExp c a b pos) (tIf tA ta tb) := by
  intro pins s σ H Q I h
  refine wpAny_IfExp (thn (hc pins s σ H _ I h) fun d s1 ⟨H1, I1, q1⟩ => ?_)
  cases d with
  | true => exact ha pins s1 σ H1 Q I1 q1
  | false => exact hb pins s1 σ H1 Q I1 q1
end
end L2

namespace L2
open PySem PySem.Spec PyProof.Rows

/-! ### a list, a tuple that is read: tracked, frozen, or an object of the module -/
def SqL (K : PySem.W.Frag) (H : Hp) (a : Addr) (xs : List V) : Prop :=
  Rd H a (.lst xs) ∨
    ∃ (o : Obj) (its : Array Value) (n : Nat), K.lookup a = some o ∧ o.cls = .type "list" ∧ o.dict = none ∧ o.data = .seq its n ∧ its.size ≤ sizeLine ∧ Vals xs its.toList
def SqT (K : PySem.W.Frag) (H : Hp) (a : Addr) (xs : List V) : Prop :=
  Rd H a (.tup xs) ∨
    ∃ (o : Obj) (its : Array Value) (n : Nat), K.lookup a = some o ∧ o.cls = .type "tuple" ∧ o.data = .seq its n ∧ its.size ≤ sizeLine ∧ Vals xs its.toList
def absV : Value → Option V
  | .none => some .non
  | .bool b => some (.bl b)
  | .int i _ => some (.int i)
  | .str x _ => some (.str x)
  | .bytes b _ => some (.byt b)
  | .float b _ => some (.flt b)
  | .ref a => some (.ref a)
  | .type n => some (.ty n)
  | _ => none
theorem RelV.abs {x : V} {u : Value} (r : RelV x u) : absV u = some x := by
  cases x with
  | non => cases r; rfl
  | bl _ => cases r; rfl
  | int _ => obtain ⟨t, rfl⟩ := r; rfl
  | str _ => obtain ⟨t, rfl⟩ := r; rfl
  | byt _ => obtain ⟨t, rfl⟩ := r; rfl
  | flt _ => obtain ⟨t, rfl⟩ := r; rfl
  | ref _ => cases r; rfl
  | ty _ => cases r; rfl
theorem RelV.inj {x y : V} {u : Value} (r : RelV x u) (q : RelV y u) : x = y := Option.some.inj (r.abs.symm.trans q.abs)
theorem Vals.inj : ∀ {xs ys : List V} {us : List Value}, Vals xs us → Vals ys us → xs = ys
  | _, _, _, .nil, .nil => rfl
  | _, _, _, .cons r t, .cons r' t' => by rw [r.inj r', Vals.inj t t']
section
variable {X : Cx} {pins : List (Addr × Obj)} {σ : St} {H : Hp} {s : Shared} {a : Addr} {xs ys : List V}
theorem SqL.of {K : PySem.W.Frag} (h : H a = some (.lst xs)) : SqL K H a xs := .inl (.inl h)
theorem SqT.of {K : PySem.W.Frag} (h : H a = some (.tup xs)) : SqT K H a xs := .inl (.inl h)
theorem Inv.list (I : Inv X pins σ H s) (h : SqL X.K H a xs) : ∃ its : List Value, Vals xs its ∧ PlainL s.heap a its.toArray ∧ xs.length ≤ sizeLine := by
  rcases h with h | ⟨o, its, n, hk, hc, hd, hs, hz, r⟩
  · obtain ⟨z, its, n, r, e⟩ := h.ok I.hok
    exact ⟨its, r, ⟨_, n, e, rfl, rfl, rfl⟩, z⟩
  · refine ⟨its.toList, r, ⟨o, n, I.kIn a o hk, hc, hd, by simpa using hs⟩, ?_⟩
    have e := r.length
    simp only [Array.length_toList] at e
    omega
theorem Inv.tuple (I : Inv X pins σ H s) (h : SqT X.K H a xs) : ∃ its : List Value, Vals xs its ∧ IsTup s.heap a its.toArray ∧ xs.length ≤ sizeLine := by
  rcases h with h | ⟨o, its, n, hk, hc, hs, hz, r⟩
  · obtain ⟨z, its, r, p⟩ := h.ok I.hok
    exact ⟨its, r, p, z⟩
  · refine ⟨its.toList, r, ⟨o, I.kIn a o hk, hc, n, by simpa using hs⟩, ?_⟩
    have e := r.length
    simp only [Array.length_toList] at e
    omega
theorem Inv.list_inj (I : Inv X pins σ H s) (h : SqL X.K H a xs) (h' : SqL X.K H a ys) : xs = ys := by
  obtain ⟨its, r, ⟨o, n, e, _, _, d⟩, _⟩ := I.list h
  obtain ⟨its', r', ⟨o', n', e', _, _, d'⟩, _⟩ := I.list h'
  rw [e] at e'; cases e'
  rw [d] at d'
  injection d' with d1 _
  have : its = its' := by simpa using congrArg Array.toList d1
  subst this
  exact r.inj r'
theorem Inv.tuple_inj (I : Inv X pins σ H s) (h : SqT X.K H a xs) (h' : SqT X.K H a ys) : xs = ys := by
  obtain ⟨its, r, ⟨o, e, _, n, d⟩, _⟩ := I.tuple h
  obtain ⟨its', r', ⟨o', e', _, n', d'⟩, _⟩ := I.tuple h'
  rw [e] at e'; cases e'
  rw [d] at d'
  injection d' with d1 _
  have : its = its' := by simpa using congrArg Array.toList d1
  subst this
  exact r.inj r'
end

/-! ### another wish about exceptions -/
abbrev Cx.wish (X : Cx) (E : Value → Shared → Prop) : Cx := { X with xe := E }
/-- no exception leaves -/
abbrev Cx.nox (X : Cx) : Cx := X.wish fun _ _ => False
theorem Cx.Ok.wish {X : Cx} (ok : X.Ok) (E : Value → Shared → Prop) : (X.wish E).Ok :=
  ⟨ok.mod, ok.kind, ok.glob, ok.blt, ok.above, ok.inj, ok.has, ok.cab, ok.hd, ok.frames, ok.stk, ok.exf, ok.bs, ok.bsz, ok.noex, ok.exfs, ok.funs, ok.frf⟩
theorem Cx.Ok.unwish {X : Cx} {E : Value → Shared → Prop} (ok : (X.wish E).Ok) : X.Ok :=
  ⟨ok.mod, ok.kind, ok.glob, ok.blt, ok.above, ok.inj, ok.has, ok.cab, ok.hd, ok.frames, ok.stk, ok.exf, ok.bs, ok.bsz, ok.noex, ok.exfs, ok.funs, ok.frf⟩
section
variable {X : Cx} {pins : List (Addr × Obj)} {σ : St} {H : Hp} {s : Shared} {E : Value → Shared → Prop}
theorem Inv.wish (I : Inv X pins σ H s) (E : Value → Shared → Prop) : Inv (X.wish E) pins σ H s := ⟨I.ok.wish E, I.os, I.bare, I.base, I.loc, I.cell, I.free, I.freeC, I.pin, I.hok, I.len, I.tk⟩
theorem Inv.unwish (I : Inv (X.wish E) pins σ H s) : Inv X pins σ H s := ⟨I.ok.unwish, I.os, I.bare, I.base, I.loc, I.cell, I.free, I.freeC, I.pin, I.hok, I.len, I.tk⟩
theorem SP.unwish {D : Ends} {f : Flow} {s' : Shared} (h : SP (X.wish E) pins D f s') : SP X pins D f s' := by
  cases f with
  | next => obtain ⟨σ', H', I, q⟩ := h; exact ⟨σ', H', I.unwish, q⟩
  | brk => obtain ⟨σ', H', I, q⟩ := h; exact ⟨σ', H', I.unwish, q⟩
  | cont => obtain ⟨σ', H', I, q⟩ := h; exact ⟨σ', H', I.unwish, q⟩
  | ret u => obtain ⟨v, σ', H', I, r, q⟩ := h; exact ⟨v, σ', H', I.unwish, r, q⟩
theorem PE.nox {e : Expr} {t : TE} (h : PE X.nox e t) : PE X e t := fun pins s σ H Q I hw =>
  wpAny_mono (h pins s σ H Q (I.wish _) hw) (fun _ _ ⟨v, H', I', r, q⟩ => ⟨v, H', I'.unwish, r, q⟩) fun _ _ z => False.elim z
theorem PT.nox {e : Expr} {t : TT} (h : PT X.nox e t) : PT X e t := fun pins s σ H Q I hw =>
  wpAny_mono (h pins s σ H Q (I.wish _) hw) (fun _ _ ⟨H', I', q⟩ => ⟨H', I'.unwish, q⟩) fun _ _ z => False.elim z
theorem PSs.nox {st : List Stmt} {t : TS} (h : PSs X.nox st t) : PSs X st t := fun pins s σ H D I hw =>
  wpAny_mono (h pins s σ H D (I.wish _) hw) (fun _ _ q => q.unwish) fun _ _ z => False.elim z
end

/-! ### blocks and small statements -/
section
variable {X : Cx} {st : Stmt} {rest : List Stmt} {t u : TS} {e : Expr} {te : TE} {pos : Pos}
def tNext : TS := fun D σ H => D.nx σ H
def tSeq (t u : TS) : TS := fun D σ H => t { D with nx := u D } σ H
theorem pss_nil : PSs X [] tNext := fun _ _ σ H _ I h => wpAny_execs_nil ⟨σ, H, I, h⟩
theorem pss_cons (h1 : PS X st t) (h2 : PSs X rest u) : PSs X (st :: rest) (tSeq t u) := by
  intro pins s σ H D I h
  refine wpAny_execs_cons (thn (h1 pins s σ H { D with nx := u D } I h) fun f s1 q => ?_)
  cases f with
  | next =>
    obtain ⟨σ', H', I', q⟩ := q
    exact h2 pins s1 σ' H' D I' q
  | ret v => exact q
  | brk => exact q
  | cont => exact q
theorem pss_one (h1 : PS X st t) : PSs X [st] t := by
  intro pins s σ H D I h
  refine wpAny_execs_cons (thn (h1 pins s σ H D I h) fun f s1 q => ?_)
  cases f with
  | next => exact wpAny_execs_nil q
  | ret v => exact q
  | brk => exact q
  | cont => exact q
def tBreak : TS := fun D σ H => D.bk σ H
def tCont : TS := fun D σ H => D.ct σ H
/-- in a def's body nothing is shown -/
theorem Inv.quiet {pins : List (Addr × Obj)} {σ : St} {H : Hp} {s : Shared} (I : Inv X pins σ H s) : interactive X.env = false := by simp [interactive, I.ok.kind]
/-- an expression whose value is dropped -/
def tDrop (te : TE) : TS := fun D σ H => te σ H fun _ H1 => D.nx σ H1
theorem ps_expr (he : PE X e te) (hs : swapsWith e none pos.line X.env = pure false := by rfl) : PS X (.Expr e pos) (tDrop te) := by
  intro pins s σ H D I h
  exact wpAny_Expr_any (thn (he pins s σ H _ I h) fun v s1 ⟨x, H1, I1, r1, q1⟩ => ⟨σ, H1, I1, q1⟩) I.quiet hs
def tRet (te : TE) : TS := fun D σ H => te σ H D.rt
theorem ps_ret (he : PE X e te) : PS X (.Return (some e) pos) (tRet te) := by
  intro pins s σ H D I h
  exact wpAny_Return_some (thn (he pins s σ H _ I h) fun v s1 ⟨x, H1, I1, r1, q1⟩ => ⟨x, σ, H1, I1, r1, q1⟩)
def tRetN : TS := fun D _ H => D.rt .non H
def tIfS (c : TT) (t u : TS) : TS := fun D σ H => c σ H fun b H1 => if b = true then t D σ H1 else u D σ H1
theorem ps_if {c : Expr} {a b : List Stmt} {tc : TT} (hc : PT X c tc) (ha : PSs X a t) (hb : PSs X b u) : PS X (.If c a b pos) (tIfS tc t u) := by
  intro pins s σ H D I h
  refine wpAny_If (thn (hc pins s σ H _ I h) fun d s1 ⟨H1, I1, q1⟩ => ?_)
  cases d with
  | true => exact ha pins s1 σ H1 D I1 q1
  | false => exact hb pins s1 σ H1 D I1 q1
/-- code that the proof never comes to -/
def tNever : TS := fun _ _ _ => False
end

/-! ### targets -/
abbrev TG := V → St → Hp → (St → Hp → Prop) → Prop
abbrev TGs := List V → St → Hp → (St → Hp → Prop) → Prop
def PG (X : Cx) (target : Expr) (t : TG) : Prop :=
  ∀ (pins : List (Addr × Obj)) (s : Shared) (σ : St) (H : Hp) (v : V) (u : Value) (Q : St → Hp → Prop), Inv X pins σ H s → RelV v u → t v σ H Q →
    wpAny (model X.prog X.w) X.A (assign target X.env u) (fun _ s' => ∃ σ' H', Inv X pins σ' H' s' ∧ Q σ' H') X.xe s
/-- several targets, one after another -/
def PGs (X : Cx) (ts : List Expr) (t : TGs) : Prop :=
  ∀ (pins : List (Addr × Obj)) (s : Shared) (σ : St) (H : Hp) (vs : List V) (us : List Value) (Q : St → Hp → Prop), Inv X pins σ H s → Vals vs us → t vs σ H Q →
    wpAny (model X.prog X.w) X.A (assignInOrder ((assignEach ts X.env).map (·.2)) us) (fun _ s' => ∃ σ' H', Inv X pins σ' H' s' ∧ Q σ' H') X.xe s
/-- o[i] = v, by values -/
abbrev TSet := V → V → V → Hp → (Hp → Prop) → Prop
def PSet (X : Cx) (t : TSet) : Prop :=
  ∀ (pins : List (Addr × Obj)) (s : Shared) (σ : St) (H : Hp) (o i v : V) (ov iv u : Value) (Q : Hp → Prop), Inv X pins σ H s → RelV o ov → RelV i iv → RelV v u → t o i v H Q →
    wpAny (model X.prog X.w) X.A (setItem ov iv u) (fun _ s' => ∃ H', Inv X pins σ H' s' ∧ Q H') X.xe s
/-- a op= b, by values -/
abbrev TIp := V → V → Hp → VK → Prop
def PIp (X : Cx) (op : Operator) (t : TIp) : Prop :=
  ∀ (pins : List (Addr × Obj)) (s : Shared) (σ : St) (H : Hp) (x y : V) (v u : Value) (Q : VK), Inv X pins σ H s → RelV x v → RelV y u → t x y H Q →
    wpAny (model X.prog X.w) X.A (inplaceOp op v u) (EP X pins σ Q) X.xe s
section
variable {X : Cx} {pos : Pos}
def gName (i : Nat) : TG := fun v σ H Q => Q (σ.set i (some v)) H
theorem pg_name {i : Nat} {x : Str} (hN : X.N.Nodup) (hi : X.N[i]? = some x) (hx : Loc X.env.scope x) (hf : X.fn x = true ∨ X.env.scope.names.lookup x = some .local := by first | exact .inl rfl | exact .inr rfl | assumption) : PG X (.Name x pos) (gName i) := by
  intro pins s σ H v u Q I r h
  exact wpAny_assign_Name (store_ok I hN hi hx r (fun s' I' => ⟨_, H, I', h⟩) hf)
def gNil : TGs := fun vs σ H Q => vs = [] ∧ Q σ H
def gCons (t : TG) (u : TGs) : TGs := fun vs σ H Q => ∃ v r, vs = v :: r ∧ t v σ H fun σ' H' => u r σ' H' Q
theorem pgs_nil : PGs X [] gNil := by
  intro pins s σ H vs us Q I r h
  obtain ⟨e, h⟩ := h
  subst e
  cases r
  exact assignInOrder_nil ⟨σ, H, I, h⟩
theorem pgs_cons {e : Expr} {es : List Expr} {t : TG} {u : TGs} (h1 : PG X e t) (h2 : PGs X es u)
    (hs : (assignEach (e :: es) X.env).map (·.2) = assign e X.env :: (assignEach es X.env).map (·.2) := by rfl) : PGs X (e :: es) (gCons t u) := by
  intro pins s σ H vs us Q I r h
  obtain ⟨v, vr, e1, h⟩ := h
  subst e1
  cases r with
  | cons r rr =>
    rw [hs]
    refine assignInOrder_cons (thn (h1 pins s σ H _ _ _ I r h) fun _ s1 ⟨σ1, H1, I1, q1⟩ => ?_)
    exact h2 pins s1 σ1 H1 _ _ Q I1 rr q1
/-- (a, b, ..) = a tuple of that length -/
def gTup (K : PySem.W.Frag) (n : Nat) (t : TGs) : TG := fun v σ H Q => ∃ a xs, v = .ref a ∧ SqT K H a xs ∧ xs.length = n ∧ t xs σ H Q
theorem pg_tup {es : List Expr} {k : Nat} {t : TGs} {n : Nat} (hc : X.calm = true) (h : PGs X es t)
    (hn : (assignEach es X.env).length = n := by rfl) (hst : (assignEach es X.env).findIdx? (·.1) = none := by rfl) : PG X (.Tuple es k pos) (gTup X.K n t) := by
  intro pins s σ H v u Q I r hw
  obtain ⟨a, xs, e1, hq, hl, hw⟩ := hw
  subst e1
  cases r
  obtain ⟨its, rv, ht, hz⟩ := I.tuple hq
  refine assign_Tuple_tuple (I.ok.hd hc) ht (by simp [hn, ← hl, rv.length]) hst fun h' hx => ?_
  have I1 : Inv X pins σ H { s with heap := h' } := I.kept (t' := s.toks) fun b o e => hx b o (Nat.ne_of_lt (Heap.lt_size e)) e
  exact h pins _ σ H xs _ Q I1 (by simpa using rv) hw
/-- o[i] = .. -/
def gSub (to ti : TE) (t : TSet) : TG := fun v σ H Q => to σ H fun o H1 => ti σ H1 fun i H2 => t o i v H2 fun H3 => Q σ H3
theorem pg_sub {o i : Expr} {to ti : TE} {t : TSet} (ho : PE X o to) (hi : PE X i ti) (hs : PSet X t)
    (ha : ∀ v, assign (.Subscript o i pos) X.env v = (do
      let ov ← holding [v] (eval o X.env)
      let iv ← holding [v, ov] (eval i X.env)
      standAt pos
      holding [v, ov, iv] (setItem ov iv v)
      release [v, ov, iv] []) := by intro _; rfl) : PG X (.Subscript o i pos) (gSub to ti t) := by
  intro pins s σ H v u Q I r h
  rw [ha]
  refine wpAny_bind (wpAny_holding (thn (ho pins s σ H _ I h) fun ov s1 ⟨x, H1, I1, r1, q1⟩ => ?_))
  refine wpAny_bind (wpAny_holding (thn (hi pins s1 σ H1 _ I1 q1) fun iv s2 ⟨y, H2, I2, r2, q2⟩ => ?_))
  refine wpAny_bind (wpAny_standAt (wpAny_bind (wpAny_holding (thn (hs pins s2 σ H2 x y v ov iv u _ I2 r1 r2 r q2) fun _ s3 ⟨H3, I3, q3⟩ => ?_))))
  exact wpAny_release ⟨σ, H3, I3, q3⟩
/-- target = value -/
def tAsg (te : TE) (g : TG) : TS := fun D σ H => te σ H fun x H1 => g x σ H1 D.nx
theorem ps_asg {tg e : Expr} {te : TE} {g : TG} (he : PE X e te) (hg : PG X tg g) (hs : swapsWithSole [tg] e pos.line X.env = pure false := by rfl) (hw : swappedStores [tg] e X.env = pure none := by rfl)
    (h1 : (assignEach [tg] X.env).map (·.2) = [assign tg X.env] := by rfl) : PS X (.Assign [tg] e pos) (tAsg te g) := by
  intro pins s σ H D I h
  refine wpAny_Assign_stores (thn (he pins s σ H _ I h) fun v s1 ⟨x, H1, I1, r1, q1⟩ => ?_) hs hw
  rw [h1]
  exact thn (hg pins s1 σ H1 x v _ I1 r1 q1) fun _ s2 q => q
/-- name = value -/
theorem ps_set {i : Nat} {x : Str} {e : Expr} {te : TE} {pos' : Pos} (hN : X.N.Nodup) (hi : X.N[i]? = some x) (hx : Loc X.env.scope x) (he : PE X e te) (hs : swapsWith e (some (.Name x pos')) pos.line X.env = pure false := by rfl) (hf : X.fn x = true ∨ X.env.scope.names.lookup x = some .local := by first | exact .inl rfl | exact .inr rfl | assumption) :
    PS X (.Assign [.Name x pos'] e pos) (tAsg te (gName i)) := by
  intro pins s σ H D I h
  refine wpAny_Assign_Name (thn (he pins s σ H _ I h) fun v s1 ⟨y, H1, I1, r1, q1⟩ => ?_) hs
  exact store_ok I1 hN hi hx r1 (fun s2 I2 => ⟨_, H1, I2, q1⟩) hf
/-- a, b = x, y with plain local names: stored from the right; the pair itself is not tracked (the opening rows as in PyProof/Rows/TupAssign.lean:23) -/
def tPar (i j : Nat) (ta : TA) : TS := fun D σ H => ta σ H fun vs H1 => ∃ v w, vs = [v, w] ∧ D.nx ((σ.set i (some v)).set j (some w)) H1
/-- name op= e -/
def tAug (i : Nat) (te : TE) (ti : TIp) : TS := fun D σ H => ∃ x, σ[i]? = some (some x) ∧ te σ H fun y H1 => ti x y H1 fun z H2 => D.nx (σ.set i (some z)) H2
/-- o[i] op= e -/
def tAugS (to ti te : TE) (tget : V → V → Hp → VK → Prop) (tip : TIp) (tset : TSet) : TS := fun D σ H => to σ H fun o H1 => ti σ H1 fun i H2 => tget o i H2 fun x H3 => te σ H3 fun y H4 => tip x y H4 fun z H5 => tset o i z H5 fun H6 => D.nx σ H6
/-- o[i], by values -/
def PGet (X : Cx) (t : V → V → Hp → VK → Prop) : Prop :=
  ∀ (pins : List (Addr × Obj)) (s : Shared) (σ : St) (H : Hp) (o i : V) (ov iv : Value) (Q : VK), Inv X pins σ H s → RelV o ov → RelV i iv → t o i H Q →
    wpAny (model X.prog X.w) X.A (getItem ov iv) (EP X pins σ Q) X.xe s
/-- ints -/
def ipI (f : Int → Int → Int) : TIp := fun x y H Q => ∃ i j, x = .int i ∧ y = .int j ∧ Q (.int (f i j)) H
end

/-! ### while -/
section
variable {X : Cx} {pos : Pos}
/-- the invariant W with its measure -/
def tWhile (c : TT) (tb : TS) : TS := fun D σ H => ∃ W : Nat → St → Hp → Prop, (∃ m, W m σ H) ∧ ∀ m σ H, W m σ H →
  c σ H fun b H1 => if b = true then ∃ N : St → Hp → Prop, (∀ σ' H', N σ' H' → ∃ m', m' < m ∧ W m' σ' H') ∧ tb { D with nx := N, ct := N, bk := D.nx } σ H1 else D.nx σ H1
end

/-! ### what a loop or a comprehension walks -/
/-- at turn i: it yields x (the heap may grow), or it stops -/
structure It where
  go : Nat → Hp → Prop
  yld : Nat → Hp → V → Hp → Prop
  stop : Nat → Hp → Prop
/-- the iterator's own objects may turn: they are not the frame's, not pinned, younger than the entry (or a comprehension's own) -/
def FpOk (X : Cx) (pins : List (Addr × Obj)) (H : Hp) (b : Addr) : Prop :=
  H b = none ∧ b ≠ X.env.locals ∧ b ∉ X.fs ∧ (b ∈ X.ex ∨ X.s_0.heap.objs.size ≤ b) ∧ (∀ x c, X.env.cells.lookup x = some c → c ≠ b) ∧ ∀ p ∈ X.pn ++ pins, p.1 ≠ b
theorem Inv.fpOk {X : Cx} {pins : List (Addr × Obj)} {σ : St} {H H' : Hp} {s : Shared} {b : Addr} (I : Inv X pins σ H s) (hb : s.heap.objs.size ≤ b) (hn : H' b = none) : FpOk X pins H' b := by
  refine ⟨hn, Nat.ne_of_gt (Nat.lt_of_lt_of_le I.lt hb), I.nofs hb, .inr (Nat.le_trans I.sz hb), fun x c e z => ?_, fun p hp z => ?_⟩
  · obtain ⟨v, q⟩ := I.cell x c e
    exact absurd (Nat.lt_of_lt_of_le q.lt (by rw [z]; exact hb)) (Nat.lt_irrefl _)
  · exact absurd (Nat.lt_of_lt_of_le (Heap.lt_size (I.pin p hp).1) (by rw [z]; exact hb)) (Nat.lt_irrefl _)
structure Turn (P : Program) (w : World) (K : PySem.W.Frag) (tg : Expr) (J : It) (fp : List Addr) (it : Addr) (tn : Nat → Heap → Prop) : Prop where
  mem : it ∈ fp
  obj : ∀ i h, tn i h → ∀ b ∈ fp, ∃ o, h.get? b = some o ∧ ∀ v, o.data ≠ .cell v
  keep : ∀ i h h', tn i h → (∀ b ∈ fp, ∀ o, h.get? b = some o → h'.get? b = some o) → tn i h'
  item : ∀ (X : Cx), X.prog = P → X.w = w → X.K = K → X.calm = true → ∀ (i : Nat) (pins : List (Addr × Obj)) (s : Shared) (σ : St) (H : Hp) (E : Value → Shared → Prop), Inv X pins σ H s → (∀ b ∈ fp, FpOk X pins H b) → tn i s.heap → J.go i H →
    wpAny (model P w) X.A (pyNext (.ref it)) (fun r s1 => ∃ u, r = some u ∧
      wpAny (model P w) X.A (letOwnedTupleGo tg (.ref it) u) (fun _ s2 => ∃ x H', Inv X pins σ H' s2 ∧ RelV x u ∧ J.yld i H x H' ∧ tn (i + 1) s2.heap ∧ ∀ b ∈ fp, H' b = none) E s1) E s
  done : ∀ (X : Cx), X.prog = P → X.w = w → X.K = K → X.calm = true → ∀ (i : Nat) (pins : List (Addr × Obj)) (s : Shared) (σ : St) (H : Hp) (E : Value → Shared → Prop), Inv X pins σ H s → (∀ b ∈ fp, FpOk X pins H b) → tn i s.heap → J.stop i H →
    wpAny (model P w) X.A (pyNext (.ref it)) (fun r s1 => r = none ∧ Inv X pins σ H s1) E s
  self : ∀ (A : Around) (i : Nat) (s : Shared) (Q : Value → Shared → Prop) (E : Value → Shared → Prop), tn i s.heap → Q (.ref it) s → wpAny (model P w) A (pyIter (.ref it)) Q E s
abbrev TI := St → Hp → (It → Hp → Prop) → Prop
/-- an iterator has come -/
def PIE (X : Cx) (pins : List (Addr × Obj)) (σ : St) (tg : Expr) (R : It → Hp → Prop) (itv : Value) (s2 : Shared) : Prop :=
  ∃ (it : Addr) (fp : List Addr) (tn : Nat → Heap → Prop) (J : It) (H' : Hp), itv = .ref it ∧ Inv X pins σ H' s2 ∧ Turn X.prog X.w X.K tg J fp it tn ∧ tn 0 s2.heap ∧ (∀ b ∈ fp, FpOk X pins H' b) ∧ R J H'
def PI (X : Cx) (tg iter : Expr) (wi : TI) : Prop :=
  ∀ (pins : List (Addr × Obj)) (s : Shared) (σ : St) (H : Hp) (R : It → Hp → Prop), Inv X pins σ H s → wi σ H R →
    wpAny (model X.prog X.w) X.A (eval iter X.env) (fun v s1 => wpAny (model X.prog X.w) X.A (pyIter v) (PIE X pins σ tg R) X.xe s1) X.xe s

/-- the step ahead of the store is nothing for an iterator that keeps no tuple -/
theorem go_of {M : Model} {A : Around} {E : Value → Shared → Prop} {s : Shared} {tg : Expr} {it : Addr} {u : Value} {o : Obj} {n : String} {vs : Array Value} {Q : Unit → Shared → Prop} (ho : s.heap.get? it = some o) (hc : o.cls = .type n) (hd : o.data = .fields vs)
    (hn : ["enumerate", "zip", "dict_itemiterator", "dict_reverseitemiterator", "odict_iterator", "itertools.zip_longest", "itertools.pairwise"].contains n = false) (hQ : Q () s) : wpAny M A (letOwnedTupleGo tg (.ref it) u) Q E s := by
  unfold letOwnedTupleGo
  cases tg <;> first
    | exact wpAny_pure hQ
    | (cases u <;> first
        | exact wpAny_pure hQ
        | (refine wpAny_bind (wpAny_load ho ?_)
           rw [hc, hd]
           show wpAny M A (if (["enumerate", "zip", "dict_itemiterator", "dict_reverseitemiterator", "odict_iterator", "itertools.zip_longest", "itertools.pairwise"].contains n && vs[0]? == some (rawInt _)) = true then _ else _) Q E s
           rw [if_neg (by intro h; rw [hn, Bool.false_and] at h; cases h)]
           exact wpAny_pure hQ))

/-- the list at a, as it stands at each turn (a loop may append to it) -/
def Itl (K : PySem.W.Frag) (a : Addr) : It :=
  ⟨fun i H => ∃ xs x, SqL K H a xs ∧ xs[i]? = some x, fun i H x H' => H' = H ∧ ∀ xs, SqL K H a xs → xs[i]? = some x, fun i H => ∃ xs, SqL K H a xs ∧ xs.length ≤ i⟩
def Itt (K : PySem.W.Frag) (a : Addr) : It :=
  ⟨fun i H => ∃ xs x, SqT K H a xs ∧ xs[i]? = some x, fun i H x H' => H' = H ∧ ∀ xs, SqT K H a xs → xs[i]? = some x, fun i H => ∃ xs, SqT K H a xs ∧ xs.length ≤ i⟩
/-- lo, lo + 1, .. (n of them) -/
def Itr (lo : Int) (n : Nat) : It := ⟨fun i _ => i < n, fun i H x H' => H' = H ∧ x = .int (lo + i), fun i _ => n ≤ i⟩
theorem turn_list {P : Program} {w : World} {K : PySem.W.Frag} {tg : Expr} (a it : Addr) : Turn P w K tg (Itl K a) [it] it (fun i h => h.IsListIter it a i) where
  mem := by simp
  obj := fun i h st b hb => by
    have e : b = it := by simpa using hb
    subst e
    obtain ⟨o, e, c, d⟩ := st
    exact ⟨o, e, fun v z => by rw [d] at z; cases z⟩
  keep := fun i h h' st k => st.at fun o e => k it (by simp) o e
  item := by
    intro X hP hw hK hc i pins s σ H E I hf st hg
    subst hP hw hK
    obtain ⟨xs, x, hq, hx⟩ := hg
    obtain ⟨its, rv, p, hz⟩ := I.list hq
    obtain ⟨u, hu, ru⟩ := rv.get hx
    obtain ⟨f0, f1, f2, f3, f4, f5⟩ := hf it (by simp)
    refine wpAny_pyNext_list_item st p.isList (x := u) (by simpa using hu) fun h' st' sb => ?_
    have I1 : Inv X pins σ H { s with heap := h' } := I.turned (t' := s.toks) (fun b o hb e => (sb.2 b hb).trans e) f0 f1 f3 f4 f5
    obtain ⟨o, e, c, d⟩ := id st'
    exact ⟨u, rfl, go_of (s := { s with heap := h' }) e c d (by decide) ⟨x, H, I1, ru, ⟨rfl, fun ys hy => by rw [I.list_inj hy hq]; exact hx⟩, st', fun b hb => (hf b hb).1⟩⟩
  done := by
    intro X hP hw hK hc i pins s σ H E I hf st hg
    subst hP hw hK
    obtain ⟨xs, hq, hx⟩ := hg
    obtain ⟨its, rv, p, hz⟩ := I.list hq
    obtain ⟨f0, f1, f2, f3, f4, f5⟩ := hf it (by simp)
    have hl := rv.length
    exact wpAny_pyNext_list_end (I.ok.hd hc) st p.isList (by simp; omega) fun h' eb => ⟨rfl, I.turned (t' := s.toks) (fun b o hb e => eb b o hb e) f0 f1 f3 f4 f5⟩
  self := fun _ _ _ _ _ st h => wpAny_pyIter_listiter st h
theorem turn_tuple {P : Program} {w : World} {K : PySem.W.Frag} {tg : Expr} (a it : Addr) : Turn P w K tg (Itt K a) [it] it (fun i h => h.IsTupleIter it a i) where
  mem := by simp
  obj := fun i h st b hb => by
    have e : b = it := by simpa using hb
    subst e
    obtain ⟨o, e, c, d⟩ := st
    exact ⟨o, e, fun v z => by rw [d] at z; cases z⟩
  keep := fun i h h' st k => st.at fun o e => k it (by simp) o e
  item := by
    intro X hP hw hK hc i pins s σ H E I hf st hg
    subst hP hw hK
    obtain ⟨xs, x, hq, hx⟩ := hg
    obtain ⟨its, rv, p, hz⟩ := I.tuple hq
    obtain ⟨u, hu, ru⟩ := rv.get hx
    obtain ⟨f0, f1, f2, f3, f4, f5⟩ := hf it (by simp)
    refine wpAny_pyNext_tuple_item st (show s.heap.IsTuple a its.toArray from p) (x := u) (by simpa using hu) fun h' st' sb => ?_
    have I1 : Inv X pins σ H { s with heap := h' } := I.turned (t' := s.toks) (fun b o hb e => (sb.2 b hb).trans e) f0 f1 f3 f4 f5
    obtain ⟨o, e, c, d⟩ := id st'
    exact ⟨u, rfl, go_of (s := { s with heap := h' }) e c d (by decide) ⟨x, H, I1, ru, ⟨rfl, fun ys hy => by rw [I.tuple_inj hy hq]; exact hx⟩, st', fun b hb => (hf b hb).1⟩⟩
  done := by
    intro X hP hw hK hc i pins s σ H E I hf st hg
    subst hP hw hK
    obtain ⟨xs, hq, hx⟩ := hg
    obtain ⟨its, rv, p, hz⟩ := I.tuple hq
    obtain ⟨f0, f1, f2, f3, f4, f5⟩ := hf it (by simp)
    have hl := rv.length
    exact wpAny_pyNext_tuple_end (I.ok.hd hc) st (show s.heap.IsTuple a its.toArray from p) (by simp; omega) fun h' eb => ⟨rfl, I.turned (t' := s.toks) (fun b o hb e => eb b o hb e) f0 f1 f3 f4 f5⟩
  self := fun _ _ _ _ _ st h => wpAny_pyIter_tupleiter st h
theorem turn_range {P : Program} {w : World} {K : PySem.W.Frag} {tg : Expr} (it : Addr) (lo : Int) (n : Nat) : Turn P w K tg (Itr lo n) [it] it (fun i h => IsRangeIter h it (lo + (i : Nat) * 1) ((n : Int) - (i : Nat)) 1) where
  mem := by simp
  obj := fun i h st b hb => by
    have e : b = it := by simpa using hb
    subst e
    exact ⟨_, st, fun v z => by
      have z' : Data.fields _ = Data.cell v := z
      cases z'⟩
  keep := fun i h h' st k => k it (by simp) _ st
  item := by
    intro X hP hw hK hc i pins s σ H E I hf st hg
    subst hP hw hK
    obtain ⟨f0, f1, f2, f3, f4, f5⟩ := hf it (by simp)
    have W := Walks.range (prog := X.prog) (w := X.w) (I.ok.hd hc) it lo 1 n
    refine TK.up_tk I.tk (W.item i s _ _ hg st fun v h' tk hv st' kk htk => ?_)
    obtain ⟨t, rfl⟩ := hv
    have I1 : Inv X pins σ H { s with heap := h', toks := tk } := I.turned (fun b o hb e => kk b o (by simpa using hb) e) f0 f1 f3 f4 f5
    refine ⟨_, rfl, go_of (s := { s with heap := h', toks := tk }) (n := "range_iterator") st' rfl rfl (by decide) ⟨.int (lo + i), H, I1, ⟨t, ?_⟩, ⟨rfl, rfl⟩, st', fun b hb => (hf b hb).1⟩⟩
    rw [Int.mul_one]
  done := by
    intro X hP hw hK hc i pins s σ H E I hf st hg
    subst hP hw hK
    obtain ⟨f0, f1, f2, f3, f4, f5⟩ := hf it (by simp)
    exact wpAny_pyNext_range_end (I.ok.hd hc) st (by have : n ≤ i := hg; omega) fun h' eb => ⟨rfl, I.turned (t' := s.toks) (fun b o hb e => eb b o hb e) f0 f1 f3 f4 f5⟩
  self := fun _ _ _ _ _ st h => wpAny_pyIter_rangeiter st h
end L2

namespace L2
open PySem PySem.Spec PyProof.Rows
section
variable {X : Cx} {tg : Expr}
def iList (K : PySem.W.Frag) (tl : TE) : TI := fun σ H R => tl σ H fun x H1 => ∃ a, x = .ref a ∧ (∃ xs, SqL K H1 a xs) ∧ R (Itl K a) H1
def iTup (K : PySem.W.Frag) (tl : TE) : TI := fun σ H R => tl σ H fun x H1 => ∃ a, x = .ref a ∧ (∃ xs, SqT K H1 a xs) ∧ R (Itt K a) H1
/-- a range object just made, walked -/
theorem range_it {pins : List (Addr × Obj)} {σ : St} {H : Hp} {s : Shared} {R : It → Hp → Prop} {E : Value → Shared → Prop} {lo hi : Int} {t u v : Tok} {tk : Nat} (I : Inv X pins σ H s) (h1 : -(2 ^ 62) ≤ lo) (h2 : lo < 2 ^ 62) (h3 : -(2 ^ 62) ≤ hi) (h4 : hi < 2 ^ 62)
    (q : R (Itr lo (hi - lo).toNat) H) (ht : X.tk ≤ tk := by first | exact Inv.tk ‹_› | exact Nat.le_succ_of_le (Inv.tk ‹_›) | assumption | exact Nat.le_succ_of_le (Nat.le_succ_of_le (Inv.tk ‹_›))) : wpAny (model X.prog X.w) X.A (pyIter (.ref s.heap.objs.size)) (PIE X pins σ tg R) E { s with heap := s.heap.push { cls := .type "range", data := .fields #[.int lo t, .int hi u, .int 1 v] }, toks := tk } := by
  refine wpAny_pyIter_range (IsRange.new ..) (small_one h1 h2 h3 h4) ?_
  have I1 : Inv X pins σ H { s with heap := s.heap.push { cls := .type "range", data := .fields #[.int lo t, .int hi u, .int 1 v] }, toks := tk } := I.kept fun b o e => Heap.get?_push_of_some _ e
  refine ⟨(s.heap.push { cls := .type "range", data := .fields #[.int lo t, .int hi u, .int 1 v] }).objs.size, [(s.heap.push { cls := .type "range", data := .fields #[.int lo t, .int hi u, .int 1 v] }).objs.size], _, _, H, rfl,
    I1.kept (t' := tk) fun b o e => Heap.get?_push_of_some _ e, turn_range _ lo (hi - lo).toNat, ?_, fun b hb => ?_, q⟩
  · have e1 : lo + ((0 : Nat) : Int) * 1 = lo := by simp
    have e2 : (((hi - lo).toNat : Nat) : Int) - ((0 : Nat) : Int) = Builtin.Range.rangeSize lo hi 1 := by rw [rangeSize_one]; split <;> omega
    show IsRangeIter _ _ (lo + ((0 : Nat) : Int) * 1) ((((hi - lo).toNat : Nat) : Int) - ((0 : Nat) : Int)) 1
    rw [e1, e2]
    exact Heap.get?_push_size _ rfl
  · have e : b = (s.heap.push { cls := .type "range", data := .fields #[.int lo t, .int hi u, .int 1 v] }).objs.size := by simpa using hb
    subst e
    exact I1.fpOk (Nat.le_refl _) (I1.hok.fresh (Nat.le_refl _))
def iRng1 (ta : TA) : TI := fun σ H R => ta σ H fun vs H1 => ∃ j : Int, vs = [.int j] ∧ -(2 ^ 62) ≤ j ∧ j < 2 ^ 62 ∧ R (Itr 0 j.toNat) H1
def iRng2 (ta : TA) : TI := fun σ H R => ta σ H fun vs H1 => ∃ i j : Int, vs = [.int i, .int j] ∧ (-(2 ^ 62) ≤ i ∧ i < 2 ^ 62 ∧ -(2 ^ 62) ≤ j ∧ j < 2 ^ 62) ∧ R (Itr i (j - i).toNat) H1
theorem pi_range1 {a : Expr} {ta : TA} {p pos : Pos} (hg : Gl X "range") (hm : X.mg "range" = none) (ha : PA X [a] ta) (hs : starEach [a] X.env = [(false, eval a X.env)] := by rfl) : PI X tg (.Call (.Name "range" p) [a] [] pos) (iRng1 ta) := by
  intro pins s σ H R I h
  refine Call_ (ld_blt I hg hm boot_range (PyProof.Rows.callWith_type1 (thn (ha pos pins s σ H _ I h) fun us s1 ⟨vs, H1, I1, r1, q1⟩ => ?_) hs rfl))
  obtain ⟨j, e, q1, q2, q⟩ := q1
  subst e
  cases r1 with
  | cons r rr =>
    cases rr
    obtain ⟨t, rfl⟩ := r
    exact call_range_1 (range_it I1 (by omega) (by omega) q1 q2 (by simpa using q))
/-! ### for -/
/-- W: the invariant by the turn and a measure; N: what the body is to reach -/
def tFor (wi : TI) (g : TG) (tb : TS) : TS := fun D σ H => wi σ H fun J H1 => ∃ W : Nat → Nat → St → Hp → Prop, (∃ m, W 0 m σ H1) ∧ ∀ i m σ H, W i m σ H →
  (J.stop i H ∧ D.nx σ H) ∨ (J.go i H ∧ ∃ N : St → Hp → Prop, (∀ σ' H', N σ' H' → ∃ m', m' < m ∧ W (i + 1) m' σ' H') ∧ ∀ x H', J.yld i H x H' → g x σ H' fun σ2 H2 => tb { D with nx := N, ct := N, bk := D.nx } σ2 H2)
/-- the records at fp as they stand -/
def pinsAt (fp : List Addr) (h : Heap) : List (Addr × Obj) := fp.filterMap fun b => (h.get? b).map fun o => (b, o)
theorem mem_pinsAt {fp : List Addr} {h : Heap} {b : Addr} {o : Obj} (hb : b ∈ fp) (e : h.get? b = some o) : (b, o) ∈ pinsAt fp h := List.mem_filterMap.mpr ⟨b, hb, by rw [e]; rfl⟩
theorem of_pinsAt {fp : List Addr} {h : Heap} {p : Addr × Obj} (hp : p ∈ pinsAt fp h) : p.1 ∈ fp ∧ h.get? p.1 = some p.2 := by
  obtain ⟨b, hb, e⟩ := List.mem_filterMap.mp hp
  cases q : h.get? b with
  | none => rw [q] at e; cases e
  | some o =>
    rw [q] at e
    have e' : (b, o) = p := Option.some.inj e
    subst e'
    exact ⟨hb, q⟩
theorem Inv.pinned {pins : List (Addr × Obj)} {σ : St} {H : Hp} {s : Shared} {fp : List Addr} (I : Inv X pins σ H s) (hf : ∀ b ∈ fp, FpOk X pins H b) (ho : ∀ b ∈ fp, ∃ o, s.heap.get? b = some o ∧ ∀ v, o.data ≠ .cell v) : Inv X (pins ++ pinsAt fp s.heap) σ H s :=
  I.pins_of fun p hp => (List.mem_append.mp hp).elim (fun z => I.pin p (List.mem_append_right _ z)) fun z => by
    obtain ⟨hb, e⟩ := of_pinsAt z
    obtain ⟨f0, f1, f2, _⟩ := hf p.1 hb
    obtain ⟨o, e', d⟩ := ho p.1 hb
    rw [e] at e'; cases e'
    exact ⟨e, f0, f1, f2, d⟩
theorem Inv.unpinned {pins pl : List (Addr × Obj)} {σ : St} {H : Hp} {s : Shared} (I : Inv X (pins ++ pl) σ H s) : Inv X pins σ H s := I.pins_of fun p hp => I.pin p (List.mem_append_right _ (List.mem_append_left _ hp))
theorem ps_for {iter : Expr} {body : List Stmt} {wi : TI} {g : TG} {tb : TS} {pos : Pos} (hp : PassesOwn (model X.prog X.w) X.A X.env X.xe) (hc : X.calm = true) (hi : PI X tg iter wi) (hg : PG X tg g) (hb : PSs X body tb)
    (hs : ∀ x, foldedSetIterable iter X.env x = pure x := by intro _; rfl) : PS X (.For tg iter body [] pos) (tFor wi g tb) := by
  intro pins s σ H D I h
  refine wpAny_For (thn (hi pins s σ H _ I h) fun v s1 h1 => thn h1 fun itv s2 h2 => ?_) hs
  obtain ⟨it, fp, tn, J, H2, e, I2, T, st2, f2, W, ⟨m0, w0⟩, turn⟩ := h2
  subst e
  -- what stays true of the iterator's objects through the loop
  have stat : ∀ {H' : Hp}, (∀ b ∈ fp, H' b = none) → ∀ b ∈ fp, FpOk X pins H' b := fun hn b hb => ⟨hn b hb, (f2 b hb).2⟩
  refine codeAny_forLoop_any (fun n s' => ∃ i σ' H', Inv X pins σ' H' s' ∧ tn i s'.heap ∧ (∀ b ∈ fp, H' b = none) ∧ W i n σ' H') ?_ m0 ⟨0, σ, H2, I2, st2, fun b hb => (f2 b hb).1, w0⟩
  rintro n s3 ⟨i, σ3, H3, I3, st3, fr3, w3⟩
  rcases turn i n σ3 H3 w3 with ⟨stop, qn⟩ | ⟨go, N, hN, step⟩
  · refine wpAny_passesOwn hp (thn (T.done X rfl rfl rfl hc i pins s3 σ3 H3 X.xe I3 (stat fr3) st3 stop) fun r s4 ⟨hr, I4⟩ => ?_)
    subst hr
    exact wpAny_execs_nil ⟨σ3, H3, I4, qn⟩
  · refine wpAny_passesOwn hp (thn (T.item X rfl rfl rfl hc i pins s3 σ3 H3 X.xe I3 (stat fr3) st3 go) fun r s4 ⟨u, hr, h4⟩ => ?_)
    subst hr
    refine wpAny_passesOwn hp (thn h4 fun _ s5 ⟨x, H5, I5, r5, y5, st5, fr5⟩ => ?_)
    have I5' := I5.pinned (stat fr5) (T.obj _ _ st5)
    refine wpAny_passesOwn hp (thn (hg _ s5 σ3 H5 x u _ I5' r5 (step x H5 y5)) fun _ s6 ⟨σ6, H6, I6, q6⟩ => ?_)
    refine wpAny_passesOwn hp (thn (hb _ s6 σ6 H6 _ I6 q6) fun f s7 q7 => ?_)
    have again : ∀ {σ7 : St} {H7 : Hp}, Inv X (pins ++ pinsAt fp s5.heap) σ7 H7 s7 → N σ7 H7 → ∃ m, m < n ∧ ∃ i σ' H', Inv X pins σ' H' s7 ∧ tn i s7.heap ∧ (∀ b ∈ fp, H' b = none) ∧ W i m σ' H' := fun {σ7 H7} I7 n7 => by
      obtain ⟨m', hm, w7⟩ := hN σ7 H7 n7
      refine ⟨m', hm, i + 1, σ7, H7, I7.unpinned, T.keep _ _ _ st5 fun b hb o e => (I7.pin (b, o) (List.mem_append_right _ (List.mem_append_right _ (mem_pinsAt hb e)))).1, fun b hb => ?_, w7⟩
      obtain ⟨o, e, d⟩ := T.obj _ _ st5 b hb
      exact (I7.pin (b, o) (List.mem_append_right _ (List.mem_append_right _ (mem_pinsAt hb e)))).2.1
    cases f with
    | next => obtain ⟨σ7, H7, I7, n7⟩ := q7; exact again I7 n7
    | cont => obtain ⟨σ7, H7, I7, n7⟩ := q7; exact again I7 n7
    | brk => obtain ⟨σ7, H7, I7, q7⟩ := q7; exact ⟨σ7, H7, I7.unpinned, q7⟩
    | ret v => obtain ⟨x7, σ7, H7, I7, r7, q7⟩ := q7; exact ⟨x7, σ7, H7, I7.unpinned, r7, q7⟩
end

/-! ### the forms one uses -/
end L2

namespace L2
open PySem PySem.Spec PyProof.Rows

abbrev R2 := V → V → Hp → VK → Prop
/-- a two-place operation on values: f is binaryOp op, inplaceOp op or compareOp op -/
def OpR (X : Cx) (f : Value → Value → Sem Value) (r : R2) : Prop :=
  ∀ (pins : List (Addr × Obj)) (s : Shared) (σ : St) (H : Hp) (x y : V) (v u : Value) (Q : VK), Inv X pins σ H s → RelV x v → RelV y u → r x y H Q →
    wpAny (model X.prog X.w) X.A (f v u) (EP X pins σ Q) X.xe s
/-- a one-place operation -/
def UnR (X : Cx) (f : Value → Sem Value) (r : V → Hp → VK → Prop) : Prop :=
  ∀ (pins : List (Addr × Obj)) (s : Shared) (σ : St) (H : Hp) (x : V) (v : Value) (Q : VK), Inv X pins σ H s → RelV x v → r x H Q →
    wpAny (model X.prog X.w) X.A (f v) (EP X pins σ Q) X.xe s
/-- a call of a value that is known (a builtin, a type) with values -/
def CallR (X : Cx) (f : Value) (r : List V → Hp → VK → Prop) : Prop :=
  ∀ (pins : List (Addr × Obj)) (s : Shared) (σ : St) (H : Hp) (xs : List V) (us : List Value) (Q : VK), Inv X pins σ H s → Vals xs us → r xs H Q →
    wpAny (model X.prog X.w) X.A (call f us) (EP X pins σ Q) X.xe s
/-- a value's truth -/
def TruR (X : Cx) (r : V → Hp → (Bool → Hp → Prop) → Prop) : Prop :=
  ∀ (pins : List (Addr × Obj)) (s : Shared) (σ : St) (H : Hp) (x : V) (v : Value) (Q : Bool → Hp → Prop), Inv X pins σ H s → RelV x v → r x H Q →
    wpAny (model X.prog X.w) X.A (truthy v) (TP X pins σ Q) X.xe s

def tOp (r : R2) (ta tb : TE) : TE := fun σ H Q => ta σ H fun x H1 => tb σ H1 fun y H2 => r x y H2 Q
def tUn (r : V → Hp → VK → Prop) (ta : TE) : TE := fun σ H Q => ta σ H fun x H1 => r x H1 Q
/-- ints in, under C, and a value out -/
def rI (C : Int → Int → Prop) (g : Int → Int → V) : R2 := fun x y H Q => ∃ i j, x = .int i ∧ y = .int j ∧ C i j ∧ Q (g i j) H
def rI0 (g : Int → Int → V) : R2 := fun x y H Q => ∃ i j, x = .int i ∧ y = .int j ∧ Q (g i j) H
def rU (g : Int → V) : V → Hp → VK → Prop := fun x H Q => ∃ i, x = .int i ∧ Q (g i) H

section
variable {X : Cx} {a b c : Expr} {ta tb tc : TE} {pos : Pos}

theorem binT (ha : PE X a ta) (hb : PE X b tb) {pins : List (Addr × Obj)} {s : Shared} {σ : St} {H : Hp} {R : V → V → Hp → Prop} (I : Inv X pins σ H s)
    (h : ta σ H fun x H1 => tb σ H1 fun y H2 => R x y H2) {Q : Value → Shared → Prop} {f : Value → Value → Sem Value}
    (hf : ∀ v u s2 x y H2, Inv X pins σ H2 s2 → RelV x v → RelV y u → R x y H2 → wpAny (model X.prog X.w) X.A (f v u) Q X.xe s2) :
    wpAny (model X.prog X.w) X.A (eval a X.env) (fun v s₁ => wpAny (model X.prog X.w) X.A (eval b X.env) (fun u s₂ => wpAny (model X.prog X.w) X.A (f v u) Q X.xe s₂) X.xe s₁) X.xe s := by
  refine thn (ha pins s σ H _ I h) fun v s1 ⟨x, H1, I1, r1, q1⟩ => ?_
  refine thn (hb pins s1 σ H1 _ I1 q1) fun u s2 ⟨y, H2, I2, r2, q2⟩ => ?_
  exact hf v u s2 x y H2 I2 r1 r2 q2

theorem pe_op {op : Operator} {r : R2} (ho : OpR X (binaryOp op) r) (ha : PE X a ta) (hb : PE X b tb) : PE X (.BinOp a op b pos) (tOp r ta tb) := by
  intro pins s σ H Q I h
  exact wpAny_BinOp (binT ha hb I h fun v u s2 x y H2 I2 rx ry q => ho pins s2 σ H2 x y v u Q I2 rx ry q)
/-! ### ints -/
theorem opI {f : Value → Value → Sem Value} {C : Int → Int → Prop} {g : Int → Int → Int}
    (rule : ∀ (i j : Int) (t u : Tok) (s : Shared) (Q : Value → Shared → Prop) (E : Value → Shared → Prop), C i j → Q (.int (g i j) s.toks) { s with toks := s.toks + 1 } → wpAny (model X.prog X.w) X.A (f (.int i t) (.int j u)) Q E s) :
    OpR X f (rI C fun i j => .int (g i j)) := by
  intro pins s σ H x y v u Q I rx ry h
  obtain ⟨i, j, rfl, rfl, hc, q⟩ := h
  obtain ⟨t, rfl⟩ := rx
  obtain ⟨t', rfl⟩ := ry
  exact rule i j t t' s _ _ hc ⟨.int (g i j), H, I.tok _, ⟨_, rfl⟩, q⟩
theorem opI0 {f : Value → Value → Sem Value} {g : Int → Int → Int}
    (rule : ∀ (i j : Int) (t u : Tok) (s : Shared) (Q : Value → Shared → Prop) (E : Value → Shared → Prop), Q (.int (g i j) s.toks) { s with toks := s.toks + 1 } → wpAny (model X.prog X.w) X.A (f (.int i t) (.int j u)) Q E s) :
    OpR X f (rI0 fun i j => .int (g i j)) := by
  intro pins s σ H x y v u Q I rx ry h
  obtain ⟨i, j, rfl, rfl, q⟩ := h
  obtain ⟨t, rfl⟩ := rx
  obtain ⟨t', rfl⟩ := ry
  exact rule i j t t' s _ _ ⟨.int (g i j), H, I.tok _, ⟨_, rfl⟩, q⟩
theorem opB0 {f : Value → Value → Sem Value} {g : Int → Int → Bool}
    (rule : ∀ (i j : Int) (t u : Tok) (s : Shared) (Q : Value → Shared → Prop) (E : Value → Shared → Prop), Q (.bool (g i j)) s → wpAny (model X.prog X.w) X.A (f (.int i t) (.int j u)) Q E s) :
    OpR X f (rI0 fun i j => .bl (g i j)) := by
  intro pins s σ H x y v u Q I rx ry h
  obtain ⟨i, j, rfl, rfl, q⟩ := h
  obtain ⟨t, rfl⟩ := rx
  obtain ⟨t', rfl⟩ := ry
  exact rule i j t t' s _ _ ⟨.bl (g i j), H, I, rfl, q⟩

def CDiv (i j : Int) : Prop := 0 < j ∧ j < 1073741824
def CDivN (i j : Int) : Prop := j ≠ 0 ∧ j.natAbs < 1073741824
def CPow (i j : Int) : Prop := 0 ≤ j ∧ j ≤ 1000000 ∧ i.natAbs < 2 ^ 64
def CMul (i j : Int) : Prop := (-(2 ^ 64) < i ∧ i < 2 ^ 64) ∨ (-(2 ^ 64) < j ∧ j < 2 ^ 64)
theorem CMul.ok {i j : Int} (h : CMul i j) : IntMulOk i j := by
  rcases h with ⟨h1, h2⟩ | ⟨h1, h2⟩
  · exact .of_left (intBits_le_64 h1 h2)
  · exact .of_right (intBits_le_64 h1 h2)
theorem op_add : OpR X (binaryOp .Add) (rI0 fun i j => .int (i + j)) := opI0 fun _ _ _ _ _ _ _ q => add_int q
theorem op_mul : OpR X (binaryOp .Mult) (rI CMul fun i j => .int (i * j)) := opI fun _ _ _ _ _ _ _ hc q => mul_int q hc.ok
/-- // by a positive divisor -/
theorem op_fdiv : OpR X (binaryOp .FloorDiv) (rI CDiv fun i j => .int (i / j)) := opI fun i j _ _ _ _ _ hc q => by
  have h1 : (0 : Int) < j := hc.1
  have h2 : j < 1073741824 := hc.2
  exact floordiv_int (by omega) (by rw [Int.fdiv_eq_ediv_of_nonneg i (by omega)]; exact q) (.inl (PyProof.noPylong_small (by omega)))
/-- % by a positive divisor of any size -/
theorem op_mod : OpR X (binaryOp .Mod) (rI (fun _ j => 0 < j) fun i j => .int (i % j)) := opI fun i j _ _ _ _ _ hc q => by
  have h1 : (0 : Int) < j := hc
  exact mod_int' (by omega) (by rw [Int.fmod_eq_emod_of_nonneg i (by omega)]; exact q)
theorem op_pow : OpR X (binaryOp .Pow) (rI CPow fun i j => .int (i ^ j.toNat)) := opI fun _ _ _ _ _ _ _ hc q => pow_int_small hc.1 hc.2.1 hc.2.2 q
/-! ### bools among ints: n += (a < b) -/
end

/-! ### comparisons -/
/-- the scalars that == tells apart as data does -/
def scal : V → V → Bool
  | .non, .non => true | .non, .int _ => true | .int _, .non => true | .non, .bl _ => true | .bl _, .non => true | .non, .str _ => true | .str _, .non => true
  | .int _, .int _ => true | .bl _, .bl _ => true | .str _, .str _ => true | .byt _, .byt _ => true
  | .int _, .str _ => true | .str _, .int _ => true | .bl _, .str _ => true | .str _, .bl _ => true
  | _, _ => false
def rEq : R2 := fun x y H Q => scal x y = true ∧ Q (.bl (decide (x = y))) H
def rNe : R2 := fun x y H Q => scal x y = true ∧ Q (.bl (!decide (x = y))) H

theorem dec_int {i j : Int} : decide (V.int i = V.int j) = (i == j) := by
  rw [Bool.eq_iff_iff]
  simp
theorem dec_bl {i j : Bool} : decide (V.bl i = V.bl j) = (i == j) := by
  rw [Bool.eq_iff_iff]
  simp
theorem dec_str {i j : Str} : decide (V.str i = V.str j) = (i == j) := by
  rw [Bool.eq_iff_iff]
  simp
theorem dec_byt {i j : Array UInt8} : decide (V.byt i = V.byt j) = (i.toList == j.toList) := by
  rw [Bool.eq_iff_iff]
  cases i
  cases j
  simp

section
variable {X : Cx} {a b c : Expr} {ta tb tc : TE} {pos : Pos}
theorem fin_bl {pins : List (Addr × Obj)} {σ : St} {H : Hp} {s : Shared} {Q : VK} {k k' : Bool} (I : Inv X pins σ H s) (q : Q (.bl k) H) (e : k = k') : EP X pins σ Q (.bool k') s := by
  subst e
  exact ⟨.bl k, H, I, rfl, q⟩
theorem op_eq : OpR X (compareOp .Eq) rEq := by
  intro pins s σ H x y v u Q I rx ry h
  obtain ⟨hs, q⟩ := h
  cases x with
  | non =>
    cases rx
    cases y with
    | non => cases ry; exact PySem.EqNone.eq_none_none (fin_bl I q (by simp))
    | bl j => cases ry; exact PySem.EqNone.eq_none_bool (fin_bl I q (by simp))
    | int j => obtain ⟨t', rfl⟩ := ry; exact PySem.EqNone.eq_none_int (fin_bl I q (by simp))
    | str j => obtain ⟨t', rfl⟩ := ry; exact PySem.EqNone.eq_none_str (fin_bl I q (by simp))
    | _ => exact absurd (show false = true from hs) Bool.false_ne_true
  | bl i =>
    cases rx
    cases y with
    | non => cases ry; exact PySem.EqNone.eq_bool_none (fin_bl I q (by simp))
    | bl j => cases ry; exact eq_bool (fin_bl I q dec_bl)
    | str j => obtain ⟨t', rfl⟩ := ry; exact PySem.EqMixed.eq_bool_str (fin_bl I q (by simp))
    | _ => exact absurd (show false = true from hs) Bool.false_ne_true
  | int i =>
    obtain ⟨t, rfl⟩ := rx
    cases y with
    | non => cases ry; exact PySem.EqNone.eq_int_none (fin_bl I q (by simp))
    | int j => obtain ⟨t', rfl⟩ := ry; exact eq_int (fin_bl I q dec_int)
    | str j => obtain ⟨t', rfl⟩ := ry; exact PySem.EqMixed.eq_int_str (fin_bl I q (by simp))
    | _ => exact absurd (show false = true from hs) Bool.false_ne_true
  | str i =>
    obtain ⟨t, rfl⟩ := rx
    cases y with
    | non => cases ry; exact PySem.EqNone.eq_str_none (fin_bl I q (by simp))
    | bl j => cases ry; exact PySem.EqMixed.eq_str_bool (fin_bl I q (by simp))
    | int j => obtain ⟨t', rfl⟩ := ry; exact PySem.EqMixed.eq_str_int (fin_bl I q (by simp))
    | str j => obtain ⟨t', rfl⟩ := ry; exact eq_str (fin_bl I q dec_str)
    | _ => exact absurd (show false = true from hs) Bool.false_ne_true
  | byt i =>
    obtain ⟨t, rfl⟩ := rx
    cases y with
    | byt j => obtain ⟨t', rfl⟩ := ry; exact PySem.W.eq_bytes (fin_bl I q dec_byt)
    | _ => exact absurd (show false = true from hs) Bool.false_ne_true
  | _ => cases y <;> exact absurd (show false = true from hs) Bool.false_ne_true
theorem op_ne : OpR X (compareOp .NotEq) rNe := by
  intro pins s σ H x y v u Q I rx ry h
  obtain ⟨hs, q⟩ := h
  cases x with
  | non =>
    cases rx
    cases y with
    | non => cases ry; exact PySem.EqNone.ne_none_none (fin_bl I q (by simp))
    | bl j => cases ry; exact PySem.EqNone.ne_none_bool (fin_bl I q (by simp))
    | int j => obtain ⟨t', rfl⟩ := ry; exact PySem.EqNone.ne_none_int (fin_bl I q (by simp))
    | str j => obtain ⟨t', rfl⟩ := ry; exact PySem.EqNone.ne_none_str (fin_bl I q (by simp))
    | _ => exact absurd (show false = true from hs) Bool.false_ne_true
  | bl i =>
    cases rx
    cases y with
    | non => cases ry; exact PySem.EqNone.ne_bool_none (fin_bl I q (by simp))
    | bl j => cases ry; exact ne_bool (fin_bl I q (congrArg not dec_bl))
    | str j => obtain ⟨t', rfl⟩ := ry; exact PySem.EqMixed.ne_bool_str (fin_bl I q (by simp))
    | _ => exact absurd (show false = true from hs) Bool.false_ne_true
  | int i =>
    obtain ⟨t, rfl⟩ := rx
    cases y with
    | non => cases ry; exact PySem.EqNone.ne_int_none (fin_bl I q (by simp))
    | int j => obtain ⟨t', rfl⟩ := ry; exact ne_int (fin_bl I q (congrArg not dec_int))
    | str j => obtain ⟨t', rfl⟩ := ry; exact PySem.EqMixed.ne_int_str (fin_bl I q (by simp))
    | _ => exact absurd (show false = true from hs) Bool.false_ne_true
  | str i =>
    obtain ⟨t, rfl⟩ := rx
    cases y with
    | non => cases ry; exact PySem.EqNone.ne_str_none (fin_bl I q (by simp))
    | bl j => cases ry; exact PySem.EqMixed.ne_str_bool (fin_bl I q (by simp))
    | int j => obtain ⟨t', rfl⟩ := ry; exact PySem.EqMixed.ne_str_int (fin_bl I q (by simp))
    | str j => obtain ⟨t', rfl⟩ := ry; exact ne_str (fin_bl I q (congrArg not dec_str))
    | _ => exact absurd (show false = true from hs) Bool.false_ne_true
  | byt i =>
    obtain ⟨t, rfl⟩ := rx
    cases y with
    | byt j => obtain ⟨t', rfl⟩ := ry; exact PySem.W.ne_bytes (fin_bl I q (congrArg not dec_byt))
    | _ => exact absurd (show false = true from hs) Bool.false_ne_true
  | _ => cases y <;> exact absurd (show false = true from hs) Bool.false_ne_true

theorem op_lt : OpR X (compareOp .Lt) (rI0 fun i j => .bl (decide (i < j))) := opB0 fun _ _ _ _ _ _ _ q => lt_int q
theorem op_gt : OpR X (compareOp .Gt) (rI0 fun i j => .bl (decide (j < i))) := opB0 fun _ _ _ _ _ _ _ q => gt_int q
theorem op_ge : OpR X (compareOp .GtE) (rI0 fun i j => .bl (decide (j ≤ i))) := opB0 fun _ _ _ _ _ _ _ q => ge_int q
theorem op_lt_str : OpR X (compareOp .Lt) (fun x y H Q => ∃ i j, x = .str i ∧ y = .str j ∧ Q (.bl (decide (i.cps.toList < j.cps.toList))) H) := by
  intro pins s σ H x y v u Q I rx ry h
  obtain ⟨i, j, rfl, rfl, q⟩ := h
  obtain ⟨t, rfl⟩ := rx
  obtain ⟨t', rfl⟩ := ry
  exact lt_str (fin_bl I q rfl)
/-- is None, is not None: the right side a value none -/
theorem op_isN : OpR X (compareOp .Is) (fun x y H Q => y = .non ∧ Q (.bl (decide (x = .non))) H) := by
  intro pins s σ H x y v u Q I rx ry h
  obtain ⟨rfl, q⟩ := h
  cases ry
  refine is_none_gen (fin_bl I q ?_)
  cases x <;> first
    | (cases rx; rfl)
    | (obtain ⟨t, rfl⟩ := rx; rfl)
/-- is, is not of two objects that are tracked lists or instances -/
def isObj : HO → Bool
  | .lst _ => true
  | .ins _ _ _ => true
  | _ => false
/-- two rules for one operation: by cases -/
theorem OpR.or {f : Value → Value → Sem Value} {r r' : R2} (h : OpR X f r) (h' : OpR X f r') : OpR X f (fun x y H Q => r x y H Q ∨ r' x y H Q) := by
  intro pins s σ H x y v u Q I rx ry q
  rcases q with q | q
  · exact h pins s σ H x y v u Q I rx ry q
  · exact h' pins s σ H x y v u Q I rx ry q

theorem nomark (b : Expr) {op : CmpOp} (h : op ≠ .In := by decide) (h2 : op ≠ .NotIn := by decide) : behindInMarks op b = false := by
  have e1 : (op == CmpOp.In) = false := by cases op <;> first | rfl | exact absurd rfl h
  have e2 : (op == CmpOp.NotIn) = false := by cases op <;> first | rfl | exact absurd rfl h2
  cases b <;> simp [behindInMarks, e1, e2]
/-- a comparison as a value; hm: nomark b, or (for in, not in) by with_unfolding_all rfl -/
theorem pe_cmpR {op : CmpOp} {r : R2} (ho : OpR X (compareOp op) r) (ha : PE X a ta) (hb : PE X b tb) (hm : behindInMarks op b = false) : PE X (.Compare a [op] [b] pos) (tOp r ta tb) := by
  intro pins s σ H Q I h
  exact wpAny_Compare1 (binT ha hb I h fun v u s2 x y H2 I2 rx ry q => ho pins s2 σ H2 x y v u Q I2 rx ry q) hm
/-- a reading of a value as a test -/
def tTest (t : TE) : TT := fun σ H Q => t σ H fun x H' => ∃ k, x = .bl k ∧ Q k H'
theorem pt_cmpR {op : CmpOp} {r : R2} (ho : OpR X (compareOp op) r) (ha : PE X a ta) (hb : PE X b tb) (hm : behindInMarks op b = false) : PT X (.Compare a [op] [b] pos) (tTest (tOp r ta tb)) := by
  intro pins s σ H Q I h
  refine wpAny_isTrue_Compare1 (thn (ha pins s σ H _ I h) fun v s1 ⟨x, H1, I1, r1, q1⟩ => thn (hb pins s1 σ H1 _ I1 q1) fun u s2 ⟨y, H2, I2, r2, q2⟩ =>
    thn (ho pins s2 σ H2 x y v u _ I2 r1 r2 q2) fun c s3 ⟨z, H3, I3, r3, k, e, q3⟩ => ?_) hm
  subst e
  cases r3
  exact wpAny_truthy_bool ⟨H3, I3, q3⟩
/-- a op1 b op2 c -/
def tChain (r r' : R2) (ta tb tc : TE) : TE := fun σ H Q => ta σ H fun x H1 => tb σ H1 fun y H2 => r x y H2 fun z H3 => ∃ k, z = .bl k ∧
  (if k = true then tc σ H3 fun w' H4 => r' y w' H4 Q else Q (.bl false) H3)
/-! ### truth -/
/-- a value's truth by the abstract heap -/
def TruV (K : PySem.W.Frag) (x : V) (H : Hp) (k : Bool) : Prop :=
  match x with
  | .non => k = false
  | .bl b => k = b
  | .int i => k = (i != 0)
  | .str y => y.length ≤ sizeLine ∧ k = ((y.length : Int) != 0)
  | .byt y => y.size ≤ sizeLine ∧ k = ((y.size : Int) != 0)
  | .ref p => (∃ xs, SqL K H p xs ∧ k = !xs.isEmpty) ∨ (∃ xs, SqT K H p xs ∧ k = !xs.isEmpty) ∨ ∃ kvs, H p = some (.dK kvs) ∧ k = !kvs.isEmpty
  | _ => False
theorem line63 : (sizeLine : Nat) < 2 ^ 63 := by rw [sizeLine_eq]; decide
/-! ### strs and bytes -/
theorem op_add_str : OpR X (binaryOp .Add) (fun x y H Q => ∃ i j, x = .str i ∧ y = .str j ∧ i.length + j.length ≤ sizeLine ∧ Q (.str (i ++ j)) H) := by
  intro pins s σ H x y v u Q I rx ry h
  obtain ⟨i, j, rfl, rfl, hz, q⟩ := h
  obtain ⟨t, rfl⟩ := rx
  obtain ⟨t', rfl⟩ := ry
  exact TK.up_tk I.tk (add_str (fun t' tk htk => ⟨.str (i ++ j), H, I.tok _, ⟨_, rfl⟩, q⟩) hz)
def PlainIxT (b : Expr) : Prop := ∀ o i, subscripted b false o i = operate [o, i] (getItem o i)
/-! ### scalar builtins, by CallR -/
theorem vals1 {x : V} {us : List Value} (r : Vals [x] us) : ∃ u, us = [u] ∧ RelV x u := by
  cases r with
  | cons r1 r2 => cases r2; exact ⟨_, rfl, r1⟩
theorem call_abs : CallR X (.builtin "abs") (fun xs H Q => ∃ i, xs = [.int i] ∧ Q (.int (if i < 0 then -i else i)) H) := by
  intro pins s σ H xs us Q I r h
  obtain ⟨i, rfl, q⟩ := h
  obtain ⟨u, rfl, t, rfl⟩ := vals1 r
  exact TK.up_tk I.tk (call_abs_int fun u tk htk => ⟨.int (if i < 0 then -i else i), H, I.tok _, ⟨_, rfl⟩, q⟩)
theorem call_int1 : CallR X (.type "int") (fun xs H Q => (∃ i, xs = [.int i] ∧ Q (.int i) H) ∨ ∃ k, xs = [.bl k] ∧ Q (.int (if k then 1 else 0)) H) := by
  intro pins s σ H xs us Q I r h
  rcases h with ⟨i, rfl, q⟩ | ⟨k, rfl, q⟩
  · obtain ⟨u, rfl, t, rfl⟩ := vals1 r
    exact call_int_int ⟨.int i, H, I, ⟨_, rfl⟩, q⟩
  · obtain ⟨u, rfl, r1⟩ := vals1 r
    cases r1
    exact call_int_bool ⟨.int (if k then 1 else 0), H, I.tok _, ⟨_, rfl⟩, q⟩
/-- len of a str, a bytes, a list, a tuple -/
def LenV (K : PySem.W.Frag) (x : V) (H : Hp) (n : Nat) : Prop :=
  match x with
  | .str y => y.length ≤ sizeLine ∧ n = y.length
  | .byt y => y.size ≤ sizeLine ∧ n = y.size
  | .ref p => (∃ xs, SqL K H p xs ∧ n = xs.length) ∨ ∃ xs, SqT K H p xs ∧ n = xs.length
  | _ => False
theorem call_len : CallR X (.builtin "len") (fun xs H Q => ∃ x n, xs = [x] ∧ LenV X.K x H n ∧ Q (.int n) H) := by
  intro pins s σ H xs us Q I r h
  obtain ⟨x, n, rfl, e, q⟩ := h
  obtain ⟨u, rfl, rx⟩ := vals1 r
  have hl := line63
  have hs : sizeLine = 16777216 := sizeLine_eq
  cases x with
  | str y =>
    obtain ⟨t, rfl⟩ := rx
    obtain ⟨hy, e'⟩ : y.length ≤ sizeLine ∧ n = y.length := e
    subst e'
    exact len_str (by omega) ⟨.int _, H, I.tok _, ⟨_, rfl⟩, q⟩
  | byt y =>
    obtain ⟨t, rfl⟩ := rx
    obtain ⟨hy, e'⟩ : y.size ≤ sizeLine ∧ n = y.size := e
    subst e'
    exact PySem.W.len_bytes (by omega) ⟨.int _, H, I.tok _, ⟨_, rfl⟩, q⟩
  | ref p =>
    cases rx
    have e' : (∃ xs, SqL X.K H p xs ∧ n = xs.length) ∨ ∃ xs, SqT X.K H p xs ∧ n = xs.length := e
    rcases e' with ⟨xs, hx, e'⟩ | ⟨xs, hx, e'⟩
    · subst e'
      obtain ⟨its, r', pl, hz⟩ := I.list hx
      have hlen := r'.length
      exact Calls.call_len_list pl.isList (by simp only [List.size_toArray]; omega) ⟨.int xs.length, H, I.tok _, ⟨_, by simp only [List.size_toArray]; rw [hlen]⟩, q⟩
    · subst e'
      obtain ⟨its, r', pl, hz⟩ := I.tuple hx
      have hlen := r'.length
      exact len_tuple pl (by simp only [List.size_toArray]; omega) ⟨.int xs.length, H, I.tok _, ⟨_, by simp only [List.size_toArray]; rw [hlen]⟩, q⟩
  | _ => exact (show False from e).elim
end
end L2

namespace L2
open PySem PySem.Spec PyProof.Rows

/-! ### an instance, its attributes a map -/
structure ObjM (h : Heap) (x dx C : Addr) (mA : Str → Option Value) : Prop where
  obj : h.get? x = some (PySem.W.instObj C dx)
  ns : h.Ns1 dx mA
  ne : dx ≠ x

theorem lookIn_ns {h : Heap} {dx : Addr} {mA : Str → Option Value} (n : h.Ns1 dx mA) : ∃ od, h.get? dx = some od ∧ ∀ name, PySem.W.lookIn name od = some (mA name) := by
  obtain ⟨o, es, ep, ho, hd, hk, _, hm⟩ := n
  refine ⟨o, ho, fun name => ?_⟩
  have e := hm name
  unfold nsFind findBy at e
  rw [← Array.find?_toList] at e
  unfold PySem.W.lookIn
  rw [hd]
  dsimp only
  split
  · rename_i y q
    rw [q] at e
    exact congrArg some e
  · rename_i q
    rw [q] at e
    have a : es.toList.any (·.refKey) = false := by
      rw [List.any_eq_false]
      intro y hy
      obtain ⟨z, t, hkey⟩ := hk y (Array.mem_toList_iff.mp hy)
      simp [DictEntry.refKey, hkey]
    have a' : ¬ es.toList.any (·.refKey) = true := by rw [a]; exact Bool.false_ne_true
    rw [if_neg a']
    exact congrArg some e

theorem ObjM.look {h : Heap} {x dx C : Addr} {mA : Str → Option Value} (I : ObjM h x dx C mA) : ∃ od, PySem.W.InstAt h x (PySem.W.instObj C dx) C (some od) ∧ ∀ name, PySem.W.lookIn name od = some (mA name) :=
  let ⟨od, ho, hl⟩ := lookIn_ns I.ns
  ⟨od, ⟨I.obj, rfl, rfl, ho⟩, hl⟩

section
variable {prog : Program} {w : World} {A : Around} {E : Value → Shared → Prop} {s : Shared} {K : PySem.W.Frag} {x dx C f : Addr} {mA : Str → Option Value} {name : Str} {v : Value}

end

/-! ### the attributes as a list of pairs -/
def putF (f : Str) (v : V) : List (Str × V) → List (Str × V)
  | [] => [(f, v)]
  | (g, x) :: r => if g = f then (g, v) :: r else (g, x) :: putF f v r
theorem lookup_putF (f g : Str) (v : V) : ∀ fs : List (Str × V), (putF f v fs).lookup g = if g = f then some v else fs.lookup g
  | [] => by
    show List.lookup g [(f, v)] = _
    by_cases h : g = f
    · have hb : (g == f) = true := beq_iff_eq.mpr h
      simp only [List.lookup, hb, if_pos h]
    · have hb : (g == f) = false := beq_eq_false_iff_ne.mpr h
      simp only [List.lookup, hb, if_neg h]
  | (k, x) :: r => by
    have ih := lookup_putF f g v r
    rw [show putF f v ((k, x) :: r) = (if k = f then (k, v) :: r else (k, x) :: putF f v r) from rfl]
    by_cases hk : k = f
    · rw [if_pos hk]
      by_cases h : g = k
      · have hb : (g == k) = true := beq_iff_eq.mpr h
        simp only [List.lookup, hb, if_pos (h.trans hk)]
      · have hb : (g == k) = false := beq_eq_false_iff_ne.mpr h
        simp only [List.lookup, hb, if_neg (fun e : g = f => h (e.trans hk.symm))]
    · rw [if_neg hk]
      by_cases h : g = k
      · have hb : (g == k) = true := beq_iff_eq.mpr h
        simp only [List.lookup, hb, if_neg (fun e : g = f => hk (h.symm.trans e))]
      · have hb : (g == k) = false := beq_eq_false_iff_ne.mpr h
        simp only [List.lookup, hb]
        exact ih
theorem RelO.some_of {v : V} {o : Option Value} (r : RelO (some v) o) : ∃ u, o = some u ∧ RelV v u := by
  cases o with
  | none => exact (show False from r).elim
  | some u => exact ⟨u, rfl, r⟩
theorem RelO.none_of {o : Option Value} (r : RelO none o) : o = none := by
  cases o with
  | none => rfl
  | some u => exact (show False from r).elim
theorem handed_of {v : V} {u : Value} (r : RelV v u) : PySem.W.handedIn u = true := by
  cases v with
  | non => cases (show u = Value.none from r); rfl
  | bl b => cases (show u = Value.bool b from r); rfl
  | int i => obtain ⟨t, e⟩ := (show ∃ t, u = Value.int i t from r); cases e; rfl
  | str x => obtain ⟨t, e⟩ := (show ∃ t, u = Value.str x t from r); cases e; rfl
  | byt b => obtain ⟨t, e⟩ := (show ∃ t, u = Value.bytes b t from r); cases e; rfl
  | flt b => obtain ⟨t, e⟩ := (show ∃ t, u = Value.float b t from r); cases e; rfl
  | ref a => cases (show u = Value.ref a from r); rfl
  | ty n => cases (show u = Value.type n from r); rfl

section
variable {P : Program} {w : World} {H H' : Hp} {h h' : Heap} {a C dx : Addr} {fs fs' : List (Str × V)}
end

/-! ### what of the text a class must have -/
structure Cls (K : PySem.W.Frag) (C : Addr) : Prop where
  pg : PySem.W.plainGet K C Str.empty = true
  hd : PySem.W.hasDictIn K C = true
  po : PySem.W.plainOver K C = true
  sa : PySem.W.findIn K (.ref C) "__setattr__" = some (some (.builtin "object.__setattr__"))
theorem Cls.get {K : PySem.W.Frag} {C : Addr} (c : Cls K C) (f : Str) : PySem.W.plainGet K C f = true := c.pg
/-- no class of it has the name -/
def NoAttr (K : PySem.W.Frag) (C : Addr) (f : Str) : Prop := PySem.W.findIn K (.ref C) f = some none
theorem NoAttr.taker {K : PySem.W.Frag} {C : Addr} {f : Str} (n : NoAttr K C f) : PySem.W.takerIn K C f = some none := by
  unfold PySem.W.takerIn
  rw [show PySem.W.findIn K (.ref C) f = some none from n]
  rfl
/-- a constant of the class -/
structure Con (K : PySem.W.Frag) (C : Addr) (f : Str) (v : V) (u : Value) : Prop where
  at_ : PySem.W.findIn K (.ref C) f = some (some u)
  rel : RelV v u
  get : PySem.W.specialIn K u "__get__" = some none
  cp : PySem.W.copiedNames.contains f = false
/-- a method: a plain def of the class or of one above it -/
structure Meth (K : PySem.W.Frag) (C : Addr) (m : Str) (f : Addr) : Prop where
  at_ : PySem.W.findIn K (.ref C) m = some (some (.ref f))
  fn : PySem.W.isFn K (.ref f) = true
  kp : PySem.W.keepIn K (.ref f) = true

section
variable {X : Cx} {pins : List (Addr × Obj)} {σ : St} {H : Hp} {s : Shared} {a C dx : Addr} {fs : List (Str × V)} {f : Str} {v : V} {A : Around} {E : Value → Shared → Prop}

/-- a new instance, tracked, without attributes -/
theorem Inv.made (I : Inv X pins σ H s) : Inv X pins σ (upd (upd H s.heap.objs.size (.own (s.heap.objs.size + 1))) (s.heap.objs.size + 1) (.ins C s.heap.objs.size []))
    { s with heap := (s.heap.push PySem.W.emptyDict).push (PySem.W.instObj C s.heap.objs.size) } := by
  have e1 : (s.heap.push PySem.W.emptyDict).get? s.heap.objs.size = some PySem.W.emptyDict := Heap.get?_push_size s.heap rfl
  have e2 : ((s.heap.push PySem.W.emptyDict).push (PySem.W.instObj C s.heap.objs.size)).get? (s.heap.objs.size + 1) = some (PySem.W.instObj C s.heap.objs.size) := by
    have := Heap.get?_push_size (s.heap.push PySem.W.emptyDict) (o := PySem.W.instObj C s.heap.objs.size) rfl
    rwa [Heap.size_push] at this
  have e3 : (s.heap.push PySem.W.emptyDict).Ns s.heap.objs.size (fun _ => none) := ⟨PySem.W.emptyDict, #[], _, e1, rfl, (fun e he => absurd he (by simp)), fun _ => rfl⟩
  have I1 := I.laid (a := s.heap.objs.size) (o := .own (s.heap.objs.size + 1)) (h' := s.heap.push PySem.W.emptyDict) (t' := s.toks) (fun b u q => Heap.get?_push_of_some _ q) (Nat.le_refl _) ⟨_, e1⟩
  refine I1.laid (a := s.heap.objs.size + 1) (o := .ins C s.heap.objs.size []) (t' := s.toks) (fun b u q => Heap.get?_push_of_some _ q) (Nat.le_of_eq (Heap.size_push _ _)) ?_
  have ne : s.heap.objs.size ≠ s.heap.objs.size + 1 := Nat.ne_of_lt (Nat.lt_succ_self _)
  refine ⟨by rw [upd_ne ne, upd_same], Nat.zero_le _, ne, e2, fun _ => none, (Heap.Ns1.of_empty e3).at fun o q => Heap.get?_push_of_some _ q, fun _ => True.intro, fun y hy => absurd rfl hy⟩

/-- e.f where nothing but the object is asked: through attributeBase (super) and the last hold -/
theorem attr_of {prog : Program} {w : World} {env : Env} {e : Expr} {f : Str} {pos : Pos} {s : Shared} {Q : Value → Shared → Prop} (hb : attributeBase e f env (eval e env) = eval e env)
    (h : wpAny (model prog w) A (eval e env) (fun o s₁ => wpAny (model prog w) A (getAttr o f true) Q E s₁) E s) : wpAny (model prog w) A (eval (.Attribute e f pos) env) Q E s :=
  Attribute_any_ h (by rw [arm_eval_Attribute, hb])
end

/-! ### readings and rules -/
/-- e.f, an attribute of the instance -/
def tFld (K : PySem.W.Frag) (ta : TE) (f : Str) : TE := fun σ H Q => ta σ H fun x H1 => ∃ a C dx fs v, x = .ref a ∧ H1 a = some (.ins C dx fs) ∧ Cls K C ∧ NoAttr K C f ∧ fs.lookup f = some v ∧ Q v H1
/-- e.f, a constant of the class -/
def tCon (K : PySem.W.Frag) (ta : TE) (f : Str) : TE := fun σ H Q => ta σ H fun x H1 => ∃ a C dx fs v u, x = .ref a ∧ H1 a = some (.ins C dx fs) ∧ Cls K C ∧ Con K C f v u ∧ fs.lookup f = none ∧ Q v H1
/-- e.f = value -/
def sFld (K : PySem.W.Frag) (ta tv : TE) (f : Str) : TS := fun D σ H => tv σ H fun y H1 => ta σ H1 fun x H2 => ∃ a C dx fs, x = .ref a ∧ H2 a = some (.ins C dx fs) ∧ Cls K C ∧ NoAttr K C f ∧ fs.length < 1000 ∧
  D.nx σ (upd H2 a (.ins C dx (putF f y fs)))
/-- an augmented operator on two values -/
def InOp (X : Cx) (op : Operator) (rd : V → V → Hp → VK → Prop) : Prop :=
  ∀ (pins : List (Addr × Obj)) (s : Shared) (σ : St) (H : Hp) (x y : V) (u v : Value) (Q : VK), Inv X pins σ H s → RelV x u → RelV y v → rd x y H Q → wpAny (model X.prog X.w) X.A (inplaceOp op u v) (EP X pins σ Q) X.xe s
/-- e.f op= value -/
def sFldAug (K : PySem.W.Frag) (ta tv : TE) (rd : V → V → Hp → VK → Prop) (f : Str) : TS := fun D σ H => ta σ H fun x H1 => ∃ a C dx fs v, x = .ref a ∧ H1 a = some (.ins C dx fs) ∧ Cls K C ∧ NoAttr K C f ∧ fs.lookup f = some v ∧
  tv σ H1 fun y H2 => rd v y H2 fun z H3 => ∃ dx' fs', H3 a = some (.ins C dx' fs') ∧ fs'.length < 1000 ∧ D.nx σ (upd H3 a (.ins C dx' (putF f z fs')))

section
variable {X : Cx} {o e value : Expr} {f : Str} {pos pos' tpos : Pos} {ta tv : TE}
def rAdd : V → V → Hp → VK → Prop := fun x y H Q => ∃ i j, x = .int i ∧ y = .int j ∧ Q (.int (i + j)) H
def rSub : V → V → Hp → VK → Prop := fun x y H Q => ∃ i j, x = .int i ∧ y = .int j ∧ Q (.int (i - j)) H
end

/-! ### isinstance -/
section
variable {X : Cx} {pins : List (Addr × Obj)} {σ : St} {H : Hp} {s : Shared} {A : Around} {E : Value → Shared → Prop} {Q : Value → Shared → Prop} {c : Value} {b : Bool}
/-- the type of a value, as the fragment's deciders take it; for an instance its class -/
inductive TyOf (K : PySem.W.Frag) (H : Hp) : V → Value → Prop where
  | non : TyOf K H .non (.type "NoneType")
  | bl (x : Bool) : TyOf K H (.bl x) (.type "bool")
  | int (i : Int) : TyOf K H (.int i) (.type "int")
  | str (x : Str) : TyOf K H (.str x) (.type "str")
  | flt (x : UInt64) : TyOf K H (.flt x) (.type "float")
  | lst {a : Addr} {xs : List V} (e : H a = some (.lst xs)) : TyOf K H (.ref a) (.type "list")
  | frz {a : Addr} {o : Obj} {xs : List V} (e : H a = some (.frz o (.lst xs))) : TyOf K H (.ref a) (.type "list")
  | tup {a : Addr} {xs : List V} (e : H a = some (.tup xs)) : TyOf K H (.ref a) (.type "tuple")
  | dK {a : Addr} {kvs : List (Key × V)} (e : H a = some (.dK kvs)) : TyOf K H (.ref a) (.type "dict")
  | dT {a : Addr} {kvs : List (List Key × V)} (e : H a = some (.dT kvs)) : TyOf K H (.ref a) (.type "dict")
  | ins {a C dx : Addr} {fs : List (Str × V)} (e : H a = some (.ins C dx fs)) (cl : Cls K C) (ha : PySem.W.findIn K (.ref C) "__class__" = some (some (.builtin "object.__class__")))
      (hn : PySem.W.specialIn K (.builtin "object.__class__") "__get__" = some (some (.builtin "getset_descriptor.__get__"))) (htk : PySem.W.takesIn K (.builtin "object.__class__") = some true)
      (hm : PySem.W.mroIn K C (.type "object") = some true) : TyOf K H (.ref a) (.ref C)
end
end L2

namespace L2
open PySem PySem.Spec PyProof.Rows

/-! ### room -/
structure Room (k : Nat) (A : Around) : Prop where
  hd : A.handled = none
  dp : A.depth + 3 * k + 5 < recursionLimit
  un : A.units + 16 * k + 200 < cLine
  gd : A.guards = some []
theorem Room.mono {j k : Nat} {A : Around} (r : Room k A) (h : j ≤ k) : Room j A := ⟨r.hd, by have := r.dp; omega, by have := r.un; omega, r.gd⟩
theorem Room.deeper {k : Nat} {A : Around} (r : Room (k + 1) A) (env : Env) : Room k (A.deeper env) :=
  ⟨r.hd, by have := r.dp; show A.depth + 1 + 3 * k + 5 < _; omega, by have := r.un; show A.units + 3 + 16 * k + 200 < _; omega, r.gd⟩
theorem Room.in1 {k : Nat} {A : Around} (r : Room (k + 1) A) : Room k A.in1 :=
  ⟨r.hd, by have := r.dp; show A.depth + 3 * k + 5 < _; omega, by have := r.un; show A.units + 1 + 16 * k + 200 < _; omega, r.gd⟩
theorem make_depth {A : Around} {C : Addr} {us : List Value} {kw : List (Str × Value)} : (A.under (.builtin "type.__call__" ⟨.ref C :: us, kw⟩)).depth = A.depth + 1 := by
  first | rfl | simp [Around.under, Code.weight, Code.isCreation, Code.isGuard, Code.isCaller, Code.frames, Code.isFrame, guardIds]
theorem make_units {A : Around} {C : Addr} {us : List Value} {kw : List (Str × Value)} : (A.under (.builtin "type.__call__" ⟨.ref C :: us, kw⟩)).units = A.units + 1 := by
  first | rfl | simp [Around.under, Code.cUnits, Code.frames, Code.isFrame]
theorem make_guards {A : Around} {C : Addr} {us : List Value} {kw : List (Str × Value)} (h : A.guards = some []) : (A.under (.builtin "type.__call__" ⟨.ref C :: us, kw⟩)).guards = some [] := by
  first | exact h | (simp [Around.under, pushGuards, Code.guards, guardIds, h]; done)
theorem Room.make {k : Nat} {A : Around} (r : Room (k + 1) A) (C : Addr) (us : List Value) (kw : List (Str × Value)) : Room k (A.under (.builtin "type.__call__" ⟨.ref C :: us, kw⟩)) :=
  ⟨r.hd, by have := r.dp; rw [make_depth]; omega, by have := r.un; rw [make_units]; omega, make_guards r.gd⟩
theorem Room.depth {k : Nat} {A : Around} (r : Room k A) : A.depth < recursionLimit := by have := r.dp; omega
theorem Room.units {k : Nat} {A : Around} (r : Room k A) : A.units + 64 < cLine := by have := r.un; omega
/-! ### argument lists and displays -/
def tNil : TA := fun _ H Q => Q [] H
def tCons (ta : TE) (tr : TA) : TA := fun σ H Q => ta σ H fun x H1 => tr σ H1 fun xs H2 => Q (x :: xs) H2
section
variable {X : Cx} {e : Expr} {es : List Expr} {te : TE} {t : TA} {pos : Pos}
theorem pa_nil : PA X [] tNil := fun _ _ _ _ H Q I h => Calls.spliced_nil ⟨[], H, I, .nil, h⟩
theorem pa_cons (ha : PE X e te) (hr : PA X es t) (hs : starEach (e :: es) X.env = (false, eval e X.env) :: starEach es X.env := by rfl) : PA X (e :: es) (tCons te t) := by
  intro pos pins s σ H Q I h
  rw [hs]
  show wpAny _ _ (spliced ((false, eval e X.env) :: backTo pos (starEach es X.env))) _ _ s
  refine Calls.spliced_cons (thn (ha pins s σ H _ I h) fun u s1 ⟨x, H1, I1, r1, q1⟩ => ?_)
  exact thn (hr pos pins s1 σ H1 _ I1 q1) fun us s2 ⟨xs, H2, I2, r2, q2⟩ => ⟨x :: xs, H2, I2, .cons r1 r2, q2⟩

/-- a tuple, a list of written items -/
def tTup (t : TA) : TE := fun σ H Q => t σ H fun xs H1 => xs.length ≤ sizeLine ∧ ∀ p, H1 p = none → Q (.ref p) (upd H1 p (.tup xs))
def tLst (t : TA) : TE := fun σ H Q => t σ H fun xs H1 => xs.length ≤ sizeLine ∧ ∀ p, H1 p = none → Q (.ref p) (upd H1 p (.lst xs))
theorem pe_tup {x1} (h : PA X es t) : PE X (.Tuple es x1 pos) (tTup t) := by
  intro pins s σ H Q I hq
  refine wpAny_Tuple_spliced (thn (h pos pins s σ H _ I hq) fun us s1 ⟨xs, H1, I1, r, z, q⟩ => ⟨by rw [← r.length]; exact z, ?_⟩)
  have hf : H1 s1.heap.objs.size = none := I1.hok.fresh (Nat.le_refl _)
  refine ⟨.ref s1.heap.objs.size, upd H1 s1.heap.objs.size (.tup xs), I1.laid (t' := s1.toks) (fun b u e => Heap.get?_push_of_some _ e) (Nat.le_refl _) ?_, rfl, q _ hf⟩
  exact ⟨z, us, r, ⟨_, Heap.get?_push_size _ rfl, rfl, _, rfl⟩⟩
theorem pe_lst (h : PA X es t) : PE X (.List es pos) (tLst t) := by
  intro pins s σ H Q I hq
  refine wpAny_List_spliced (thn (h pos pins s σ H _ I hq) fun us s1 ⟨xs, H1, I1, r, z, q⟩ => ⟨by rw [← r.length]; exact z, ?_⟩)
  have hf : H1 s1.heap.objs.size = none := I1.hok.fresh (Nat.le_refl _)
  refine ⟨.ref s1.heap.objs.size, upd H1 s1.heap.objs.size (.lst xs), I1.laid (t' := s1.toks) (fun b u e => Heap.get?_push_of_some _ e) (Nat.le_refl _) ?_, rfl, q _ hf⟩
  exact ⟨z, us, 0, r, Heap.get?_push_size _ rfl⟩
end

/-! ### what a def promises -/
/-- a def's promise: the bound arguments in the parameters' order, the heap, the wanted end, the wanted exception -/
abbrev Sp := List V → Hp → VK → XK → Prop
/-- how an exception lies behind a call (file 08 gives it): the callers' frames, abstract heap and state ahead of the call, the wish, the exception, the state -/
abbrev CXT := List Env → Hp → Shared → XK → Value → Shared → Prop

/-- the state at a call -/
structure Env0 (P : Program) (w : World) (K : PySem.W.Frag) (mg : Str → Option Value) (base : Heap) (A : Around) (outer : List Env) (s : Shared) (H : Hp) : Prop where
  frames : A.frames = some outer
  mod : Mod K mg base
  bs : ∀ b o, base.get? b = some o → s.heap.get? b = some o ∧ H b = none
  bsz : base.objs.size ≤ s.heap.objs.size
  funs : s.heap.FunFrames base outer
  frf : ∀ b ∈ frs outer, H b = none
  hok : HOk P w H s.heap
  bare : AllBare s.gens
/-- a call's end -/
def CE (outer : List Env) (P : Program) (w : World) (H : Hp) (s : Shared) (Q : VK) (u : Value) (s' : Shared) : Prop :=
  ∃ v H', s'.os = s.os ∧ AllBare s'.gens ∧ Un (frs outer) [] H H' s.heap s'.heap ∧ HOk P w H' s'.heap ∧ RelV v u ∧ Q v H'
def CR (CX : CXT) (outer : List Env) (P : Program) (w : World) (H : Hp) (s : Shared) (Q : VK) (E : XK) (r : Result) (s' : Shared) : Prop :=
  match r with
  | .ok (.ret u) => CE outer P w H s Q u s'
  | .ok _ => False
  | .error e => CX outer H s E e s'
structure FnOk (P : Program) (w : World) (K : PySem.W.Frag) (mg : Str → Option Value) (base : Heap) (CX : CXT) (n k : Nat) (f : Addr) (fd : FuncData) (ps : List Str) (sp : Sp) : Prop where
  len : ∀ vs H Q E, sp vs H Q E → vs.length = ps.length
  run : ∀ (A : Around) (outer : List Env) (s : Shared) (H : Hp) (args : Args) (us : List Value) (vs : List V) (Q : VK) (E : XK), Room k A → n ≤ s.toks → Env0 P w K mg base A outer s H → BindsTo s fd args (ps.zip us) → Vals vs us → sp vs H Q E →
    codeAny (model P w) A (.call (.ref f) args) (CR CX outer P w H s Q E) s
theorem FnOk.mono {P : Program} {w : World} {K : PySem.W.Frag} {mg : Str → Option Value} {base : Heap} {CX : CXT} {n j k : Nat} {f : Addr} {fd : FuncData} {ps : List Str} {sp : Sp} (F : FnOk P w K mg base CX n j f fd ps sp) (h : j ≤ k) :
    FnOk P w K mg base CX n k f fd ps sp := ⟨F.len, fun A outer s H args us vs Q E hr => F.run A outer s H args us vs Q E (hr.mono h)⟩
/-- a weaker promise -/
theorem FnOk.imp {P : Program} {w : World} {K : PySem.W.Frag} {mg : Str → Option Value} {base : Heap} {CX : CXT} {n k : Nat} {f : Addr} {fd : FuncData} {ps : List Str} {sp sp' : Sp} (F : FnOk P w K mg base CX n k f fd ps sp)
    (h : ∀ vs H Q E, sp' vs H Q E → sp vs H Q E) : FnOk P w K mg base CX n k f fd ps sp' :=
  ⟨fun vs H Q E q => F.len vs H Q E (h _ _ _ _ q), fun A outer s H args us vs Q E hr hn he hb hv hs => F.run A outer s H args us vs Q E hr hn he hb hv (h _ _ _ _ hs)⟩

theorem Env0.make {P : Program} {w : World} {K : PySem.W.Frag} {mg : Str → Option Value} {base : Heap} {A : Around} {outer : List Env} {s : Shared} {H : Hp} (e : Env0 P w K mg base A outer s H) (C : Addr) (us : List Value) (kw : List (Str × Value)) :
    Env0 P w K mg base (A.under (.builtin "type.__call__" ⟨.ref C :: us, kw⟩)) outer s H := ⟨by first | exact e.frames | (simpa [Around.under, Code.envs, Code.isFrame, pushEnvs] using e.frames), e.mod, e.bs, e.bsz, e.funs, e.frf, e.hok, e.bare⟩
theorem Env0.in1 {P : Program} {w : World} {K : PySem.W.Frag} {mg : Str → Option Value} {base : Heap} {A : Around} {outer : List Env} {s : Shared} {H : Hp} (e : Env0 P w K mg base A outer s H) :
    Env0 P w K mg base A.in1 outer s H := ⟨e.frames, e.mod, e.bs, e.bsz, e.funs, e.frf, e.hok, e.bare⟩

section
variable {X : Cx} {pins : List (Addr × Obj)} {σ : St} {H : Hp} {s s' : Shared}
/-- from a body: what a callee wants -/
theorem Inv.env0 (I : Inv X pins σ H s) : Env0 X.prog X.w X.K X.mg X.base X.A X.stack s H :=
  ⟨I.ok.frames, I.ok.mod, I.bs, Nat.le_trans I.ok.bsz I.sz, I.stack, I.stkFree, I.hok, I.bare⟩
/-- behind a call -/
theorem Inv.after {Q : VK} {u : Value} (I : Inv X pins σ H s) (h : CE X.stack X.prog X.w H s Q u s') (ht : X.tk ≤ s'.toks) : EP X pins σ Q u s' := by
  obtain ⟨v, H', os, bare, un, hok, r, q⟩ := h
  obtain ⟨hh, g, d, t, os'⟩ := s'
  obtain rfl : os' = s.os := os
  exact ⟨v, H', I.call (h' := hh) (g' := g) (d' := d) (t' := t) (ch := []) un hok bare (fun b z => absurd z (by simp)) ht, r, q⟩
end

/-! ### calls -/
/-- f(..): the written arguments, then the defaults dvs; E: what is wanted of an exception -/
def tCall (sp : Sp) (dvs : List V) (E : XK) (t : TA) : TE := fun σ H Q => t σ H fun vs H1 => sp (vs ++ dvs) H1 Q E
/-- o.m(..) of an instance of the class at C -/
def tMeth (C : Addr) (m : Str) (sp : Sp) (dvs : List V) (E : XK) (ta : TE) (t : TA) : TE := fun σ H Q => ta σ H fun x H1 => ∃ a dx fs, x = .ref a ∧ H1 a = some (.ins C dx fs) ∧ fs.lookup m = none ∧
  t σ H1 fun vs H2 => sp (x :: (vs ++ dvs)) H2 Q E
/-- C(..): a new instance and its dict, then __init__ -/
def tMake (C : Addr) (sp : Sp) (dvs : List V) (E : XK) (t : TA) : TE := fun σ H Q => t σ H fun vs H1 => ∀ x dx, H1 x = none → H1 dx = none → dx ≠ x →
  sp (.ref x :: (vs ++ dvs)) (upd (upd H1 dx (.own x)) x (.ins C dx [])) (fun v H2 => v = .non ∧ Q (.ref x) H2) E

/-- how the parameters are bound: us the positional arguments, kw the keywords' values by name, ds the defaults that fill up -/
def Binds (K : PySem.W.Frag) (fd : FuncData) (ps : List Str) (ds : List Value) : Prop :=
  ∀ (s : Shared) (us : List Value), K.In s.heap → (us ++ ds).length = ps.length → BindsTo s fd ⟨us, []⟩ (ps.zip (us ++ ds))
/-- every parameter is given -/
theorem Binds.all {K : PySem.W.Frag} {fd : FuncData} {ps : List Str} (h : ∀ us : List Value, us.length = ps.length → bindArgs fd ⟨us, []⟩ = pure (ps.zip us)) : Binds K fd ps [] := fun s us _ hl => by
  rw [List.append_nil] at hl ⊢
  exact .of_eq (h us hl)

/-- an exception of a callee reaches what this body wants of exceptions -/
def Passes (CX : CXT) (X : Cx) (E : XK) : Prop := ∀ (pins : List (Addr × Obj)) (σ : St) (H : Hp) (s : Shared) (e : Value) (s' : Shared), Inv X pins σ H s → CX X.stack H s E e s' → X.xe e s'

section
variable {X : Cx} {CX : CXT} {n k : Nat} {f C : Addr} {fd : FuncData} {ps : List Str} {sp : Sp} {dvs : List V} {ds : List Value} {E : XK} {x m : Str} {p pos apos : Pos} {e o : Expr} {es : List Expr} {ta : TE} {t : TA}

/-- the callee runs -/
theorem run_fn {pins : List (Addr × Obj)} {σ : St} {H : Hp} {s : Shared} {Q : VK} {us : List Value} {vs : List V} (F : FnOk X.prog X.w X.K X.mg X.base CX n k f fd ps sp) (hr : Room k X.A) (hb : Binds X.K fd ps ds) (hd : Vals dvs ds) (hx : Passes CX X E)
    (I : Inv X pins σ H s) (r : Vals vs us) (h : sp (vs ++ dvs) H Q E) (hn : n ≤ X.tk) : wpAny (model X.prog X.w) X.A (call (.ref f) us) (EP X pins σ Q) X.xe s := by
  have r2 : Vals (vs ++ dvs) (us ++ ds) := r.append hd
  have hl : (us ++ ds).length = ps.length := by rw [← r2.length]; exact F.len _ _ _ _ h
  refine TK.up_tk I.tk ?_
  refine wpAny_call (codeAny_mono (F.run X.A X.stack s H ⟨us, []⟩ (us ++ ds) (vs ++ dvs) Q E hr (Nat.le_trans hn I.tk) I.env0 (hb s us I.kIn hl) r2 h) fun r s' hq => ?_)
  cases r with
  | error e => exact hx pins σ H s e s' I hq
  | ok fl =>
    cases fl with
    | ret u => exact fun ht => I.after hq ht
    | next => exact False.elim hq
    | brk => exact False.elim hq
    | cont => exact False.elim hq

theorem pe_call (F : FnOk X.prog X.w X.K X.mg X.base CX n k f fd ps sp) (hr : Room k X.A) (hg : Gl X x) (hm : X.mg x = some (.ref f)) (hk : PySem.W.keepIn X.K (.ref f) = true) (hb : Binds X.K fd ps ds) (hd : Vals dvs ds) (hx : Passes CX X E)
    (ha : PA X (e :: es) t) (hdb : (x == ("__debug__" : Str)) = false := by decide) (he : starEach (e :: es) X.env = (false, eval e X.env) :: starEach es X.env := by rfl) (hpl : (backTo pos (starEach es X.env)).any (·.1) = false := by rfl) (hn : n ≤ X.tk := by first | exact Nat.le_refl _ | exact Nat.zero_le _ | assumption) :
    PE X (.Call (.Name x p) (e :: es) [] pos) (tCall sp dvs E t) := by
  intro pins s σ H Q I h
  refine wpAny_Call_Name_kw (ld_glob I hg hm ?_ hdb)
  refine PySem.W.callWith_K (h₀ := X.base) I.ok.mod.kin hk (thn (ha pos pins s σ H _ I h) fun us s1 ⟨vs, H1, I1, r, q⟩ => ⟨I1.kIn, ?_⟩) he hpl
  exact run_fn F hr hb hd hx I1 r q hn
/-- what a class must have to be made -/
structure Mk (K : PySem.W.Frag) (C f : Addr) : Prop where
  makes : PySem.W.makesIn K C = true
  init : PySem.W.findIn K (.ref C) "__init__" = some (some (.ref f))
  fn : PySem.W.isFn K (.ref f) = true
  kp : PySem.W.keepIn K (.ref C) = true

end

/-! ### keywords -/
/-- the values of the keywords, from the left -/
def PK (X : Cx) (kws : List Keyword) (t : TA) : Prop :=
  ∀ (pos : Pos) (pins : List (Addr × Obj)) (s : Shared) (σ : St) (H : Hp) (Q : List V → Hp → Prop), Inv X pins σ H s → t σ H Q → wpAny (model X.prog X.w) X.A (evalAll ((backToKw pos (keywordEach kws X.env)).map (·.2))) (AP X pins σ Q) X.xe s
section
variable {X : Cx} {CX : CXT} {n k : Nat} {f C : Addr} {fd : FuncData} {ps ks : List Str} {sp : Sp} {E : XK} {x m : Str} {p pos apos kpos : Pos} {e o : Expr} {es : List Expr} {kws : List Keyword} {te ta : TE} {t tk : TA} {nm : Option Str}
theorem pk_nil : PK X [] tNil := fun _ _ _ _ H Q I h => wpAny_evalAll_nil ⟨[], H, I, .nil, h⟩
theorem pk_cons (ha : PE X e te) (hr : PK X kws t) : PK X (⟨nm, e, kpos⟩ :: kws) (tCons te t) := by
  intro pos pins s σ H Q I h
  show wpAny _ _ (evalAll ((do let v ← eval e X.env; standAt pos; pure v) :: (backToKw pos (keywordEach kws X.env)).map (·.2))) _ _ s
  refine wpAny_evalAll_cons (wpAny_bind (thn (ha pins s σ H _ I h) fun u s1 ⟨x, H1, I1, r1, q1⟩ => wpAny_bind (wpAny_standAt (wpAny_pure ?_))))
  exact thn (hr pos pins s1 σ H1 _ I1 q1) fun us s2 ⟨xs, H2, I2, r2, q2⟩ => ⟨x :: xs, H2, I2, .cons r1 r2, q2⟩

/-- how a call with keywords binds: g puts the positional values us and the keywords' values ws (names ks) in the parameters' order, defaults among them -/
structure KBinds (K : PySem.W.Frag) (fd : FuncData) (ps ks : List Str) (g : List Value → List Value → List Value) (gV : List V → List V → List V) : Prop where
  to : ∀ (s : Shared) (us ws : List Value), K.In s.heap → (g us ws).length = ps.length → BindsTo s fd ⟨us, ks.zip ws⟩ (ps.zip (g us ws))
  rel : ∀ {vs : List V} {us : List Value} {zs : List V} {ws : List Value}, Vals vs us → Vals zs ws → Vals (gV vs zs) (g us ws)
def tCallK (sp : Sp) (gV : List V → List V → List V) (E : XK) (t tk : TA) : TE := fun σ H Q => t σ H fun vs H1 => tk σ H1 fun zs H2 => sp (gV vs zs) H2 Q E
variable {g : List Value → List Value → List Value} {gV : List V → List V → List V}
end

/-! ### a def's body keeps its promise -/
/-- names: the parameters first -/
structure FnScope (N P : List Str) (sc : Scope) : Prop where
  kind : sc.kind = .function
  co : sc.isCoroutine = false
  gen : sc.isGenerator = false
  nd : N.Nodup
  pre : N.take P.length = P
  par : ∀ x ∈ P, sc.names.lookup x = some .local ∨ sc.names.lookup x = some .cell
  nofree : ∀ y ∈ sc.names, y.2 ≠ .free

theorem bindL_out {kindOf : Str → Option NameKind} {x : Str} : ∀ {binds : List (Str × Value)} {m : Str → Option Value}, (∀ v, (x, v) ∉ binds) → bindL kindOf binds m x = m x
  | [], _, _ => rfl
  | (n, v) :: r, m, h => by
    unfold bindL
    rw [bindL_out fun w hw => h w (List.mem_cons_of_mem _ hw)]
    split
    · have : x ≠ n := by rintro rfl; exact h v List.mem_cons_self
      simp [this]
    · rfl
theorem bindC_out {kindOf : Str → Option NameKind} {x : Str} : ∀ {binds : List (Str × Value)} {m : Str → Option Value}, (∀ v, (x, v) ∉ binds) → bindC kindOf binds m x = m x
  | [], _, _ => rfl
  | (n, v) :: r, m, h => by
    unfold bindC
    rw [bindC_out fun w hw => h w (List.mem_cons_of_mem _ hw)]
    split
    · rfl
    · have : x ≠ n := by rintro rfl; exact h v List.mem_cons_self
      simp [this]
theorem bindL_get {kindOf : Str → Option NameKind} {x : Str} {v : Value} : ∀ {P : List Str} {vs : List Value} {i : Nat} {m : Str → Option Value}, P.Nodup → P[i]? = some x → vs[i]? = some v → kindOf x = some .local →
    bindL kindOf (P.zip vs) m x = some v
  | [], _, _, _, _, h, _, _ => by simp at h
  | _ :: _, [], _, _, _, _, h, _ => by simp at h
  | p :: P, w :: vs, 0, m, nd, h1, h2, hk => by
    simp at h1 h2; subst h1; subst h2
    show bindL kindOf ((p, w) :: P.zip vs) m p = _
    unfold bindL
    rw [bindL_out fun v hv => (List.nodup_cons.mp nd).1 (List.of_mem_zip hv).1, if_pos hk]
    simp
  | p :: P, w :: vs, i + 1, m, nd, h1, h2, hk => by
    show bindL kindOf ((p, w) :: P.zip vs) m x = _
    unfold bindL
    exact bindL_get (i := i) (List.nodup_cons.mp nd).2 (by simpa using h1) (by simpa using h2) hk
theorem bindC_get {kindOf : Str → Option NameKind} {x : Str} {v : Value} : ∀ {P : List Str} {vs : List Value} {i : Nat} {m : Str → Option Value}, P.Nodup → P[i]? = some x → vs[i]? = some v → kindOf x ≠ some .local →
    bindC kindOf (P.zip vs) m x = some v
  | [], _, _, _, _, h, _, _ => by simp at h
  | _ :: _, [], _, _, _, _, h, _ => by simp at h
  | p :: P, w :: vs, 0, m, nd, h1, h2, hk => by
    simp at h1 h2; subst h1; subst h2
    show bindC kindOf ((p, w) :: P.zip vs) m p = _
    unfold bindC
    rw [bindC_out fun v hv => (List.nodup_cons.mp nd).1 (List.of_mem_zip hv).1, if_neg hk]
    simp
  | p :: P, w :: vs, i + 1, m, nd, h1, h2, hk => by
    show bindC kindOf ((p, w) :: P.zip vs) m x = _
    unfold bindC
    exact bindC_get (i := i) (List.nodup_cons.mp nd).2 (by simpa using h1) (by simpa using h2) hk

/-- the names' values at the entry -/
def start (N : List Str) (vs : List V) : St := vs.map some ++ List.replicate (N.length - vs.length) none

/-- the context of a def's body, at its entry; an exception leaves the frame, then lies as CX says -/
def cxOf (CX : CXT) (n : Nat) (P : Program) (w : World) (K : PySem.W.Frag) (mg : Str → Option Value) (base : Heap) (N : List Str) (qual : Str) (scope : Scope) (f : Addr) (cd : Value) (A : Around) (outer : List Env) (s : Shared) (H : Hp) (E : XK) : Cx where
  prog := P
  w := w
  K := K
  mg := mg
  base := base
  A := A.deeper (envOfC qual scope s.heap.objs.size f cd)
  N := N
  s_0 := s
  H_0 := H
  env := envOfC qual scope s.heap.objs.size f cd
  outer := outer
  stack := envOfC qual scope s.heap.objs.size f cd :: outer
  ex := []
  calm := true
  fn := fun _ => true
  pn := []
  xe := fun e s' => wpAny (model P w) (A.deeper (envOfC qual scope s.heap.objs.size f cd)) (leaving (envOfC qual scope s.heap.objs.size f cd) e) (fun _ s'' => CX outer H s E e s'') (fun e' s'' => CX outer H s E e' s'') s'
  tk := n

theorem cell_has {sc : Scope} {n : Nat} {x : Str} (h : sc.names.lookup x = some .cell) : ∃ c, (cellsFrom n sc.names []).lookup x = some c := by
  have q := PySem.W.cellsFrom_some sc.names n [] (.inl h)
  exact Option.isSome_iff_exists.mp q

theorem inv_start {CX : CXT} {n : Nat} {P : Program} {w : World} {K : PySem.W.Frag} {mg : Str → Option Value} {base : Heap} {N ps : List Str} {qual : Str} {scope : Scope} {f : Addr} {cd : Value} {A : Around} {outer : List Env} {s s1 : Shared} {H : Hp} {E : XK} {us : List Value} {vs : List V}
    (S : FnScope N ps scope) (hd : A.handled = none) (e0 : Env0 P w K mg base A outer s H) (hl : vs.length = ps.length) (r : Vals vs us)
    (x : InCallC s s.heap.objs.size (bindL (envOfC qual scope s.heap.objs.size f cd).kindOf (ps.zip us) fun _ => none) (cellsFrom (s.heap.objs.size + 1) scope.names []) (bindC (envOfC qual scope s.heap.objs.size f cd).kindOf (ps.zip us) fun _ => none) s1) (ht : n ≤ s1.toks) :
    Inv (cxOf CX n P w K mg base N qual scope f cd A outer s H E) [] (start N vs) H s1 := by
  have hpl : ps.length ≤ N.length := by have := congrArg List.length S.pre; rw [List.length_take] at this; omega
  obtain ⟨h1, tk, rfl, hk⟩ := x.done
  have noA : ∀ b : Addr, b ∉ (cxOf CX n P w K mg base N qual scope f cd A outer s H E).ex := fun b z => absurd (show b ∈ ([] : List Addr) from z) (by simp)
  refine ⟨⟨e0.mod, S.kind, rfl, rfl, Nat.le_refl _, fun y z c h1 h2 => ?_, fun y hy => ?_, fun y c _ h => ?_, fun _ => hd, Around.frames_deeper e0.frames, .inr ⟨rfl, rfl⟩, fun b z => absurd z (noA b), e0.bs, e0.bsz, fun b _ _ => noA b, fun b z => absurd z (noA b), e0.funs, e0.frf⟩,
    rfl, e0.bare, Un.kept hk, ⟨_, x.toInCall.ns, fun i y v h1 h2 h3 => ?_⟩, fun y c h => ⟨_, x.cell y c h⟩, e0.hok.fresh (Nat.le_refl _), fun y c h => ?_, fun p hp => absurd (show p ∈ ([] : List (Addr × Obj)) from hp) (by simp), e0.hok.kept hk, ?_, ht⟩
  · exact name_of_addr x.apart (PySem.mem_of_lookup h1) (PySem.mem_of_lookup h2)
  · have hy : scope.names.lookup y = some .cell ∨ scope.names.lookup y = some .free := hy
    rcases hy with hy | hy
    · exact cell_has hy
    · exact absurd rfl (S.nofree _ (PySem.mem_of_lookup hy))
  · exact Nat.le_of_lt (x.above y c (PySem.mem_of_lookup h))
  · have hi : i < vs.length := by
      unfold start at h2
      by_cases hi : i < vs.length
      · exact hi
      · rw [List.getElem?_append_right (by simpa using hi)] at h2
        rw [List.getElem?_replicate] at h2
        split at h2 <;> cases h2
    have ha : vs[i]? = some v := by
      unfold start at h2
      rw [List.getElem?_append_left (by simpa using hi), List.getElem?_map] at h2
      cases e : vs[i]? with
      | none => rw [e] at h2; cases h2
      | some a => rw [e] at h2; cases h2; rfl
    obtain ⟨u, hu, rv⟩ := r.get ha
    have hp : ps[i]? = some y := by
      rw [← S.pre, List.getElem?_take_of_lt (by omega)]; exact h1
    have ndP : ps.Nodup := by rw [← S.pre]; exact S.nd.sublist (List.take_sublist _ _)
    refine ⟨u, rv, ?_⟩
    rcases S.par y (List.mem_of_getElem? hp) with k | k
    · exact .inl ⟨k, bindL_get ndP hp hu k⟩
    · obtain ⟨c, e⟩ := cell_has (n := s.heap.objs.size + 1) k
      refine .inr ⟨.inl k, c, e, ?_⟩
      have q := x.cell y c e
      rw [bindC_get ndP hp hu (by show scope.names.lookup y ≠ _; rw [k]; decide)] at q
      exact q
  · exact e0.hok.fresh (Nat.le_of_lt (x.above y c (PySem.mem_of_lookup h)))
  · unfold start
    show _ = N.length
    rw [List.length_append, List.length_map, List.length_replicate]
    omega

/-- THE RULE: a def (or a method) of the text, by its body. The body's reading t is chosen for each entry; it is run at the parameters' values -/
theorem fn_of {CX : CXT} {n : Nat} {P : Program} {w : World} {K : PySem.W.Frag} {mg : Str → Option Value} {base : Heap} {k : Nat} {f : Addr} {name qual : Str} {params : Arguments} {body : List Stmt} {scope : Scope} {dV kV doc pm cdv ct oc : Value} {an od : Option Addr}
    {osl : Array (Option Value)} {N ps : List Str} {sp : Sp} (lk : K.lookup f = some ⟨oc, od, .func (PySem.W.fnOf name qual params body scope dV kV doc pm an cdv ct), osl⟩) (hcd : PySem.W.codeIn K cdv qual = true) (S : FnScope N ps scope)
    (len : ∀ vs H Q E, sp vs H Q E → vs.length = ps.length)
    (hbody : ∀ (A : Around) (outer : List Env) (s : Shared) (H : Hp) (vs : List V) (Q : VK) (E : XK), Room k (A.deeper (envOfC qual scope s.heap.objs.size f cdv)) → sp vs H Q E →
      ∃ t, PSs (cxOf CX n P w K mg base N qual scope f cdv A outer s H E) body t ∧ t { nx := fun _ H' => Q .non H', rt := Q } (start N vs) H) :
    FnOk P w K mg base CX n (k + 1) f (PySem.W.fnOf name qual params body scope dV kV doc pm an cdv ct) ps sp := by
  refine ⟨len, fun A outer s H args us vs Q E hr hn e0 hb r hsp => ?_⟩
  have hl := len _ _ _ _ hsp
  have KX : K.In s.heap := e0.mod.kin.keeps fun b o e => (e0.bs b o e).1
  have lim : s.heap.NoLimit := e0.mod.nolimit.keeps fun b o e => (e0.bs b o e).1
  have hkind : ∀ y ∈ ps.zip us, scope.names.lookup y.1 = some .local ∨ (scope.names.lookup y.1 = some .cell ∧ ((cellsFrom (s.heap.objs.size + 1) scope.names []).lookup y.1).isSome = true) := fun ⟨n, v⟩ hy => by
    rcases S.par n (List.of_mem_zip hy).1 with q | q
    · exact .inl q
    · exact .inr ⟨q, PySem.W.cellsFrom_some _ _ _ (.inl q)⟩
  refine codeAny_call_function hr.depth (KX _ _ lk) rfl S.co S.gen rfl (PySem.W.codeRec_of KX hcd) (hb _ _ _ _ ?_)
  refine TK.up_tk hn (wpAny_newFunctionEnv_cells S.kind hkind fun env he s1 x htk => ?_)
  subst he
  refine ⟨lim.keeps x.toInCall.keep, codeAny_func ?_⟩
  obtain ⟨t, ht, hq⟩ := hbody A outer s H vs Q E (hr.deeper _) hsp
  have I : Inv (cxOf CX n P w K mg base N qual scope f cdv A outer s H E) [] (start N vs) H s1 := inv_start S hr.hd e0 hl r x htk
  refine wpAny_mono (ht [] s1 (start N vs) H _ I hq) (fun fl s' hs => ?_) fun e s' hs => hs
  have fin : ∀ {σ' : St} {H' : Hp} {v : V} {u : Value}, Inv (cxOf CX n P w K mg base N qual scope f cdv A outer s H E) [] σ' H' s' → RelV v u → Q v H' → CE outer P w H s Q u s' :=
    fun {σ' H' v u} J rv q => ⟨v, H', J.os, J.bare, J.base, J.hok, rv, q⟩
  cases fl with
  | ret u =>
    obtain ⟨v, σ', H', J, rv, q⟩ := hs
    exact fin J rv q
  | next =>
    obtain ⟨σ', H', J, q⟩ := hs
    exact fin (v := V.non) (u := Value.none) J rfl q
  | brk =>
    obtain ⟨_, _, _, q⟩ := hs
    exact False.elim q
  | cont =>
    obtain ⟨_, _, _, q⟩ := hs
    exact False.elim q
end L2

namespace L2
open PySem PySem.Spec PyProof.Rows
section
variable {X : Cx} {x : Str} {p pos : Pos} {e : Expr} {es : List Expr} {t : TA} {id T : String} {r : List V → Hp → VK → Prop}

def tCB (r : List V → Hp → VK → Prop) (t : TA) : TE := fun σ H Q => t σ H fun vs H1 => r vs H1 Q
/-- f(e, ..), f a built-in function -/
theorem pe_callB (hc : CallR X (.builtin id) r) (hg : Gl X x) (hm : X.mg x = none) (hv : bootBuiltins x = some (.builtin id)) (ha : PA X (e :: es) t) (hn : x ≠ "__name__" := by decide) (hdb : (x == ("__debug__" : Str)) = false := by decide)
    (he : starEach (e :: es) X.env = (false, eval e X.env) :: starEach es X.env := by rfl) (hpl : (backTo pos (starEach es X.env)).any (·.1) = false := by rfl) : PE X (.Call (.Name x p) (e :: es) [] pos) (tCB r t) := by
  intro pins s σ H Q I h
  refine wpAny_Call_Name_kw (ld_blt I hg hm hv ?_ hn hdb)
  exact PyProof.Rows.callWith_builtin1 (thn (ha pos pins s σ H _ I h) fun us s1 ⟨vs, H1, I1, r1, q1⟩ => hc pins s1 σ H1 vs us Q I1 r1 q1) he hpl
/-- T(e, ..), T a built-in type -/
theorem pe_callTy (hc : CallR X (.type T) r) (hg : Gl X x) (hm : X.mg x = none) (hv : bootBuiltins x = some (.type T)) (ha : PA X (e :: es) t) (hn : x ≠ "__name__" := by decide) (hdb : (x == ("__debug__" : Str)) = false := by decide)
    (he : starEach (e :: es) X.env = (false, eval e X.env) :: starEach es X.env := by rfl) (hpl : (backTo pos (starEach es X.env)).any (·.1) = false := by rfl) : PE X (.Call (.Name x p) (e :: es) [] pos) (tCB r t) := by
  intro pins s σ H Q I h
  refine wpAny_Call_Name_kw (ld_blt I hg hm hv ?_ hn hdb)
  exact PyProof.Rows.callWith_type1 (thn (ha pos pins s σ H _ I h) fun us s1 ⟨vs, H1, I1, r1, q1⟩ => hc pins s1 σ H1 vs us Q I1 r1 q1) he hpl
end
end L2

namespace HT
open PySem PyProof.Rows

/-- t < u of tuples of ints -/
def lexLt : List Int → List Int → Bool
  | [], [] => false
  | [], _ :: _ => true
  | _ :: _, [] => false
  | x :: xs, y :: ys => if x = y then lexLt xs ys else decide (x < y)
section
open PySem.SeqAt
open PySem.AutoSeq1 (wpAny_loadPart')
open PySem.MeetsSeq PySem.MeetsSeq2 PySem.MeetsSeq3

end

section
variable {prog : Program} {w : World} {A : Around} {E : Value → Shared → Prop} {s : Shared}

/-- t + u, t not empty -/
theorem cat_tup {t b : Addr} {vs ws : List Value} {Q : Value → Shared → Prop} (ht : IsTup s.heap t vs.toArray) (hb : IsTup s.heap b ws.toArray) (hv : vs ≠ [])
    (h1 : ws = [] → Q (.ref t) s) (h2 : ws ≠ [] → Q (.ref s.heap.objs.size) { s with heap := s.heap.push { cls := .type "tuple", data := .seq (vs ++ ws).toArray } })
    (hsz : vs.length + ws.length ≤ sizeLine) : wpAny (model prog w) A (binaryOp .Add (.ref t) (.ref b)) Q E s := by
  obtain ⟨⟨cls, dd, data, sl⟩, ho, hc, n, hd⟩ := id ht
  obtain ⟨⟨cls2, dd2, data2, sl2⟩, ho2, hc2, n2, hd2⟩ := id hb
  simp only at hc hd hc2 hd2
  subst hc hd hc2 hd2
  have e : vs.toArray ++ ws.toArray = (vs ++ ws).toArray := by simp
  by_cases hw : ws = []
  · exact concat_meets ⟨_, ho, rfl⟩ ⟨_, ho2, rfl⟩ noFill_tuple_add seq_tuple_add PySem.F.slot_tuple_add PySem.F.entry_tuple_add (PySem.F.args_tuple_add_2 _ _)
      (tuple_addW1 t b vs.toArray ws.toArray n n2 dd dd2 sl sl2 (by simpa using hv) (by simp [hw])) ⟨ho, ho2, h1 hw⟩
  · refine concat_meets ⟨_, ho, rfl⟩ ⟨_, ho2, rfl⟩ noFill_tuple_add seq_tuple_add PySem.F.slot_tuple_add PySem.F.entry_tuple_add (PySem.F.args_tuple_add_2 _ _)
      (tuple_addW2 t b vs.toArray ws.toArray n n2 dd dd2 sl sl2 (by simpa using hv) (by simpa using hw) (by rw [List.size_toArray, List.size_toArray]; exact hsz)) ⟨ho, ho2, ?_⟩
    rw [e]
    exact h2 hw

/-! ### t[a:b], not the whole -/
/-- a slice's bound as a place among n (d where it is left out) -/
def sIx (n d : Nat) : Option Int → Nat
  | none => d
  | some v => if v < 0 then (v + (n : Int)).toNat else min v.toNat n
theorem sIx_le (n d : Nat) (hd : d ≤ n) (o : Option Int) : sIx n d o ≤ n := by
  cases o with
  | none => exact hd
  | some v =>
    show (if v < 0 then (v + (n : Int)).toNat else min v.toNat n) ≤ n
    by_cases hv : v < 0
    · rw [if_pos hv]; omega
    · rw [if_neg hv]; exact Nat.min_le_right _ _
end
end HT

namespace L2
open PySem PySem.Spec PyProof.Rows

/-! ### the parts of a slice -/
abbrev TO := St → Hp → (Option Int → Hp → Prop) → Prop
/-- a slice's part (left out, or an int) -/
def PO (X : Cx) (e : Option Expr) (t : TO) : Prop :=
  ∀ (pins : List (Addr × Obj)) (s : Shared) (σ : St) (H : Hp) (Q : Option Int → Hp → Prop), Inv X pins σ H s → t σ H Q →
    wpAny (model X.prog X.w) X.A (evalPart e X.env) (fun u s' => ∃ o H', Inv X pins σ H' s' ∧ IsPart u o ∧ Q o H') X.xe s
def tNoPart : TO := fun _ H Q => Q none H
def tPart (t : TE) : TO := fun σ H Q => t σ H fun x H1 => ∃ i, x = .int i ∧ Q (some i) H1

section
variable {X : Cx} {e : Expr} {te : TE} {lo hi : Option Expr} {tl th : TO} {pos p2 : Pos}

theorem po_none : PO X none tNoPart := by
  intro pins s σ H Q I h
  rw [evalPart_none]
  exact wpAny_pure ⟨none, H, I, .none, h⟩
theorem po_some (h : PE X e te) : PO X (some e) (tPart te) := by
  intro pins s σ H Q I hw
  rw [evalPart_some]
  refine thn (h pins s σ H _ I hw) fun u s1 ⟨x, H1, I1, r1, q1⟩ => ?_
  obtain ⟨i, rfl, q⟩ := q1
  obtain ⟨t, rfl⟩ := r1
  exact ⟨some i, H1, I1, .int i t, q⟩

/-- what a slice of a value is, by values: the slice object stands at sl -/
def SlR (X : Cx) (r : V → Option Int → Option Int → Hp → VK → Prop) : Prop :=
  ∀ (pins : List (Addr × Obj)) (s : Shared) (σ : St) (H : Hp) (x : V) (v vl vu : Value) (lo hi : Option Int) (sl : Addr) (Q : VK), Inv X pins σ H s → RelV x v → s.heap.IsSliceOf sl vl vu .none → IsPart vl lo → IsPart vu hi → r x lo hi H Q →
    ∃ T id, typeLookup (.type T) "__getitem__" = pure (some (.builtin id)) ∧ s.TypeIs v T ∧ wpAny (model X.prog X.w) X.A (getItem v (.ref sl)) (EP X pins σ Q) X.xe s
theorem SlR.or {r r' : V → Option Int → Option Int → Hp → VK → Prop} (h : SlR X r) (h' : SlR X r') : SlR X (fun x lo hi H Q => r x lo hi H Q ∨ r' x lo hi H Q) := by
  intro pins s σ H x v vl vu lo hi sl Q I rx hs pl pu q
  rcases q with q | q
  · exact h pins s σ H x v vl vu lo hi sl Q I rx hs pl pu q
  · exact h' pins s σ H x v vl vu lo hi sl Q I rx hs pl pu q
def tSl (r : V → Option Int → Option Int → Hp → VK → Prop) (te : TE) (tl th : TO) : TE := fun σ H Q => te σ H fun x H1 => tl σ H1 fun l H2 => th σ H2 fun u H3 => r x l u H3 Q
/-- a[lo:hi], any a -/
theorem pe_slice {r : V → Option Int → Option Int → Hp → VK → Prop} (hr : SlR X r) (he : PE X e te) (hl : PO X lo tl) (hu : PO X hi th) : PE X (.Subscript e (.Slice lo hi none p2) pos) (tSl r te tl th) := by
  intro pins s σ H Q I h
  refine Subscript_ (thn (he pins s σ H _ I h) fun v s1 ⟨x, H1, I1, r1, q1⟩ => ?_)
  refine wpAny_Slice (thn (hl pins s1 σ H1 _ I1 q1) fun vl s2 ⟨l, H2, I2, pl, q2⟩ => thn (hu pins s2 σ H2 _ I2 q2) fun vu s3 ⟨u, H3, I3, pu, q3⟩ => ?_)
  rw [evalPart_none]
  refine wpAny_pure ?_
  have I4 : Inv X pins σ H3 { s3 with heap := s3.heap.push { cls := .type "slice", data := .fields #[vl, vu, .none] } } := I3.kept (t' := s3.toks) fun b ob q => Heap.get?_push_of_some _ q
  obtain ⟨T, id, hT, ht, hg⟩ := hr pins { s3 with heap := s3.heap.push { cls := .type "slice", data := .fields #[vl, vu, .none] } } σ H3 x v vl vu l u s3.heap.objs.size Q I4 r1 (Heap.IsSliceOf.new ..) pl pu q3
  show wpAny (model X.prog X.w) X.A (subscriptTail e (.Slice lo hi none p2) v (.ref s3.heap.objs.size)) (EP X pins σ Q) X.xe { s3 with heap := s3.heap.push { cls := .type "slice", data := .fields #[vl, vu, .none] } }
  exact tail_any (ops := [.ref s3.heap.objs.size, v]) ht hT hg (by with_unfolding_all rfl)

/-- the items of xs[lo:hi] -/
def cutV (xs : List V) (lo hi : Option Int) : List V := (xs.drop (HT.sIx xs.length 0 lo)).take (HT.sIx xs.length xs.length hi - HT.sIx xs.length 0 lo)
theorem cutV_length (xs : List V) (lo hi : Option Int) : (cutV xs lo hi).length ≤ xs.length := by
  unfold cutV
  rw [List.length_take, List.length_drop]
  omega
/-- t[lo:hi], not the whole of it (the whole would be t itself) -/
def rSlT (K : PySem.W.Frag) : V → Option Int → Option Int → Hp → VK → Prop := fun x lo hi H Q => ∃ a xs, x = .ref a ∧ SqT K H a xs ∧
  ¬ (HT.sIx xs.length 0 lo = 0 ∧ HT.sIx xs.length xs.length hi = xs.length) ∧ ∀ p, H p = none → Q (.ref p) (upd H p (.tup (cutV xs lo hi)))
/-! ### t < u, t + u -/
def rLtT (K : PySem.W.Frag) : R2 := fun x y H Q => ∃ a b ns ms, x = .ref a ∧ y = .ref b ∧ SqT K H a (ns.map V.int) ∧ SqT K H b (ms.map V.int) ∧ Q (.bl (HT.lexLt ns ms)) H
/-- t + u, t not empty: u empty gives t itself -/
def rCatT (K : PySem.W.Frag) : R2 := fun x y H Q => ∃ a b xs ys, x = .ref a ∧ y = .ref b ∧ SqT K H a xs ∧ SqT K H b ys ∧ xs ≠ [] ∧ xs.length + ys.length ≤ sizeLine ∧
  (ys = [] → Q (.ref a) H) ∧ (ys ≠ [] → ∀ p, H p = none → Q (.ref p) (upd H p (.tup (xs ++ ys))))
theorem Vals.nil_iff {xs : List V} {us : List Value} (r : Vals xs us) : us = [] ↔ xs = [] := by
  cases r with
  | nil => simp
  | cons _ _ => simp
theorem op_catT : OpR X (binaryOp .Add) (rCatT X.K) := by
  intro pins s σ H x y v u Q I rx ry h
  obtain ⟨a, b, xs, ys, rfl, rfl, ha, hb, hx, hz, q1, q2⟩ := h
  cases rx
  cases ry
  obtain ⟨its, r1, p1, _⟩ := I.tuple ha
  obtain ⟨its2, r2, p2, _⟩ := I.tuple hb
  refine HT.cat_tup p1 p2 (fun z => hx (r1.nil_iff.mp z)) (fun z => ⟨.ref a, H, I, rfl, q1 (r2.nil_iff.mp z)⟩) (fun z => ?_) (by rw [← r1.length, ← r2.length]; exact hz)
  refine ⟨.ref s.heap.objs.size, _, I.laid (t' := s.toks) (o := .tup (xs ++ ys)) (fun b ob q => Heap.get?_push_of_some _ q) (Nat.le_refl _) ?_, rfl, q2 (fun w => z (r2.nil_iff.mpr w)) _ (I.hok.fresh (Nat.le_refl _))⟩
  exact ⟨by rw [List.length_append]; exact hz, _, r1.append r2, IsTup.new _ _⟩
end
end L2

namespace L2
open PySem PySem.Spec PyProof.Rows

/-! ### places -/
/-- the place that an index of any sign means -/
def ixN (n : Nat) (i : Int) : Option Nat := if 0 ≤ i then (if i < n then some i.toNat else none) else if -(n : Int) ≤ i then some (i + n).toNat else none
def atI {α : Type} (xs : List α) (i : Int) : Option α := (ixN xs.length i).bind fun j => xs[j]?
theorem ixN_seq {n : Nat} {i : Int} {j : Nat} (h : ixN n i = some j) : seqIndex? i n = some j ∧ j < n ∧ -(n : Int) ≤ i ∧ i < n := by
  unfold ixN at h
  by_cases h0 : 0 ≤ i
  · rw [if_pos h0] at h
    by_cases h1 : i < n
    · rw [if_pos h1] at h
      have e : i.toNat = j := Option.some.inj h
      exact ⟨by rw [seqIndex_of h0 h1, e], by omega, by omega, h1⟩
    · rw [if_neg h1] at h; cases h
  · rw [if_neg h0] at h
    by_cases h1 : -(n : Int) ≤ i
    · rw [if_pos h1] at h
      have e : (i + n).toNat = j := Option.some.inj h
      exact ⟨by rw [seqIndex_neg (by omega) h1, e], by omega, h1, by omega⟩
    · rw [if_neg h1] at h; cases h
theorem atI_get {α : Type} {xs : List α} {i : Int} {v : α} (h : atI xs i = some v) : ∃ j, seqIndex? i xs.length = some j ∧ xs[j]? = some v ∧ j < xs.length ∧ -(xs.length : Int) ≤ i ∧ i < xs.length := by
  unfold atI at h
  cases e : ixN xs.length i with
  | none => rw [e] at h; cases h
  | some j =>
    rw [e] at h
    obtain ⟨h1, h2, h3, h4⟩ := ixN_seq e
    exact ⟨j, h1, h, h2, h3, h4⟩
theorem atI_nat {α : Type} {xs : List α} {j : Nat} {v : α} (h : xs[j]? = some v) : atI xs (j : Int) = some v := by
  have hj : j < xs.length := (List.getElem?_eq_some_iff.mp h).1
  have e : ixN xs.length (j : Int) = some j := by
    unfold ixN
    rw [if_pos (by omega), if_pos (by omega)]; simp
  unfold atI; rw [e]; exact h
/-! ### what may be subscripted -/
/-- what stands as an index of a plain subscript -/
def PlainIx (b : Expr) : Prop := ∀ o i, subscripted b false o i = operate [o, i] (getItem o i)
/-- a subscript by values -/
def IxR (X : Cx) (r : R2) : Prop :=
  ∀ (value slice : Expr) (pins : List (Addr × Obj)) (s : Shared) (σ : St) (H : Hp) (x y : V) (v u : Value) (Q : VK), Inv X pins σ H s → RelV x v → RelV y u → r x y H Q →
    subscripted slice false v u = operate [v, u] (getItem v u) → wpAny (model X.prog X.w) X.A (subscriptTail value slice v u) (EP X pins σ Q) X.xe s
/-- a call of a builtin's method by values: the receiver, the arguments -/
def MtR (X : Cx) (id : String) (r : V → List V → Hp → VK → Prop) : Prop :=
  ∀ (pins : List (Addr × Obj)) (s : Shared) (σ : St) (H : Hp) (x : V) (xs : List V) (v : Value) (us : List Value) (Q : VK), Inv X pins σ H s → RelV x v → Vals xs us → r x xs H Q →
    wpAny (model X.prog X.w) X.A (call (.builtin id) (v :: us)) (EP X pins σ Q) X.xe s
section
variable {X : Cx} {a b : Expr} {ta tb : TE} {pos : Pos}
theorem IxR.or {r r' : R2} (h : IxR X r) (h' : IxR X r') : IxR X (fun x y H Q => r x y H Q ∨ r' x y H Q) := by
  intro value slice pins s σ H x y v u Q I rx ry q hs
  rcases q with q | q
  · exact h value slice pins s σ H x y v u Q I rx ry q hs
  · exact h' value slice pins s σ H x y v u Q I rx ry q hs
theorem MtR.or {id : String} {r r' : V → List V → Hp → VK → Prop} (h : MtR X id r) (h' : MtR X id r') : MtR X id (fun x xs H Q => r x xs H Q ∨ r' x xs H Q) := by
  intro pins s σ H x xs v us Q I rx rs q
  rcases q with q | q
  · exact h pins s σ H x xs v us Q I rx rs q
  · exact h' pins s σ H x xs v us Q I rx rs q
/-- a[b] -/
theorem pe_ix {r : R2} (hr : IxR X r) (ha : PE X a ta) (hb : PE X b tb) (hs : PlainIx b) : PE X (.Subscript a b pos) (tOp r ta tb) := by
  intro pins s σ H Q I h
  exact Subscript_ (binT ha hb I h fun v u s2 x y H2 I2 rx ry q => hr a b pins s2 σ H2 x y v u Q I2 rx ry q (hs _ _))

def rIxL (K : PySem.W.Frag) : R2 := fun x y H Q => ∃ p xs i v, x = .ref p ∧ y = .int i ∧ SqL K H p xs ∧ atI xs i = some v ∧ Q v H
def rIxT (K : PySem.W.Frag) : R2 := fun x y H Q => ∃ p xs i v, x = .ref p ∧ y = .int i ∧ SqT K H p xs ∧ atI xs i = some v ∧ Q v H
def rIxS : R2 := fun x y H Q => ∃ z i c, x = .str z ∧ y = .int i ∧ z.length ≤ sizeLine ∧ atI z.cps.toList i = some c ∧ Q (.str ⟨#[c]⟩) H
theorem ix_list : IxR X (rIxL X.K) := by
  intro value slice pins s σ H x y v u Q I rx ry h hs
  obtain ⟨p, xs, i, z, rfl, rfl, hq, he, q⟩ := h
  cases rx
  obtain ⟨t, rfl⟩ := ry
  obtain ⟨its, r, pl, hz⟩ := I.list hq
  obtain ⟨j, h1, h2, h3, h4, h5⟩ := atI_get he
  obtain ⟨w, ew, rw'⟩ := r.get h2
  have hl := r.length
  have hn := line63
  have fin : EP X pins σ Q w s := ⟨z, H, I, rw', q⟩
  by_cases h0 : 0 ≤ i
  · have hj : i.toNat = j := by
      rw [seqIndex_of h0 h5] at h1
      exact Option.some.inj h1
    exact item_listR pl.isList h0 (by omega) (by rw [hj]; simpa using ew) fin hs
  · have hj : (i + (its.toArray.size : Int)).toNat = j := by
      rw [seqIndex_neg (by omega) h4] at h1
      rw [List.size_toArray, ← hl]
      exact Option.some.inj h1
    exact subscriptTail_builtinR (x := w) pl.isList.typeIs slot_list_getitem.lookup
      (wpAny_getItem_list_neg (Q := fun r s' => r = w ∧ EP X pins σ Q r s') pl.isList (by omega) (by rw [List.size_toArray] <;> omega) (by omega) (by rw [hj]; simpa using ew) ⟨rfl, fin⟩) hs
theorem ix_tup : IxR X (rIxT X.K) := by
  intro value slice pins s σ H x y v u Q I rx ry h hs
  obtain ⟨p, xs, i, z, rfl, rfl, hq, he, q⟩ := h
  cases rx
  obtain ⟨t, rfl⟩ := ry
  obtain ⟨its, r, pl, hz⟩ := I.tuple hq
  obtain ⟨j, h1, h2, h3, h4, h5⟩ := atI_get he
  obtain ⟨w, ew, rw'⟩ := r.get h2
  have hl := r.length
  have hn := line63
  have fin : EP X pins σ Q w s := ⟨z, H, I, rw', q⟩
  exact subscriptTail_builtinR (x := w) pl.typeIs slot_tuple_getitem.lookup
    (getItem_tuple (j := j) (Q := fun r s' => r = w ∧ EP X pins σ Q r s') pl (by omega) (by omega) (by rw [List.size_toArray, ← hl]; exact h1) (by simpa using ew) ⟨rfl, fin⟩) hs
theorem ix_str : IxR X rIxS := by
  intro value slice pins s σ H x y v u Q I rx ry h hs
  obtain ⟨z, i, c, rfl, rfl, hz, he, q⟩ := h
  obtain ⟨t, rfl⟩ := rx
  obtain ⟨t', rfl⟩ := ry
  obtain ⟨j, h1, h2, h3, h4, h5⟩ := atI_get he
  have hl : z.cps.toList.length = z.length := by simp [Str.length]
  rw [hl] at h1 h4 h5
  have hn := line63
  exact tail_any (typeIs_str s z t) slot_str_getitem.lookup (getItem_str (c := c) (by
    have e1 : decide (i < -(2 ^ 63 : Int)) = false := decide_eq_false (by omega)
    have e2 : decide (i ≥ 2 ^ 63) = false := decide_eq_false (by omega)
    rw [e1, e2, Bool.or_false]) (by rw [h1]; simpa using h2) ⟨.str ⟨#[c]⟩, H, I.tok _, ⟨_, rfl⟩, q⟩) hs
/-- list, tuple or str -/
def rIx (K : PySem.W.Frag) : R2 := fun x y H Q => rIxL K x y H Q ∨ rIxT K x y H Q ∨ rIxS x y H Q
theorem ix_seq : IxR X (rIx X.K) := ix_list.or (ix_tup.or ix_str)

/-! ### xs[i] = v, any sign -/
/-- the list's object behind a store -/
theorem mapSeq_set (its : List Value) (n j : Nat) (u : Value) : Obj.mapSeq (·.setIfInBounds j u) { cls := .type "list", data := .seq its.toArray n } = { cls := .type "list", data := .seq (its.set j u).toArray n } := by
  simp [Obj.mapSeq]
theorem Inv.lst {pins : List (Addr × Obj)} {σ : St} {H : Hp} {s : Shared} {p : Addr} {xs : List V} (I : Inv X pins σ H s) (h : H p = some (.lst xs)) :
    ∃ (its : List Value) (n : Nat), Vals xs its ∧ s.heap.get? p = some { cls := .type "list", data := .seq its.toArray n } ∧ xs.length ≤ sizeLine := by
  obtain ⟨z, its, n, r, e⟩ := I.hok p _ h
  exact ⟨its, n, r, e, z⟩
/-- the list at p is written by an update of its object -/
theorem Inv.lstUpd {pins : List (Addr × Obj)} {σ : St} {H : Hp} {s : Shared} {p : Addr} {xs ys : List V} {its its' : List Value} {n n' : Nat} {f : Obj → Obj} (I : Inv X pins σ H s) (h : H p = some (.lst xs))
    (ho : s.heap.get? p = some { cls := .type "list", data := .seq its.toArray n }) (hf : f { cls := .type "list", data := .seq its.toArray n } = { cls := .type "list", data := .seq its'.toArray n' }) (r : Vals ys its') (hz : ys.length ≤ sizeLine) (t' : Nat) (ht : X.tk ≤ t' := by first | exact Inv.tk ‹_› | exact Nat.le_succ_of_le (Inv.tk ‹_›) | assumption | exact Nat.le_succ_of_le (Nat.le_succ_of_le (Inv.tk ‹_›)) | exact Nat.le_trans (Inv.tk ‹_›) (Nat.le_add_right _ _)) :
    Inv X pins σ (upd H p (.lst ys)) { s with heap := s.heap.update p f, toks := t' } := by
  have e : (s.heap.update p f).get? p = some { cls := .type "list", data := .seq its'.toArray n' } := by
    rw [Heap.get?_update_self f ho (by rw [hf] <;> rfl), hf]
  refine I.write (x := p) (e := p) (by rw [h]; trivial) (.inl rfl) (fun b u hb q => (Heap.get?_update_other _ _ (Ne.symm hb)).trans q) ⟨_, e⟩ ?_ ht
  exact ⟨hz, its', n', r, e⟩
def rSetL : V → V → V → Hp → (Hp → Prop) → Prop := fun o i v H Q => ∃ p xs k j, o = .ref p ∧ i = .int k ∧ H p = some (.lst xs) ∧ ixN xs.length k = some j ∧ Q (upd H p (.lst (xs.set j v)))
theorem set_list : PSet X rSetL := by
  intro pins s σ H o i v ov iv u Q I ro ri rv h
  obtain ⟨p, xs, k, j, rfl, rfl, hp, hj, q⟩ := h
  cases ro
  obtain ⟨t, rfl⟩ := ri
  obtain ⟨its, n, r, ho, hz⟩ := I.lst hp
  obtain ⟨h1, h2, h3, h4⟩ := ixN_seq hj
  have hl := r.length
  have hn := line63
  have I' : Inv X pins σ (upd H p (.lst (xs.set j v))) { s with heap := s.heap.update p (Obj.mapSeq (·.setIfInBounds j u)) } :=
    I.lstUpd hp ho (mapSeq_set its n j u) (r.set rv j) (by rw [List.length_set]; exact hz) s.toks
  by_cases h0 : 0 ≤ k
  · have hk : k.toNat = j := by
      rw [seqIndex_of h0 h4] at h1
      exact Option.some.inj h1
    exact PySem.W.ki_setAt ho h0 (by omega) (by rw [List.size_toArray, ← hl]; exact h4) (by rw [hk]; exact ⟨_, I', q⟩)
  · have hk : (k + (its.toArray.size : Int)).toNat = j := by
      rw [seqIndex_neg (by omega) h3] at h1
      rw [List.size_toArray, ← hl]
      exact Option.some.inj h1
    exact PySem.W.ki_setBack ho (by omega) (by rw [List.size_toArray, ← hl]; exact h3) (by omega) (by rw [hk]; exact ⟨_, I', q⟩)

/-! ### slices -/
theorem slice_bounds (lo hi : Option Int) (n : Nat) : (sliceBounds lo hi none n).1 = ((HT.sIx n 0 lo : Nat) : Int) ∧ (sliceBounds lo hi none n).2.1 = ((HT.sIx n n hi : Nat) : Int) ∧ (sliceBounds lo hi none n).2.2 = 1 := by
  refine ⟨?_, ?_, rfl⟩
  · cases lo with
    | none => simp [sliceBounds, HT.sIx]
    | some i =>
      simp only [sliceBounds, HT.sIx, Option.getD_none, show (1 : Int) > 0 by decide, if_true]
      by_cases h : i < 0
      · simp only [h, if_true] <;> omega
      · simp only [h, if_false] <;> omega
  · cases hi with
    | none => simp [sliceBounds, HT.sIx]
    | some i =>
      simp only [sliceBounds, HT.sIx, Option.getD_none, show (1 : Int) > 0 by decide, if_true]
      by_cases h : i < 0
      · simp only [h, if_true] <;> omega
      · simp only [h, if_false] <;> omega
theorem slicePick_cut (its : List Value) (lo hi : Option Int) : slicePick its.toArray lo hi none = ((its.drop (HT.sIx its.length 0 lo)).take (HT.sIx its.length its.length hi - HT.sIx its.length 0 lo)).toArray := by
  obtain ⟨h1, h2, h3⟩ := slice_bounds lo hi its.toArray.size
  unfold slicePick
  rw [h1, h2, h3]
  simp only [sliceRange_one, pick_run, List.size_toArray] <;> rfl
/-- xs[lo:hi] of a list: a new list -/
def rSlL (K : PySem.W.Frag) : V → Option Int → Option Int → Hp → VK → Prop := fun x lo hi H Q => ∃ a xs, x = .ref a ∧ SqL K H a xs ∧ ∀ p, H p = none → Q (.ref p) (upd H p (.lst (cutV xs lo hi)))
theorem sl_list : SlR X (rSlL X.K) := by
  intro pins s σ H x v vl vu lo hi sl Q I rx hs pl pu h
  obtain ⟨a, xs, rfl, hx, q⟩ := h
  cases rx
  obtain ⟨its, r, ht, hz⟩ := I.list hx
  have hlen := r.length
  refine ⟨"list", _, slot_list_getitem.lookup, ht.isList.typeIs, ?_⟩
  refine wpAny_getItem_list_slice ht.isList hs pl pu .none (by simp) ?_ (by rw [List.size_toArray] <;> omega)
  rw [slicePick_cut, ← hlen]
  refine ⟨.ref s.heap.objs.size, _, I.laid (t' := s.toks) (o := .lst (cutV xs lo hi)) (fun b ob q => Heap.get?_push_of_some _ q) (Nat.le_refl _) ?_, rfl, q _ (I.hok.fresh (Nat.le_refl _))⟩
  exact ⟨Nat.le_trans (cutV_length xs lo hi) hz, _, 0, (r.drop (HT.sIx xs.length 0 lo)).take (HT.sIx xs.length xs.length hi - HT.sIx xs.length 0 lo), Heap.get?_push_size _ rfl⟩

/-! ### in, not in: flat items -/
def flatV : V → Bool
  | .non => true
  | .bl _ => true
  | .int _ => true
  | .str _ => true
  | _ => false
/-- == of flat values -/
def eqV : V → V → Bool
  | .non, .non => true
  | .bl a, .bl b => a == b
  | .bl a, .int b => (if a then 1 else 0) == b
  | .int a, .bl b => a == (if b then 1 else 0)
  | .int a, .int b => a == b
  | .str a, .str b => a == b
  | _, _ => false
/-- the items' answers, read off the values (a value's own answer does not lean on its token) -/
def eqU (x : V) (u : Value) : Bool := match u with
  | .none => eqV .non x
  | .bool b => eqV (.bl b) x
  | .int i _ => eqV (.int i) x
  | .str z _ => eqV (.str z) x
  | _ => false
def inV (x : V) (xs : List V) : Bool := xs.any fun y => eqV y x
/-- x in a list or tuple of flat items -/
def rIn (K : PySem.W.Frag) (neg : Bool) : R2 := fun x y H Q => ∃ p xs, y = .ref p ∧ (SqL K H p xs ∨ SqT K H p xs) ∧ flatV x = true ∧ xs.all flatV = true ∧ Q (.bl (if neg then !inV x xs else inV x xs)) H
/-! ### len, list(x), tuple(x) of any list or tuple that is read -/
theorem CallR.or {f : Value} {r r' : List V → Hp → VK → Prop} (h : CallR X f r) (h' : CallR X f r') : CallR X f (fun xs H Q => r xs H Q ∨ r' xs H Q) := by
  intro pins s σ H xs us Q I rs q
  rcases q with q | q
  · exact h pins s σ H xs us Q I rs q
  · exact h' pins s σ H xs us Q I rs q
theorem call_list_of : CallR X (.type "list") (fun xs H Q => ∃ p ys, xs = [.ref p] ∧ (SqL X.K H p ys ∨ SqT X.K H p ys) ∧ ∀ l, H l = none → Q (.ref l) (upd H l (.lst ys))) := by
  intro pins s σ H xs us Q I r h
  obtain ⟨p, ys, rfl, hq, q⟩ := h
  obtain ⟨u, rfl, rx⟩ := vals1 r
  cases rx
  have fin : ∀ (its : List Value), Vals ys its → ys.length ≤ sizeLine → ∀ (h' : Heap) (c' : Nat), (∀ b o', s.heap.get? b = some o' → h'.get? b = some o') →
      h'.get? s.heap.objs.size = some { cls := .type "list", dict := none, data := .seq its.toArray c', slots := #[] } → EP X pins σ Q (.ref s.heap.objs.size) { s with heap := h' } := fun its r' hz h' c' kp e =>
    ⟨.ref s.heap.objs.size, _, I.laid (t' := s.toks) kp (Nat.le_refl _) (show ObjOk X.prog X.w _ h' _ (.lst ys) from ⟨hz, its, c', r', e⟩), rfl, q _ (I.hok.fresh (Nat.le_refl _))⟩
  rcases hq with hq | hq
  · obtain ⟨its, r', pl, hz⟩ := I.list hq
    have hlen := r'.length
    obtain ⟨o, ho, hc, n, hd⟩ := pl.isList
    exact call_list_seq p (.inl rfl) ho hc hd (fun h' c' kp e => fin its r' hz h' c' kp e) (by simp only [List.size_toArray] <;> omega)
  · obtain ⟨its, r', pl, hz⟩ := I.tuple hq
    have hlen := r'.length
    obtain ⟨o, ho, hc, n, hd⟩ := pl
    exact call_list_seq p (.inr rfl) ho hc hd (fun h' c' kp e => fin its r' hz h' c' kp e) (by simp only [List.size_toArray] <;> omega)
/-! ### the call of a builtin's method: o.m(..) -/
/-- the value is of that builtin type -/
def tyV (K : PySem.W.Frag) (T : String) (x : V) (H : Hp) : Prop := match x with
  | .str _ => T = "str"
  | .int _ => T = "int"
  | .ref p => (T = "list" ∧ ∃ xs, SqL K H p xs) ∨ (T = "tuple" ∧ ∃ o, K.lookup p = some o ∧ o.cls = .type "tuple" ∧ o.dict = none) ∨
      (T = "dict" ∧ ((∃ kvs, H p = some (.dK kvs)) ∨ ∃ kvs, H p = some (.dT kvs))) ∨ (T = "set" ∧ ∃ S n, H p = some (.set S n))
  | _ => False
theorem tyV_is {pins : List (Addr × Obj)} {σ : St} {H : Hp} {s : Shared} {T : String} {x : V} {v : Value} (I : Inv X pins σ H s) (r : RelV x v) (ty : tyV X.K T x H) :
    s.TypeIs v T ∧ ∀ a, v = .ref a → ∃ ob, s.heap.get? a = some ob ∧ ob.dict = none := by
  cases x with
  | str z =>
    obtain ⟨t, rfl⟩ := r
    cases (show T = "str" from ty)
    exact ⟨typeIs_str s z t, fun _ e => nomatch e⟩
  | int i =>
    obtain ⟨t, rfl⟩ := r
    cases (show T = "int" from ty)
    exact ⟨typeIs_int s i t, fun _ e => nomatch e⟩
  | ref p =>
    cases r
    rcases ty with ⟨rfl, xs, hq⟩ | ⟨rfl, o, hk, hc, hd⟩ | ⟨rfl, hk⟩ | ⟨rfl, S, n, hk⟩
    · obtain ⟨its, _, pl, _⟩ := I.list hq
      refine ⟨pl.isList.typeIs, fun a e => ?_⟩
      cases e
      obtain ⟨o, n, e, c, hd, _⟩ := pl
      exact ⟨o, e, hd⟩
    · refine ⟨⟨o, I.kIn p o hk, hc⟩, fun a e => ?_⟩
      cases e
      exact ⟨o, I.kIn _ o hk, hd⟩
    · have z : ∃ o, s.heap.get? p = some o ∧ o.ExactDict := by
        rcases hk with ⟨kvs, hk⟩ | ⟨kvs, hk⟩
        · obtain ⟨_, _, _, _, o, _, _, e, ex, _⟩ := I.hok p _ hk
          exact ⟨o, e, ex⟩
        · obtain ⟨_, _, _, _, o, _, _, e, ex, _⟩ := I.hok p _ hk
          exact ⟨o, e, ex⟩
      obtain ⟨o, e, ex⟩ := z
      refine ⟨⟨o, e, ex.1⟩, fun a e2 => ?_⟩
      cases e2
      exact ⟨o, e, ex.2.1⟩
    · obtain ⟨o, _, _, _, e, ex, _⟩ := I.hok p _ hk
      refine ⟨⟨o, e, ex.1⟩, fun a e2 => ?_⟩
      cases e2
      exact ⟨o, e, ex.2.1⟩
  | _ => exact False.elim ty
def tBM0 (K : PySem.W.Frag) (T : String) (r : V → List V → Hp → VK → Prop) (to : TE) : TE := fun σ H Q => to σ H fun x H1 => tyV K T x H1 ∧ r x [] H1 Q
def tBM (K : PySem.W.Frag) (T : String) (r : V → List V → Hp → VK → Prop) (to : TE) (t : TA) : TE := fun σ H Q => to σ H fun x H1 => tyV K T x H1 ∧ t σ H1 fun xs H2 => r x xs H2 Q
variable {o e : Expr} {es : List Expr} {to : TE} {t : TA} {name : Str} {apos cpos : Pos} {T id : String} {r : V → List V → Hp → VK → Prop}
theorem pe_bm (pa : PlainAttrs T) (slot : Slot T name id) (hty : typeOf (.builtin id) = pure (.type "method_descriptor")) (hm : MtR X id r) (ho : PE X o to) (ha : PA X (e :: es) t)
    (hbase : attributeBase o name X.env (eval o X.env) = eval o X.env := by rfl)
    (hfew : ((backTo cpos (starEach (e :: es) X.env)).all (fun x => !x.1) && (backToKw cpos (keywordEach [] X.env)).all (fun x => x.1.isSome)
      && decide ((e :: es).length + ([] : List Keyword).length + (if ([] : List Keyword).isEmpty then 0 else 1) < 30)) = true := by rfl)
    (hline : (apos.endLine == cpos.line) = true := by rfl) (hs : starEach (e :: es) X.env = (false, eval e X.env) :: starEach es X.env := by rfl) (hplain : (backTo cpos (starEach es X.env)).any (·.1) = false := by rfl) :
    PE X (.Call (.Attribute o name apos) (e :: es) [] cpos) (tBM X.K T r to t) := by
  intro pins s σ H Q I h
  refine wpAny_Call_method_late hbase hfew hline rfl (thn (ho pins s σ H _ I h) fun v s1 ⟨x, H1, I1, r1, ty, q1⟩ => ?_)
  obtain ⟨h1, h2⟩ := tyV_is I1 r1 ty
  refine ⟨T, id, pa, slot, hty, h1, h2, ?_⟩
  have hA := ha cpos pins s1 σ H1 _ I1 q1
  rw [hs] at hA ⊢
  refine Calls.callWith_builtin (by show (false || (backTo cpos (starEach es X.env)).any (·.1)) = false; rw [hplain] <;> rfl) (Calls.evalArgs_plain ?_)
  exact thn hA fun us s2 ⟨vs, H2, I2, r2, q2⟩ => hm pins s2 σ H2 x vs v us Q I2 r1 r2 q2
/- xs.append(e), list.index on a module's tuple .. are MtR facts of 06m -/
end
end L2

namespace L2
open PySem PySem.Spec PyProof.Rows

def MtM (X : Cx) (id : String) (r : V → List V → Hp → VK → Prop) : Prop :=
  ∀ (pins : List (Addr × Obj)) (s : Shared) (σ : St) (H : Hp) (x : V) (xs : List V) (v : Value) (us : List Value) (Q : VK), Inv X pins σ H s → RelV x v → Vals xs us → r x xs H Q →
    wpAny (model X.prog X.w) X.A (call (.builtin id) (v :: us)) (EP X pins σ Q) X.xe s

/-! ### lists of values -/
theorem Vals.one : ∀ {x : V} {us : List Value}, Vals [x] us → ∃ u, us = [u] ∧ RelV x u
  | _, _, .cons r .nil => ⟨_, rfl, r⟩
theorem Vals.two : ∀ {x y : V} {us : List Value}, Vals [x, y] us → ∃ u v, us = [u, v] ∧ RelV x u ∧ RelV y v
  | _, _, _, .cons r (.cons q .nil) => ⟨_, _, rfl, r, q⟩
theorem Vals.zero : ∀ {us : List Value}, Vals [] us → us = []
  | _, .nil => rfl
theorem Vals.dropLast {xs : List V} {us : List Value} (h : Vals xs us) : Vals xs.dropLast us.dropLast := by
  induction h with
  | nil => exact .nil
  | cons r t ih =>
    cases t with
    | nil => exact .nil
    | cons q t' => exact .cons r ih
theorem Vals.eraseIdx : ∀ {xs : List V} {us : List Value} (i : Nat), Vals xs us → Vals (xs.eraseIdx i) (us.eraseIdx i)
  | _, _, _, .nil => .nil
  | _, _, 0, .cons _ t => t
  | _, _, i + 1, .cons r t => .cons r (Vals.eraseIdx i t)
theorem Vals.reverse {xs : List V} {us : List Value} (h : Vals xs us) : Vals xs.reverse us.reverse := by
  induction h with
  | nil => exact .nil
  | cons r t ih => rw [List.reverse_cons, List.reverse_cons]; exact Vals.append ih (.cons r .nil)
theorem Vals.rep {xs : List V} {us : List Value} (h : Vals xs us) : ∀ k : Nat, Vals (List.replicate k xs).flatten (List.replicate k us).flatten
  | 0 => .nil
  | k + 1 => by
    rw [List.replicate_succ, List.replicate_succ, List.flatten_cons, List.flatten_cons]
    exact Vals.append h (Vals.rep h k)
theorem foldl_rep (its : List Value) : ∀ (k : Nat) (acc : List Value),
    List.foldl (fun x1 x2 => x1 ++ x2) acc.toArray (List.replicate k its.toArray) = (acc ++ (List.replicate k its).flatten).toArray
  | 0, acc => by simp
  | k + 1, acc => by
    have e : acc.toArray ++ its.toArray = (acc ++ its).toArray := by simp
    have e2 : (acc ++ its) ++ (List.replicate k its).flatten = acc ++ (List.replicate (k + 1) its).flatten := by
      rw [List.replicate_succ, List.flatten_cons, List.append_assoc]
    rw [← e2, ← foldl_rep its k (acc ++ its), ← e, List.replicate_succ, List.foldl_cons]

section
variable {X : Cx} {pins : List (Addr × Obj)} {σ : St} {H : Hp} {s : Shared} {l b : Addr} {xs ys zs : List V}

/-! ### the two steps: a tracked list is rewritten, a new list is laid -/
theorem Inv.lset {its its' : List Value} {n : Nat} {f : Array Value → Array Value} {t' : Nat} (I : Inv X pins σ H s) (hH : H l = some (.lst xs))
    (e : s.heap.get? l = some { cls := .type "list", data := .seq its.toArray n }) (hf : f its.toArray = its'.toArray) (hv : Vals ys its') (hz : ys.length ≤ sizeLine) (ht : X.tk ≤ t' := by first | exact Inv.tk ‹_› | exact Nat.le_succ_of_le (Inv.tk ‹_›) | assumption | exact Nat.le_succ_of_le (Nat.le_succ_of_le (Inv.tk ‹_›)) | exact Nat.le_trans (Inv.tk ‹_›) (Nat.le_add_right _ _)) :
    Inv X pins σ (upd H l (.lst ys)) { s with heap := s.heap.update l (Obj.mapSeq f), toks := t' } := by
  have q := PySem.IsL.update e f
  rw [hf] at q
  refine I.write (x := l) (e := l) (by rw [hH]; exact trivial) (.inl rfl) (fun b' u hb hu => (Heap.get?_update_other s.heap (Obj.mapSeq f) (Ne.symm hb)).trans hu) ⟨_, q⟩ ?_ ht
  exact ⟨hz, its', _, hv, q⟩
theorem Inv.lnew {its : List Value} {t' : Nat} (I : Inv X pins σ H s) (hv : Vals ys its) (hz : ys.length ≤ sizeLine) (ht : X.tk ≤ t' := by first | exact Inv.tk ‹_› | exact Nat.le_succ_of_le (Inv.tk ‹_›) | assumption | exact Nat.le_succ_of_le (Nat.le_succ_of_le (Inv.tk ‹_›)) | exact Nat.le_trans (Inv.tk ‹_›) (Nat.le_add_right _ _)) :
    Inv X pins σ (upd H s.heap.objs.size (.lst ys)) { s with heap := s.heap.push { cls := .type "list", data := .seq its.toArray }, toks := t' } :=
  I.laid (fun _ _ q => Heap.get?_push_of_some _ q) (Nat.le_refl _) ⟨hz, its, 0, hv, Heap.get?_push_size _ rfl⟩ ht
theorem Inv.fresh (I : Inv X pins σ H s) : H s.heap.objs.size = none := I.hok.fresh (Nat.le_refl _)
theorem Inv.lstM (I : Inv X pins σ H s) (hH : H l = some (.lst xs)) : xs.length ≤ sizeLine ∧ ∃ (its : List Value) (n : Nat), Vals xs its ∧ xs.length = its.length ∧ s.heap.get? l = some { cls := .type "list", data := .seq its.toArray n } := by
  obtain ⟨z, its, n, r, e⟩ := I.hok l _ hH
  exact ⟨z, its, n, r, r.length, e⟩

theorem notLongL {n : Nat} (h : n ≤ sizeLine) : Builtin.List.listTooLong n = false := by
  unfold Builtin.List.listTooLong
  exact decide_eq_false (by omega)
end

section
variable {X : Cx}

/-! ### methods -/
def rAppend : V → List V → Hp → VK → Prop := fun x vs H Q => ∃ l xs y, x = .ref l ∧ vs = [y] ∧ H l = some (.lst xs) ∧ xs.length < sizeLine ∧ Q .non (upd H l (.lst (xs ++ [y])))
theorem mt_append : MtM X "list.append" rAppend := by
  intro pins s σ H x vs v us Q I rx rv h
  obtain ⟨l, xs, y, rfl, rfl, hH, hz, q⟩ := h
  cases rx
  obtain ⟨u, rfl, ru⟩ := rv.one
  obtain ⟨z, its, n, r, hl, e⟩ := I.lstM hH
  refine call_meets F.slot_list_append ⟨_, e, rfl⟩ F.entry_list_append (F.args_list_append_2 _ _) (PySem.list_append l its.toArray n u (by rw [List.size_toArray]; omega)) ⟨e, ?_⟩
  refine ⟨.non, _, I.lset (its' := its ++ [u]) hH e (by simp) (r.append (.cons ru .nil)) ?_, rfl, q⟩
  rw [List.length_append, List.length_singleton]
  omega

def rExtend : V → List V → Hp → VK → Prop := fun x vs H Q => ∃ l b xs zs, x = .ref l ∧ vs = [.ref b] ∧ H l = some (.lst xs) ∧ H b = some (.lst zs) ∧ xs.length + zs.length ≤ sizeLine ∧ Q .non (upd H l (.lst (xs ++ zs)))
def rPop : V → List V → Hp → VK → Prop := fun x vs H Q => ∃ l xs y, x = .ref l ∧ vs = [] ∧ H l = some (.lst xs) ∧ xs[xs.length - 1]? = some y ∧ Q y (upd H l (.lst xs.dropLast))
def rPopAt : V → List V → Hp → VK → Prop := fun x vs H Q => ∃ l xs i k y, x = .ref l ∧ vs = [.int i] ∧ H l = some (.lst xs) ∧ -(2 ^ 63) ≤ i ∧ i < 2 ^ 63 ∧ seqIndex? i xs.length = some k ∧ xs[k]? = some y ∧ Q y (upd H l (.lst (xs.eraseIdx k)))
def rReverse : V → List V → Hp → VK → Prop := fun x vs H Q => ∃ l xs, x = .ref l ∧ vs = [] ∧ H l = some (.lst xs) ∧ Q .non (upd H l (.lst xs.reverse))
def rClear : V → List V → Hp → VK → Prop := fun x vs H Q => ∃ l xs, x = .ref l ∧ vs = [] ∧ H l = some (.lst xs) ∧ Q .non (upd H l (.lst []))
/-! ### list + list, list += list, list * int -/
def rCat : R2 := fun x y H Q => ∃ l b xs zs, x = .ref l ∧ y = .ref b ∧ H l = some (.lst xs) ∧ H b = some (.lst zs) ∧ xs.length + zs.length ≤ sizeLine ∧ ∀ p, H p = none → Q (.ref p) (upd H p (.lst (xs ++ zs)))
theorem op_cat : OpR X (binaryOp .Add) rCat := by
  intro pins s σ H x y v u Q I rx ry h
  obtain ⟨l, b, xs, zs, rfl, rfl, hH, hB, hz, q⟩ := h
  cases rx
  cases ry
  obtain ⟨z, its, n, r, hl, e⟩ := I.lstM hH
  obtain ⟨z2, its2, n2, r2, hl2, e2⟩ := I.lstM hB
  refine PySem.P.add_list e e2 ?_ (by rw [List.size_toArray, List.size_toArray]; omega)
  have ea : its.toArray ++ its2.toArray = (its ++ its2).toArray := by simp
  rw [ea]
  exact ⟨.ref _, _, I.lnew (t' := s.toks) (r.append r2) (by rw [List.length_append]; omega), rfl, q _ I.fresh⟩
/-- a list times an int (a negative one is nothing) -/
def rRep : R2 := fun x y H Q => ∃ l k xs, x = .ref l ∧ y = .int k ∧ H l = some (.lst xs) ∧ -(2 ^ 63) ≤ k ∧ k < 2 ^ 63 ∧ xs.length * k.toNat ≤ sizeLine ∧
  ∀ p, H p = none → Q (.ref p) (upd H p (.lst (List.replicate k.toNat xs).flatten))
theorem len_rep {α : Type} (xs : List α) (k : Nat) : (List.replicate k xs).flatten.length = k * xs.length := by
  induction k with
  | zero => simp
  | succ k ih => rw [List.replicate_succ, List.flatten_cons, List.length_append, ih, Nat.succ_mul, Nat.add_comm]
theorem op_rep : OpR X (binaryOp .Mult) rRep := by
  intro pins s σ H x y v u Q I rx ry h
  obtain ⟨l, k, xs, rfl, rfl, hH, h1, h2, hz, q⟩ := h
  cases rx
  obtain ⟨t, rfl⟩ := ry
  obtain ⟨z, its, n, r, hl, e⟩ := I.lstM hH
  have hlen : its.toArray.size * k.toNat ≤ sizeLine := by rw [List.size_toArray, ← hl]; exact hz
  have hcap : ¬ its.toArray.size * k.toNat > (2 ^ 63 - 1) / 8 := by
    have : (sizeLine : Nat) ≤ (2 ^ 63 - 1) / 8 := by decide
    omega
  have hfit : ¬ (!Builtin.List.listFitsIndex k) = true := by
    rw [fitsIndex_both h1 h2]
    exact Bool.false_ne_true
  have hlong : ¬ Builtin.List.listTooLong (its.toArray.size * k.toNat) = true := by
    rw [notLongL hlen]
    exact Bool.false_ne_true
  have hnew : List.foldl (fun x1 x2 => x1 ++ x2) #[] (List.replicate (if its.toArray.isEmpty = true then 0 else k.toNat) its.toArray) = (List.replicate k.toNat its).flatten.toArray := by
    have f0 : ∀ m : Nat, List.foldl (fun x1 x2 => x1 ++ x2) #[] (List.replicate m its.toArray) = (List.replicate m its).flatten.toArray := fun m => by
      have := foldl_rep its m []
      rw [List.nil_append] at this
      exact this
    rw [f0]
    cases its with
    | nil => simp
    | cons a r' => rw [if_neg (by simp)]
  refine wpAny_binaryOp_repeat_ref (T := "list") (U := "int") (by decide) ⟨_, e, rfl⟩ (fun s' => typeIs_int s' k t) noFill_list_mul F.fills_int_mul F.slot_int_rmul repeat_list F.slot_int_index.lookup
    (call_meets F.slot_int_rmul (typeIs_int s k t) F.entry_int_rmul (F.args_int_rmul_2 _ _) (int___rmul___int_list k t l its.toArray n)
      ⟨e, rfl, ⟨_, e, rfl⟩, call_meets F.slot_list_mul ⟨_, e, rfl⟩ F.entry_list_mul (F.args_list_mul_2 _ _) (AutoListH.list___mul___list_int_3 l its.toArray n k t hfit hcap hlong) ⟨e, ?_⟩⟩)
  rw [hnew]
  exact ⟨.ref _, _, I.lnew (t' := s.toks) (r.rep k.toNat) (by rw [len_rep, Nat.mul_comm]; exact hz), rfl, q _ I.fresh⟩

/-! ### del xs[i] -/
end

/-! ### xs[a:b] = ys -/
section
variable {prog : Program} {w : World} {A : Around} {E : Value → Shared → Prop} {s : Shared}
theorem bounds_run {a c n : Nat} (hac : a ≤ c) (hc : c ≤ n) : sliceBounds (some (a : Int)) (some (c : Int)) none n = ((a : Int), (c : Int), 1) := by
  simp only [sliceBounds, Option.getD_none]
  have h1 : ¬ ((a : Int) < 0) := by omega
  have h2 : ¬ ((c : Int) < 0) := by omega
  simp only [h1, h2, if_false, show (1 : Int) > 0 by decide, if_true]
  congr 1
  · omega
  · congr 1; omega
set_option maxRecDepth 100000 in
/-- list.__setitem__ with a slice of step one and another list -/
theorem setItem_slice {l b sl : Addr} {items new : Array Value} {n n2 : Nat} {vl vu : Value} {a c : Nat} {Q : Unit → Shared → Prop}
    (e : s.heap.get? l = some { cls := .type "list", data := .seq items n }) (e2 : s.heap.get? b = some { cls := .type "list", data := .seq new n2 }) (hne : l ≠ b)
    (hs : s.heap.IsSliceOf sl vl vu .none) (pl : IsPart vl (some (a : Int))) (pu : IsPart vu (some (c : Int))) (hac : a ≤ c) (hc : c ≤ items.size)
    (hsz : items.size + new.size ≤ sizeLine) (h : Q () { s with heap := s.heap.update l (Obj.mapSeq fun xs => xs.extract 0 a ++ new ++ xs.extract c xs.size) }) :
    wpAny (model prog w) A (setItem (.ref l) (.ref sl) (.ref b)) Q E s := by
  have hl : s.heap.IsList l items := PySem.IsL.isList e
  have hb : s.heap.IsList b new := PySem.IsL.isList e2
  obtain ⟨os, hos, hcs, hds⟩ := id hs
  have hTs : s.TypeIs (.ref sl) "slice" := ⟨os, hos, hcs⟩
  have hstep : ¬ ((rawPart none == rawInt 0) = true) := Bool.false_ne_true
  have hsame : Builtin.List.listSameRef (.ref l) (.ref b) = false := by
    unfold Builtin.List.listSameRef
    exact beq_eq_false_iff_ne.mpr hne
  have hmax : (max (a : Int) (c : Int)).toNat = c := by omega
  have hz' : ((fun xs : Array Value => xs.extract 0 a ++ new ++ xs.extract c xs.size) items).size ≤ sizeLine + 1 := by
    simp only [Array.size_append, Array.size_extract]
    omega
  unfold setItem
  try with_reducible refine wpAny_holding ?_
  first | refine wpAny_bind (wpAny_pure ?_) | skip
  refine wpAny_bind (wpAny_sequenceKey hl.typeIs (by decide) ?_)
  refine wpAny_bind (wpAny_callSpecial?_slot (name := Str.ofString "__setitem__") hl.typeIs slot_list_setitem
    (wpAny_call_entry slot_list_setitem hl.typeIs entry_list_setitem ?_ (args_list_setitem _ _ _)))
  show wpAny _ _ (Builtin.List.listSubscript? (.ref sl) >>= _) _ _ s
  refine wpAny_bind ?_
  unfold Builtin.List.listSubscript?
  refine wpAny_bind (wpAny_specialOf hTs slice_no_index ?_)
  simp only [Option.isNone_none, if_true]
  refine wpAny_pure ?_
  show wpAny _ _ (typeOf (.ref sl) >>= _) _ _ s
  refine wpAny_bind (wpAny_typeOf hTs ?_)
  first
    | rw [if_neg (by decide)]
    | refine PySem.W.KFB.if_not (by decide) ?_
  rw [listSliceParts_eq]
  refine wpAny_bind (wpAny_bind (wpAny_field hos hds (x := .none) rfl (wpAny_bind (wpAny_listPart .none ?_))))
  rw [if_neg hstep]
  refine wpAny_bind (wpAny_field hos hds (x := vl) rfl (wpAny_bind (wpAny_listPart pl ?_)))
  refine wpAny_bind (wpAny_field hos hds (x := vu) rfl (wpAny_bind (wpAny_listPart pu (wpAny_pure ?_))))
  first
    | simp only [hsame, Bool.false_eq_true, if_false]
    | refine PySem.W.KFB.if_not hsame ?_
    | (dsimp only
       rw [if_neg (by rw [hsame]; exact Bool.false_ne_true)])
  refine wpAny_bind (m := Builtin.List.listAllItems (.ref b) "must assign iterable to extended slice") ?_
  unfold Builtin.List.listAllItems
  refine wpAny_bind (wpAny_typeOf hb.typeIs ?_)
  first
    | refine PySem.W.KFB.if_so (by decide) ?_
    | rw [if_pos (by decide)]
    | simp only [beq_self_eq_true, Bool.true_or, if_true]
  unfold Builtin.List.listItems
  refine wpAny_bind (wpAny_seqItems e2 rfl (wpAny_pure ?_))
  refine wpAny_bind (wpAny_bind (wpAny_seqItems e rfl (wpAny_pure ?_)))
  refine wpAny_bind (wpAny_of_eq ((sliceIndices_raw (some (a : Int)) (some (c : Int)) none items.size (by simp)).trans (congrArg (pure : Int × Int × Int → Sem (Int × Int × Int)) (bounds_run hac hc))) ?_)
  show wpAny _ _ (if ((1 : Int) == 1) = true then _ else _) _ _ s
  rw [if_pos (by decide)]
  refine wpAny_bind (wpAny_rule ?_)
  first
    | simp only [notLongL hsz, Bool.false_eq_true, if_false]
    | refine PySem.W.KFB.if_not (notLongL hsz) ?_
  first | refine wpAny_bind (wpAny_pure ?_) | skip
  show wpAny _ _ (updateSeq l (fun xs => xs.extract 0 ((a : Int)).toNat ++ new ++ xs.extract (max (a : Int) (c : Int)).toNat xs.size) >>= _) _ _ s
  rw [hmax, Int.toNat_natCast]
  refine wpAny_bind (wpAny_updateSeq (hz := Nat.le_trans (Nat.le_add_right _ _) hsz) (_hz' := hz') e rfl ?_)
  refine wpAny_bind (wpAny_letGo ?_)
  first
    | exact wpAny_bind (wpAny_pure (wpAny_pure ⟨.none, rfl, wpAny_pure h⟩))
    | exact wpAny_pure ⟨.none, rfl, wpAny_pure h⟩
end

section
variable {X : Cx}
end
end L2

namespace L2
open PySem PySem.Spec PyProof.Rows

theorem Vals.ints : ∀ {ns : List Int} {us : List Value}, Vals (ns.map V.int) us → IntsAre us ns
  | [], us, h => by
    rw [List.map_nil] at h
    cases h
    exact IntsAre.nil
  | n :: ns, us, h => by
    rw [List.map_cons] at h
    cases h with
    | cons r t =>
      obtain ⟨k, rfl⟩ := r
      exact IntsAre.cons n k (Vals.ints t)
theorem Vals.strs : ∀ {xs : List Str} {us : List Value}, Vals (xs.map V.str) us → StrsAre us xs
  | [], us, h => by
    rw [List.map_nil] at h
    cases h
    exact StrsAre.nil
  | x :: xs, us, h => by
    rw [List.map_cons] at h
    cases h with
    | cons r t =>
      obtain ⟨k, rfl⟩ := r
      exact StrsAre.cons x k (Vals.strs t)
theorem Vals.bls : ∀ {bs : List Bool} {us : List Value}, Vals (bs.map V.bl) us → us = bs.map Value.bool
  | [], us, h => by
    rw [List.map_nil] at h
    cases h
    rfl
  | b :: bs, us, h => by
    rw [List.map_cons] at h
    cases h with
    | cons r t =>
      cases r
      rw [Vals.bls t, List.map_cons]
theorem Vals.ref1 {a : Addr} {us : List Value} (r : Vals [V.ref a] us) : us = [Value.ref a] := by
  cases r with
  | cons r t =>
    cases t
    cases r
    rfl
/-! ### the library's walks over a list of ints, kept objects alone -/
section
variable {prog : Program} {w : World} {A : Around} {E : Value → Shared → Prop} {s : Shared} {l : Addr} {its : List Value} {ns : List Int} {Q : Value → Shared → Prop}
end

/-! ### the calls, by values (CallR of 03t; MtR of 06l) -/
section
variable {X : Cx}
/-- sum(xs) of a list of ints -/
def rSum (K : PySem.W.Frag) : List V → Hp → VK → Prop := fun vs H Q => ∃ (a : Addr) (ns : List Int), vs = [V.ref a] ∧ SqL K H a (ns.map V.int) ∧ Q (.int ns.sum) H
/-- max(xs), min(xs) of a list of ints -/
def rMax (K : PySem.W.Frag) : List V → Hp → VK → Prop := fun vs H Q => ∃ (a : Addr) (ns : List Int), vs = [V.ref a] ∧ SqL K H a (ns.map V.int) ∧ 0 < ns.length ∧ ∀ m, m ∈ ns → (∀ y, y ∈ ns → y ≤ m) → Q (.int m) H
def rMin (K : PySem.W.Frag) : List V → Hp → VK → Prop := fun vs H Q => ∃ (a : Addr) (ns : List Int), vs = [V.ref a] ∧ SqL K H a (ns.map V.int) ∧ 0 < ns.length ∧ ∀ m, m ∈ ns → (∀ y, y ∈ ns → m ≤ y) → Q (.int m) H
/-! sorted, sort (fewer than 64 items: the library's own bound) -/
def rSorted (K : PySem.W.Frag) : List V → Hp → VK → Prop := fun vs H Q => ∃ (a : Addr) (ns : List Int), vs = [V.ref a] ∧ SqL K H a (ns.map V.int) ∧ ns.length < 64 ∧
  ∀ (ns' : List Int) (p : Addr), ns'.Perm ns → ns'.Pairwise (· ≤ ·) → H p = none → Q (.ref p) (upd H p (.lst (ns'.map V.int)))
def rSortedS (K : PySem.W.Frag) : List V → Hp → VK → Prop := fun vs H Q => ∃ (a : Addr) (xs : List Str), vs = [V.ref a] ∧ SqL K H a (xs.map V.str) ∧ xs.length < 64 ∧
  ∀ (ys : List Str) (p : Addr), ys.Perm xs → sortedS ys = true → H p = none → Q (.ref p) (upd H p (.lst (ys.map V.str)))
/-- xs.sort(), ints -/
def rSort : V → List V → Hp → VK → Prop := fun x xs H Q => ∃ (a : Addr) (ns : List Int), x = V.ref a ∧ xs = [] ∧ H a = some (.lst (ns.map V.int)) ∧ ns.length < 64 ∧
  ∀ ns' : List Int, ns'.Perm ns → ns'.Pairwise (· ≤ ·) → Q .non (upd H a (.lst (ns'.map V.int)))
end

/-! ### list.index, flat items -/
section
variable {X : Cx}
def rIndex (K : PySem.W.Frag) : V → List V → Hp → VK → Prop := fun x xs H Q => ∃ (a : Addr) (ys : List V) (y : V) (j : Nat) (z : V), x = V.ref a ∧ xs = [y] ∧ SqL K H a ys ∧ flatV y = true ∧ ys.all flatV = true ∧ ys[j]? = some z ∧ eqV z y = true ∧
  (∀ (m : Nat) (z' : V), m < j → ys[m]? = some z' → eqV z' y = false) ∧ Q (.int (j : Nat)) H
end

/-! ### type(x) of an own instance; is, is not of a module's class -/
section
variable {X : Cx}
end

/-! ### any(xs), all(xs) of a list of bools -/
theorem iter_any {prog : Program} {w : World} {A : Around} {E : Value → Shared → Prop} {s : Shared} {l : Addr} {items : Array Value} {Q : Value → Shared → Prop} (hl : s.heap.IsList l items)
    (h : ∀ s₂ : Shared, s₂ = { s with heap := s.heap.push { cls := .type "list_iterator", data := .fields #[.ref l, .int 0 0] } } →
      (s₂.heap.IsListIter s.heap.objs.size l 0 ∧ s₂.heap.IsList l items) → l ≠ s.heap.objs.size → Q (.ref s.heap.objs.size) s₂) : wpAny (model prog w) A (pyIter (.ref l)) Q E s := by
  have hlt : l < s.heap.objs.size := by obtain ⟨_, e, _⟩ := hl; exact Heap.lt_size e
  exact wpAny_pyIter_list hl (h _ rfl ⟨⟨_, Heap.get?_push_size _ rfl, rfl, rfl⟩, hl.push _⟩ (Nat.ne_of_lt hlt))
theorem truth_bools {prog : Program} {w : World} {A : Around} {bs : List Bool} {its : List Value} (e : its = bs.map Value.bool) :
    TruthOf prog w A (fun i v => its.toArray[i]? = some v) (fun i => bs.getD i false) := fun i v s Q E hv hq => by
  have hv' : its[i]? = some v := by simpa using hv
  rw [e, List.getElem?_map] at hv'
  obtain ⟨b, hb, rfl⟩ := Option.map_eq_some_iff.mp hv'
  have hg : bs.getD i false = b := by rw [List.getD_eq_getElem?_getD, hb] <;> rfl
  have hq' : Q (bs.getD i false) s := hq
  rw [hg] at hq'
  exact wpAny_truthy_bool hq'
theorem all_range : ∀ bs : List Bool, (List.range bs.length).all (fun i => bs.getD i false) = bs.all id
  | [] => rfl
  | b :: bs => by
    rw [List.length_cons, List.range_succ_eq_map, List.all_cons, List.all_map, List.all_cons, ← all_range bs]
    all_goals rfl
section
variable {X : Cx}
def rAny (K : PySem.W.Frag) : List V → Hp → VK → Prop := fun vs H Q => ∃ (a : Addr) (bs : List Bool), vs = [V.ref a] ∧ SqL K H a (bs.map V.bl) ∧ Q (.bl (bs.any id)) H
def rAll (K : PySem.W.Frag) : List V → Hp → VK → Prop := fun vs H Q => ∃ (a : Addr) (bs : List Bool), vs = [V.ref a] ∧ SqL K H a (bs.map V.bl) ∧ Q (.bl (bs.all id)) H
theorem cr_all (hc : X.calm = true) : CallR X (.builtin "all") (rAll X.K) := by
  intro pins s σ H vs us Q I r h
  obtain ⟨a, bs, rfl, hs, q⟩ := h
  obtain ⟨its, rv, hl, _⟩ := I.list hs
  rw [Vals.ref1 r]
  have hb := rv.bls
  refine TK.up_tk I.tk (call_all_walk (iter_any hl.isList fun s₂ e2 st hne => ?_))
  subst e2
  refine ⟨_, _, _, _, _, _, _, rfl, Walks.list (A := X.A.in1) (I.ok.hd hc) _ a hne its.toArray, st, truth_bools hb, fun h' tk hk htk => ?_⟩
  refine ⟨.bl _, H, I.kept fun b o eo => hk b o (fun hmem => ?_) (Heap.get?_push_of_some _ eo), ?_, q⟩
  · rcases List.mem_cons.mp hmem with e1 | hmem
    · exact absurd (e1 ▸ Heap.lt_size eo) (Nat.lt_irrefl _)
    · cases hmem
  · show Value.bool _ = Value.bool _
    rw [← all_range, hb, List.size_toArray, List.length_map]
end

/-! ### == and != of data at any depth: none, bools, ints, texts, lists, tuples -/
mutual
inductive Dp (K : PySem.W.Frag) (H : Hp) : V → PyData → Prop
  | non : Dp K H .non .none
  | bl (b : Bool) : Dp K H (.bl b) (.bool b)
  | int (i : Int) : Dp K H (.int i) (.int i)
  | str (x : Str) : Dp K H (.str x) (.str x)
  | lst {a : Addr} {xs : List V} {ds : List PyData} : SqL K H a xs → DpAll K H xs ds → Dp K H (.ref a) (.list ds)
  | tup {a : Addr} {xs : List V} {ds : List PyData} : SqT K H a xs → DpAll K H xs ds → Dp K H (.ref a) (.tuple ds)
inductive DpAll (K : PySem.W.Frag) (H : Hp) : List V → List PyData → Prop
  | nil : DpAll K H [] []
  | cons {v : V} {vs : List V} {d : PyData} {ds : List PyData} : Dp K H v d → DpAll K H vs ds → DpAll K H (v :: vs) (d :: ds)
end
section
variable {X : Cx} {pins : List (Addr × Obj)} {σ : St} {H : Hp} {s : Shared}
mutual
theorem Dp.reads (I : Inv X pins σ H s) : ∀ (d : PyData) (v : V) (u : Value), Dp X.K H v d → RelV v u → ∃ as, Reads s.heap u d as
  | .none, _, _, h, r => by
    cases h
    cases r
    exact ⟨_, Reads.none⟩
  | .bool b, _, _, h, r => by
    cases h
    cases r
    exact ⟨_, Reads.bool b⟩
  | .int i, _, _, h, r => by
    cases h
    obtain ⟨t, rfl⟩ := r
    exact ⟨_, Reads.int i t⟩
  | .str x, _, _, h, r => by
    cases h
    obtain ⟨t, rfl⟩ := r
    exact ⟨_, Reads.str x t⟩
  | .list ds, _, _, h, r => by
    cases h with
    | lst hs ha =>
      cases r
      obtain ⟨its, rv, ⟨o, n, ho, hc, _, hd⟩, _⟩ := I.list hs
      obtain ⟨as, hr⟩ := Dp.readsAll I ds _ its ha rv
      exact ⟨_, Reads.list ho hc hd hr⟩
  | .tuple ds, _, _, h, r => by
    cases h with
    | tup hs ha =>
      cases r
      obtain ⟨its, rv, ⟨o, ho, hc, n, hd⟩, _⟩ := I.tuple hs
      obtain ⟨as, hr⟩ := Dp.readsAll I ds _ its ha rv
      exact ⟨_, Reads.tuple ho hc hd hr⟩
  | .dict _, _, _, h, _ => by cases h
theorem Dp.readsAll (I : Inv X pins σ H s) : ∀ (ds : List PyData) (vs : List V) (us : List Value), DpAll X.K H vs ds → Vals vs us → ∃ as, ReadsAll s.heap us ds as
  | [], _, _, h, r => by
    cases h
    cases r
    exact ⟨_, ReadsAll.nil⟩
  | d :: ds, _, _, h, r => by
    cases h with
    | cons h1 h2 =>
      cases r with
      | cons r1 r2 =>
        obtain ⟨as, q1⟩ := Dp.reads I d _ _ h1 r1
        obtain ⟨bs, q2⟩ := Dp.readsAll I ds _ _ h2 r2
        exact ⟨_, ReadsAll.cons q1 q2⟩
end
end
section
variable {X : Cx}
def rEqD (K : PySem.W.Frag) : R2 := fun x y H Q => ∃ d e, Dp K H x d ∧ Dp K H y e ∧ SeqAt.shaped d = true ∧ SeqAt.shaped e = true ∧ Q (.bl (PyData.eqv d e)) H
def rNeD (K : PySem.W.Frag) : R2 := fun x y H Q => ∃ d e, Dp K H x d ∧ Dp K H y e ∧ SeqAt.shaped d = true ∧ SeqAt.shaped e = true ∧ Q (.bl (!PyData.eqv d e)) H
theorem op_eqD (hu : X.A.units + 64 < cLine) : OpR X (compareOp .Eq) (rEqD X.K) := by
  intro pins s σ H x y v u Q I rx ry h
  obtain ⟨d, e, hd, he, sd, se, q⟩ := h
  obtain ⟨as, r1⟩ := Dp.reads I d x v hd rx
  obtain ⟨bs, r2⟩ := Dp.reads I e y u he ry
  exact SeqAt.compareEq_shaped r1 r2 sd se hu ⟨.bl _, H, I, rfl, q⟩
theorem op_neD (hu : X.A.units + 64 < cLine) : OpR X (compareOp .NotEq) (rNeD X.K) := by
  intro pins s σ H x y v u Q I rx ry h
  obtain ⟨d, e, hd, he, sd, se, q⟩ := h
  obtain ⟨as, r1⟩ := Dp.reads I d x v hd rx
  obtain ⟨bs, r2⟩ := Dp.reads I e y u he ry
  exact SeqAt.compareNe_shaped r1 r2 sd se hu ⟨.bl _, H, I, rfl, q⟩
end
end L2

namespace L2
open PySem PySem.Spec PyProof.Rows
abbrev CellAt (h : Heap) (c : Addr) (v : Option Value) : Prop := h.IsCell c v
def relS (scope sc : Scope) : Scope :=
  { scope with names := scope.names.map fun (n, k) => if (k == .free && sc.kind == .function && sc.names.lookup n == some .cell) then (n, .cell) else (n, k) }

def cloFrom (cells : List (Str × Addr)) : List (Str × NameKind) → List (Str × Addr) → List (Str × Addr)
  | [], acc => acc
  | (n, k) :: r, acc => if k == .free then cloFrom cells r ((n, (cells.lookup n).getD 0) :: acc) else cloFrom cells r acc

theorem closure_loop (env : Env) (f : Str × NameKind → List (Str × Addr) → Sem (ForInStep (List (Str × Addr))))
    (hf : ∀ n k c, f (n, k) c = if k == .free then (do let a ← cellOf env n; pure (.yield ((n, a) :: c))) else pure (.yield c)) :
    ∀ (names : List (Str × NameKind)) (acc : List (Str × Addr)), (∀ y ∈ names, y.2 = .free → ∃ c, env.cells.lookup y.1 = some c) → forIn names acc f = pure (cloFrom env.cells names acc)
  | [], acc, _ => by rw [List.forIn_nil]; rfl
  | (n, k) :: r, acc, h => by
    rw [List.forIn_cons, hf]
    have ih := fun acc => closure_loop env f hf r acc fun y hy => h y (List.mem_cons_of_mem _ hy)
    unfold cloFrom
    by_cases hk : (k == NameKind.free) = true
    · rw [if_pos hk, if_pos hk]
      obtain ⟨c, hc⟩ := h (n, k) List.mem_cons_self (by simpa using hk)
      have e : cellOf env n = pure c := by unfold cellOf; rw [hc]
      rw [e]
      have e2 : (env.cells.lookup n).getD 0 = c := by rw [hc]; rfl
      rw [e2]
      exact ih _
    · rw [if_neg hk, if_neg hk]
      exact ih _
theorem closure_ok {scope : Scope} {env : Env} (h : ∀ y ∈ scope.names, y.2 = .free → ∃ c, env.cells.lookup y.1 = some c) : closureFor scope env = pure (cloFrom env.cells scope.names []) := by
  simp only [closureFor]
  rw [closure_loop env _ (fun n k c => rfl) scope.names [] h]
  rfl

theorem mem_lookup {α : Type} : ∀ {l : List (Str × α)} {n : Str} {c : α}, (n, c) ∈ l → ∃ c', l.lookup n = some c'
  | (k, v) :: r, n, c, h => by
    rw [List.lookup_cons]
    cases hb : n == k with
    | true => exact ⟨_, rfl⟩
    | false =>
      rcases List.mem_cons.mp h with e | h
      · cases e; simp at hb
      · exact mem_lookup h

theorem cloFrom_mem {cells : List (Str × Addr)} : ∀ {names : List (Str × NameKind)} {acc : List (Str × Addr)} {n : Str} {c : Addr}, (n, c) ∈ cloFrom cells names acc → (n, c) ∈ acc ∨ ((n, .free) ∈ names ∧ c = (cells.lookup n).getD 0)
  | [], _, _, _, h => .inl h
  | (m, k) :: r, acc, n, c, h => by
    unfold cloFrom at h
    split at h
    · rename_i hk
      have hk : k = .free := by simpa using hk
      rcases cloFrom_mem h with h | ⟨h1, h2⟩
      · rcases List.mem_cons.mp h with e | h
        · cases e; exact .inr ⟨hk ▸ List.mem_cons_self, rfl⟩
        · exact .inl h
      · exact .inr ⟨List.mem_cons_of_mem _ h1, h2⟩
    · rcases cloFrom_mem h with h | ⟨h1, h2⟩
      · exact .inl h
      · exact .inr ⟨List.mem_cons_of_mem _ h1, h2⟩
theorem cloFrom_acc {cells : List (Str × Addr)} : ∀ {names : List (Str × NameKind)} {acc : List (Str × Addr)} {p : Str × Addr}, p ∈ acc → p ∈ cloFrom cells names acc
  | [], _, _, h => h
  | (m, k) :: r, acc, p, h => by
    unfold cloFrom
    split
    · exact cloFrom_acc (List.mem_cons_of_mem _ h)
    · exact cloFrom_acc h
theorem cloFrom_has {cells : List (Str × Addr)} : ∀ {names : List (Str × NameKind)} {acc : List (Str × Addr)} {n : Str}, (n, .free) ∈ names → (n, (cells.lookup n).getD 0) ∈ cloFrom cells names acc
  | (m, k) :: r, acc, n, h => by
    unfold cloFrom
    rcases List.mem_cons.mp h with e | h
    · cases e
      exact cloFrom_acc List.mem_cons_self
    · split
      · exact cloFrom_has h
      · exact cloFrom_has h

theorem cells_mem : ∀ {names : List (Str × NameKind)} {h : Heap} {acc : List (Str × Addr)} {x : Str} {c : Addr}, (x, c) ∈ cellsFrom h.objs.size names acc →
    (x, c) ∈ acc ∨ ((x, .cell) ∈ names ∧ h.objs.size ≤ c ∧ CellAt (pushCells h names) c none)
  | [], _, _, _, _, h => .inl h
  | (n, k) :: r, h, acc, x, c, hm => by
    unfold cellsFrom at hm
    unfold pushCells
    split at hm
    · rename_i hk
      rw [if_pos hk]
      have hk : k = .cell := by simpa using hk
      rw [← Heap.size_push h { cls := .type "cell", data := .cell none }] at hm
      rcases cells_mem hm with hm | ⟨h1, h2, h3⟩
      · rcases List.mem_cons.mp hm with e | hm
        · cases e
          exact .inr ⟨hk ▸ List.mem_cons_self, Nat.le_refl _, _, pushCells_keeps r _ _ _ (Heap.get?_push_size _ rfl), rfl⟩
        · exact .inl hm
      · rw [Heap.size_push] at h2
        exact .inr ⟨List.mem_cons_of_mem _ h1, Nat.le_of_succ_le h2, h3⟩
    · rename_i hk
      rw [if_neg hk]
      rcases cells_mem hm with hm | ⟨h1, h2, h3⟩
      · exact .inl hm
      · exact .inr ⟨List.mem_cons_of_mem _ h1, h2, h3⟩
theorem cells_acc : ∀ {names : List (Str × NameKind)} {n : Nat} {acc : List (Str × Addr)} {p : Str × Addr}, p ∈ acc → p ∈ cellsFrom n names acc
  | [], _, _, _, h => h
  | (m, k) :: r, n, acc, p, h => by
    unfold cellsFrom
    split
    · exact cells_acc (List.mem_cons_of_mem _ h)
    · exact cells_acc h
theorem cells_has : ∀ {names : List (Str × NameKind)} {n : Nat} {acc : List (Str × Addr)} {x : Str}, (x, .cell) ∈ names → ∃ c, (x, c) ∈ cellsFrom n names acc
  | (m, k) :: r, n, acc, x, h => by
    unfold cellsFrom
    rcases List.mem_cons.mp h with e | h
    · cases e
      exact ⟨n, cells_acc List.mem_cons_self⟩
    · split
      · exact cells_has h
      · exact cells_has h
theorem cells_inj : ∀ {names : List (Str × NameKind)} {h : Heap} {acc : List (Str × Addr)} {x y : Str} {c : Addr}, (∀ p ∈ acc, p.2 < h.objs.size) → (∀ x y c, (x, c) ∈ acc → (y, c) ∈ acc → x = y) →
    (x, c) ∈ cellsFrom h.objs.size names acc → (y, c) ∈ cellsFrom h.objs.size names acc → x = y
  | [], _, _, _, _, _, _, hi, h1, h2 => hi _ _ _ h1 h2
  | (n, k) :: r, h, acc, x, y, c, hl, hi, h1, h2 => by
    unfold cellsFrom at h1 h2
    split at h1
    · rename_i hk
      rw [if_pos hk] at h2
      rw [← Heap.size_push h { cls := .type "cell", data := .cell none }] at h1 h2
      refine cells_inj (h := h.push _) (fun p hp => ?_) (fun x y c a b => ?_) h1 h2
      · rw [Heap.size_push]
        rcases List.mem_cons.mp hp with rfl | hp
        · exact Nat.lt_succ_self _
        · exact Nat.lt_succ_of_lt (hl p hp)
      · rcases List.mem_cons.mp a with e | a <;> rcases List.mem_cons.mp b with e' | b
        · cases e; cases e'; rfl
        · cases e; exact absurd (hl _ b) (Nat.lt_irrefl _)
        · cases e'; exact absurd (hl _ a) (Nat.lt_irrefl _)
        · exact hi _ _ _ a b
    · rename_i hk
      rw [if_neg hk] at h2
      exact cells_inj hl hi h1 h2

theorem newEnv_comp {M : Model} {A : Around} {E : Value → Shared → Prop} {s : Shared} {scope : Scope} {globals : Addr} {closure : List (Str × Addr)} {qual : Str} {func : Option Addr} {code : Value} {around : Env} {builtins : Addr} {Q : Env → Shared → Prop}
    (h : Q (newEnv scope s.heap.objs.size globals (cellsFrom (s.heap.objs.size + 1) scope.names closure) qual func code (some around) builtins)
      { s with heap := pushCells (s.heap.push { cls := .type "dict", data := .dict #[] }) scope.names }) :
    wpAny M A (newFunctionEnv scope globals closure [] qual func code (some around) builtins) Q E s := by
  simp only [newFunctionEnv, Option.isSome_some, if_true]
  refine wpAny_bind (wpAny_alloc ?_)
  refine wpAny_bind (wpAny_layCells _ (fun n k c => rfl) scope.names closure _ _ ?_)
  rw [show ({ s with heap := s.heap.push { cls := .type "dict", data := .dict #[] } } : Shared).heap.objs.size = s.heap.objs.size + 1 from Heap.size_push ..]
  rw [List.forIn_nil]
  exact wpAny_bind (wpAny_pure (wpAny_pure h))

/-- every name of the written scope, in the scope that runs -/
theorem lookup_relS {sc : Scope} : ∀ {names : List (Str × NameKind)} {x : Str} {k : NameKind},
    (names.map fun (n, k) => if (k == NameKind.free && sc.kind == .function && sc.names.lookup n == some .cell) then (n, NameKind.cell) else (n, k)).lookup x = some k →
    ∃ k', names.lookup x = some k' ∧ (k = k' ∨ (k' = .free ∧ k = .cell))
  | [], _, _, h => by simp at h
  | (n, k₀) :: r, x, k, h => by
    have ih := @lookup_relS sc r x k
    have h' : List.lookup x ((if (k₀ == NameKind.free && sc.kind == .function && sc.names.lookup n == some .cell) = true then (n, NameKind.cell) else (n, k₀)) :: (r.map _)) = some k := h
    cases hx : x == n with
    | true =>
      simp only [List.lookup_cons, hx]
      by_cases hc : (k₀ == NameKind.free && sc.kind == .function && sc.names.lookup n == some .cell) = true
      · rw [if_pos hc] at h'
        simp only [List.lookup_cons, hx] at h'
        cases h'
        simp only [Bool.and_eq_true, beq_iff_eq] at hc
        exact ⟨k₀, rfl, .inr ⟨hc.1.1, rfl⟩⟩
      · rw [if_neg hc] at h'
        simp only [List.lookup_cons, hx] at h'
        cases h'
        exact ⟨_, rfl, .inl rfl⟩
    | false =>
      simp only [List.lookup_cons, hx]
      by_cases hc : (k₀ == NameKind.free && sc.kind == .function && sc.names.lookup n == some .cell) = true
      · rw [if_pos hc] at h'
        simp only [List.lookup_cons, hx] at h'
        exact ih h'
      · rw [if_neg hc] at h'
        simp only [List.lookup_cons, hx] at h'
        exact ih h'
/-- the names of a comprehension's block: its own (with their places in N), or captured -/
structure BlkOk (N : List Str) (sc scope : Scope) (own : List (Str × Nat)) : Prop where
  kind : scope.kind = .function
  uniq : ∀ y ∈ scope.names, scope.names.lookup y.1 = some y.2
  ix : ∀ p ∈ own, N[p.2]? = some p.1
  free : ∀ y ∈ scope.names, y.2 = .free → sc.names.lookup y.1 = some .cell ∨ sc.names.lookup y.1 = some .free
  own : ∀ y ∈ scope.names, y.2 = .local ∨ y.2 = .cell → y.1 ∈ own.map (·.1) ∨ y.1 ∉ N
/-- the slots of the block's own names forgotten -/
def wipe (σ : St) : List Nat → St
  | [] => σ
  | v :: vs => (wipe σ vs).set v none
theorem wipe_length (σ : St) : ∀ vs : List Nat, (wipe σ vs).length = σ.length
  | [] => rfl
  | v :: vs => by unfold wipe; rw [List.length_set, wipe_length σ vs]
theorem wipe_some {σ : St} {i : Nat} {x : V} : ∀ {vs : List Nat}, (wipe σ vs)[i]? = some (some x) → σ[i]? = some (some x) ∧ i ∉ vs
  | [], h => ⟨h, by simp⟩
  | v :: vs, h => by
    unfold wipe at h
    by_cases hi : v = i
    · subst hi
      by_cases hv : v < (wipe σ vs).length
      · rw [List.getElem?_set_self hv] at h; cases h
      · rw [List.getElem?_eq_none (by simpa using hv)] at h; cases h
    · rw [List.getElem?_set_ne hi] at h
      obtain ⟨h1, h2⟩ := wipe_some h
      exact ⟨h1, by simp only [List.mem_cons, not_or]; exact ⟨fun e => hi e.symm, h2⟩⟩

/-- the context of a block that starts at s, its iterator's objects at fp -/
abbrev Cx.blk (X : Cx) (s : Shared) (H : Hp) (scope : Scope) (cenv : Env) (fp : List Addr) : Cx := { X with s_0 := s, H_0 := H, env := cenv, outer := X.stack, ex := fp, fn := fun x => scope.names.lookup x == some .cell, pn := [], xe := fun _ _ => False }
section
variable {X : Cx} {pins : List (Addr × Obj)} {σ : St} {H : Hp} {s : Shared}
theorem block_start {scope : Scope} {own : List (Str × Nat)} {fp : List Addr} (I : Inv X pins σ H s) (ok : BlkOk X.N X.env.scope scope own) (hN : X.N.Nodup) (hfp : ∀ b ∈ fp, FpOk X pins H b ∧ b < s.heap.objs.size) :
    Inv (X.blk s H scope (compEnvC scope (cellsFrom (s.heap.objs.size + 1) scope.names (cloFrom X.env.cells scope.names [])) s.heap.objs.size X.env) fp) [] (wipe σ (own.map (·.2))) H { s with heap := pushCells (s.heap.push { cls := .type "dict", data := .dict #[] }) scope.names } := by
  have hfree : ∀ y ∈ scope.names, y.2 = .free → ∃ c, X.env.cells.lookup y.1 = some c := fun y hy e => by
    rcases ok.free y hy e with k | k
    · exact I.ok.has _ (.inl k)
    · exact I.ok.has _ (.inr k)
  generalize hcenv : compEnvC scope (cellsFrom (s.heap.objs.size + 1) scope.names (cloFrom X.env.cells scope.names [])) s.heap.objs.size X.env = cenv
  have kp : ∀ b o, s.heap.get? b = some o → (pushCells (s.heap.push { cls := .type "dict", data := .dict #[] }) scope.names).get? b = some o := fun b o e => pushCells_keeps _ _ _ _ (Heap.get?_push_of_some _ e)
  have hL : cenv.locals = s.heap.objs.size := by rw [← hcenv]; rfl
  have hcl : cenv.cells = cellsFrom (s.heap.objs.size + 1) scope.names (cloFrom X.env.cells scope.names []) := by rw [← hcenv]; rfl
  have hsc : cenv.scope = relS scope X.env.scope := by rw [← hcenv]; rfl
  rw [← Heap.size_push s.heap { cls := .type "dict", data := .dict #[] }] at hcl
  have cm : ∀ {y c}, (y, c) ∈ cloFrom X.env.cells scope.names [] → X.env.cells.lookup y = some c ∧ c < s.heap.objs.size := fun {y c} hm => by
    rcases cloFrom_mem hm with hm | ⟨h1, rfl⟩
    · cases hm
    · obtain ⟨c, hc⟩ := hfree _ h1 rfl
      rw [hc]
      obtain ⟨w, z⟩ := I.cell _ _ hc
      exact ⟨rfl, z.lt⟩
  have mem : ∀ {y c}, cenv.cells.lookup y = some c → (X.env.cells.lookup y = some c ∧ c < s.heap.objs.size) ∨ (s.heap.objs.size + 1 ≤ c ∧ CellAt (pushCells (s.heap.push { cls := .type "dict", data := .dict #[] }) scope.names) c none) := fun {y c} e => by
    rw [hcl] at e
    rcases cells_mem (PySem.mem_of_lookup e) with hm | ⟨_, h2, h3⟩
    · exact .inl (cm hm)
    · rw [Heap.size_push] at h2; exact .inr ⟨h2, h3⟩
  have look : ∀ {y}, scope.names.lookup y = some .free → ∃ c, cenv.cells.lookup y = some c ∧ X.env.cells.lookup y = some c := fun {y} hl => by
    have hy : (y, NameKind.free) ∈ scope.names := PySem.mem_of_lookup hl
    obtain ⟨c', e'⟩ := mem_lookup (cells_acc (names := scope.names) (n := (s.heap.push { cls := .type "dict", data := .dict #[] }).objs.size) (cloFrom_has (cells := X.env.cells) (acc := []) hy))
    rw [← hcl] at e'
    refine ⟨c', e', ?_⟩
    rw [hcl] at e'
    rcases cells_mem (PySem.mem_of_lookup e') with hm | ⟨h1, _, _⟩
    · exact (cm hm).1
    · have := ok.uniq _ h1
      rw [hl] at this; cases this
  have okB : (X.blk s H scope cenv fp).Ok := by
    refine ⟨I.ok.mod, by show cenv.scope.kind = _; rw [hsc]; exact ok.kind, by show cenv.globals = _; rw [← hcenv]; exact I.ok.glob, by show cenv.builtins = _; rw [← hcenv]; exact I.ok.blt, by show s.heap.objs.size ≤ cenv.locals; rw [hL]; exact Nat.le_refl _,
      fun y z c e1 e2 => ?_, fun y hy => ?_, fun y c z e => ?_, I.ok.hd, I.ok.frames, .inl rfl, fun b hb => ⟨?_, fun y c e z => ?_⟩, I.bs, Nat.le_trans I.ok.bsz I.sz, fun b o e hb => ?_, fun b hb z => ?_, I.stack, I.stkFree⟩
    · have e1 : cenv.cells.lookup y = some c := e1
      have e2 : cenv.cells.lookup z = some c := e2
      rw [hcl] at e1 e2
      refine cells_inj (fun p hp => ?_) (fun y z c a b => I.ok.inj y z c (cm a).1 (cm b).1) (PySem.mem_of_lookup e1) (PySem.mem_of_lookup e2)
      rw [Heap.size_push]
      exact Nat.lt_succ_of_lt (cm (y := p.1) (c := p.2) hp).2
    · show ∃ c, cenv.cells.lookup y = some c
      have key : ∀ k, cenv.kindOf y = some k → (k = .cell ∨ k = .free) → ∃ c, cenv.cells.lookup y = some c := fun k hk hk' => by
        unfold Env.kindOf at hk
        rw [hsc] at hk
        obtain ⟨k', e, r⟩ := lookup_relS hk
        have : k' = .cell ∨ k' = .free := by
          rcases r with rfl | ⟨rfl, _⟩
          · exact hk'
          · exact .inr rfl
        rcases this with rfl | rfl
        · obtain ⟨c, hm⟩ := cells_has (n := (s.heap.push { cls := .type "dict", data := .dict #[] }).objs.size) (acc := cloFrom X.env.cells scope.names []) (PySem.mem_of_lookup e)
          obtain ⟨c', e'⟩ := mem_lookup hm
          exact ⟨c', by rw [hcl]; exact e'⟩
        · obtain ⟨c, h1, _⟩ := look e
          exact ⟨c, h1⟩
      rcases hy with hy | hy
      · exact key _ hy (.inl rfl)
      · exact key _ hy (.inr rfl)
    · have z : (scope.names.lookup y == some NameKind.cell) = true := z
      have z : scope.names.lookup y = some .cell := by simpa using z
      have e : cenv.cells.lookup y = some c := e
      rw [hcl] at e
      rcases cells_mem (PySem.mem_of_lookup e) with hm | ⟨_, h2, _⟩
      · rcases cloFrom_mem hm with hm | ⟨h1, _⟩
        · cases hm
        · have q := ok.uniq _ h1
          rw [z] at q; cases q
      · rw [Heap.size_push] at h2
        exact Nat.le_of_succ_le h2
    · show b ≠ cenv.locals
      rw [hL]; exact Nat.ne_of_lt (hfp b hb).2
    · have e : cenv.cells.lookup y = some c := e
      rcases mem e with ⟨h1, _⟩ | ⟨h1, _⟩
      · exact (hfp b hb).1.2.2.2.2.1 y c h1 z
      · have h2 : s.heap.objs.size + 1 ≤ b := by rw [← z]; exact h1
        exact absurd (Nat.lt_of_lt_of_le (hfp b hb).2 (Nat.le_of_succ_le h2)) (Nat.lt_irrefl _)
    · rcases (hfp b hb).1.2.2.2.1 with z | z
      · exact I.ok.noex b o e z
      · exact absurd (Nat.lt_of_lt_of_le (Heap.lt_size e) (Nat.le_trans I.ok.bsz z)) (Nat.lt_irrefl _)
    · rcases List.mem_cons.mp (I.stkSub b z) with z | z
      · exact (hfp b hb).1.2.1 z
      · exact (hfp b hb).1.2.2.1 z
  refine ⟨okB, rfl, I.bare, Un.kept kp, ⟨fun _ => none, ?_, fun i y av e1 e2 e3 => ?_⟩, fun y c e => ?_, ?_, fun y c e => ?_, fun p hp => ?_, I.hok.kept kp, by rw [wipe_length]; exact I.len, I.tk⟩
  · show Heap.Ns _ cenv.locals _
    rw [hL]
    exact Heap.Ns.keeps (Heap.Ns.new ..) fun b o e => pushCells_keeps _ _ _ _ e
  · obtain ⟨e2, hne⟩ := wipe_some e2
    have hfr : scope.names.lookup y = some .free ∧ (cenv.kindOf y = some .cell ∨ cenv.kindOf y = some .free) := by
      have key : ∀ k, cenv.scope.names.lookup y = some k → k = .local ∨ k = .cell ∨ k = .free → scope.names.lookup y = some .free ∧ (cenv.kindOf y = some .cell ∨ cenv.kindOf y = some .free) := fun k hk hk' => by
        have hk0 := hk
        rw [hsc] at hk
        obtain ⟨k', e, r⟩ := lookup_relS hk
        have no : ¬ (k' = .local ∨ k' = .cell) := fun hh => by
          rcases ok.own _ (PySem.mem_of_lookup e) hh with e' | e'
          · obtain ⟨p, hp, hpy⟩ := List.mem_map.mp e'
            have e3 := ok.ix p hp
            have : p.1 = y := hpy
            rw [this] at e3
            exact hne (List.mem_map.mpr ⟨p, hp, nodup_ix hN e3 e1⟩)
          · exact e' (List.mem_of_getElem? e1)
        rcases r with rfl | ⟨rfl, rfl⟩
        · rcases hk' with rfl | rfl | rfl
          · exact absurd (.inl rfl) no
          · exact absurd (.inr rfl) no
          · exact ⟨e, .inr hk0⟩
        · exact ⟨e, .inl hk0⟩
      have e3 : Vis cenv.scope y := e3
      rcases e3 with e3 | e3 | e3
      · exact key _ e3 (.inl rfl)
      · exact key _ e3 (.inr (.inl rfl))
      · exact key _ e3 (.inr (.inr rfl))
    obtain ⟨m, hn, hl⟩ := I.loc
    have hvis : Vis X.env.scope y := (ok.free _ (PySem.mem_of_lookup hfr.1) rfl).elim (fun k => .inr (.inl k)) (fun k => .inr (.inr k))
    obtain ⟨w, r, q⟩ := hl i y av e1 e2 hvis
    refine ⟨w, r, .inr ⟨hfr.2, ?_⟩⟩
    obtain ⟨c, h1, h2⟩ := look hfr.1
    rcases q with ⟨k, _⟩ | ⟨_, c', e', z⟩
    · have k : X.env.scope.names.lookup y = some .local := k
      rcases ok.free _ (PySem.mem_of_lookup hfr.1) rfl with k' | k' <;> rw [show X.env.scope.names.lookup y = _ from k'] at k <;> cases k
    · rw [h2] at e'; cases e'
      exact ⟨c, h1, z.keeps kp⟩
  · have e : cenv.cells.lookup y = some c := e
    rcases mem e with ⟨h1, _⟩ | ⟨_, z⟩
    · obtain ⟨w, z⟩ := I.cell y c h1
      exact ⟨w, z.keeps kp⟩
    · exact ⟨_, z⟩
  · show H cenv.locals = none
    rw [hL]; exact I.hok.fresh (Nat.le_refl _)
  · have e : cenv.cells.lookup y = some c := e
    rcases mem e with ⟨h1, _⟩ | ⟨h1, _⟩
    · exact I.freeC y c h1
    · exact I.hok.fresh (Nat.le_of_succ_le h1)
  · exact absurd (show p ∈ ([] : List (Addr × Obj)) ++ [] from hp) (by simp)

/-- an item appended to a tracked list -/
theorem app_ok {E : Value → Shared → Prop} {D : Addr} {xs : List V} {y : V} {v : Value} {Q : Value → Shared → Prop} (I : Inv X pins σ H s) (hD : H D = some (.lst xs)) (hz : xs.length < sizeLine) (r : RelV y v)
    (h : ∀ s', Inv X pins σ (upd H D (.lst (xs ++ [y]))) s' → Q .none s') : wpAny (model X.prog X.w) X.A (call (.builtin "list.append") [.ref D, v]) Q E s := by
  obtain ⟨hz', its, n, ri, e⟩ := I.hok D _ hD
  have hl := ri.length
  refine append_at (hsz := by rw [List.size_toArray]; omega) e fun h' sb ho' => ?_
  refine h { s with heap := h' } (I.write (t' := s.toks) (by rw [hD]; trivial) (.inl rfl) (fun b u hb q => (sb.2 b hb).trans q) ⟨_, ho'⟩ ⟨by rw [List.length_append]; exact hz, its ++ [v], n + 1, ri.append (.cons r .nil), ?_⟩)
  rw [ho']
  simp

/-- a clause's tests -/
def PTs (X : Cx) (ifs : List Expr) (t : TT) : Prop :=
  ∀ (pins : List (Addr × Obj)) (s : Shared) (σ : St) (H : Hp) (Q : Bool → Hp → Prop), Inv X pins σ H s → t σ H Q →
    wpAny (model X.prog X.w) X.A (forIn ifs true fun c r => if r = true then do let ok ← isTrue c X.env (eval c X.env); pure (ForInStep.yield ok) else pure (ForInStep.yield r)) (TP X pins σ Q) X.xe s
def tYes : TT := fun _ H Q => Q true H
theorem pts_nil : PTs X [] tYes := fun _ _ _ H _ I h => wpAny_tests_nil ⟨H, I, h⟩
theorem pts_one {c : Expr} {t : TT} (h : PT X c t) : PTs X [c] t := fun pins s σ H Q I hw => wpAny_tests_one (h pins s σ H Q I hw)
end

theorem thnF {α : Type} {t : Sem α} {Q Q' : α → Shared → Prop} {M : Model} {A : Around} {E : Value → Shared → Prop} {s : Shared} (h : wpAny M A t Q (fun _ _ => False) s) (hQ : ∀ a s, Q a s → Q' a s) : wpAny M A t Q' E s := wpAny_mono h hQ fun _ _ z => False.elim z

/-- the loop of a list comprehension's block, the target of any form (codeAny_compLoop_tests asks a target that no tuple goes to; statement and proof follow it, PyProof/CompMap.lean:41-61, with the step letOwnedTupleGo kept) -/
theorem compLoop_any {prog : Program} {w : World} {A : Around} {R : Result → Shared → Prop} {s : Shared} {elt target iter : Expr} {ifs : List Expr} {scope : Scope} {pos : Pos} {it acc : Value} {env : Env} (I : Nat → Shared → Prop)
    (turn : ∀ n s, I n s → wpAny (model prog w) A (pyNext it) (fun r s₁ => match r with
      | none => R (.ok .next) s₁
      | some v => wpAny (model prog w) A (letOwnedTupleGo target it v) (fun _ s₁' => wpAny (model prog w) A (assign target env v) (fun _ s₂ =>
          wpAny (model prog w) A (forIn ifs true fun c r => if r = true then do let ok ← isTrue c env (eval c env); pure (ForInStep.yield ok) else pure (ForInStep.yield r)) (fun ok s₃ =>
            if ok = true then wpAny (model prog w) A (eval elt env) (fun x s₄ =>
              wpAny (model prog w) A (call (.builtin "list.append") [acc, x]) (fun _ s₅ => ∃ m, m < n ∧ I m s₅) (notedBy (model prog w) A env fun e s' => R (.error e) s') s₄) (notedBy (model prog w) A env fun e s' => R (.error e) s') s₃
            else ∃ m, m < n ∧ I m s₃) (notedBy (model prog w) A env fun e s' => R (.error e) s') s₂) (notedBy (model prog w) A env fun e s' => R (.error e) s') s₁') (notedBy (model prog w) A env fun e s' => R (.error e) s') s₁) (notedBy (model prog w) A env fun e s' => R (.error e) s') s)
    (n : Nat) (h : I n s) :
    codeAny (model prog w) A (.compLoop (.ListComp elt [⟨target, iter, ifs, 0⟩] scope pos) 0 it acc env) R s := by
  refine codeAny_loop rfl I (fun n s hI => ?_) n h
  show wpAny _ A ((compTurn (.ListComp elt [⟨target, iter, ifs, 0⟩] scope pos) 0 it acc env).onRaise (fun x => do noteFrame x env; theTreesLotGoes x)) _ _ s
  refine wpAny_noted ?_
  rw [compTurn_list]
  refine wpAny_bind (wpAny_standAt (wpAny_bind (wpAny_mono (turn n s hI) (fun r s₁ h₁ => ?_) fun _ _ h' => h')))
  cases r with
  | none => exact wpAny_pure h₁
  | some v =>
    refine wpAny_bind (wpAny_mono h₁ (fun _ s₁' h₁' => ?_) fun _ _ h' => h')
    refine wpAny_bind (wpAny_mono h₁' (fun _ s₂ h₂ => wpAny_bind (wpAny_mono h₂ (fun ok s₃ h₃ => ?_) fun _ _ h' => h')) fun _ _ h' => h')
    cases ok with
    | false => exact wpAny_pure ⟨rfl, h₃⟩
    | true =>
      exact wpAny_bind (wpAny_bind (wpAny_mono h₃ (fun x s₄ h₄ => wpAny_bind (wpAny_mono h₄ (fun _ s₅ h₅ => wpAny_pure (wpAny_pure ⟨rfl, h₅⟩)) fun _ _ h' => h')) fun _ _ h' => h'))

section
variable {X : Cx}
/-- [elt for target in iter if ..]: D the new list; W by the turn and a measure, Nx what a turn is to reach -/
def tLc (wi : TI) (g : TG) (tt : TT) (te : TE) (vs : List Nat) : TE := fun σ H Q => wi σ H fun J H1 => ∀ D, H1 D = none → ∃ W : Nat → Nat → Hp → Prop, (∃ m, W 0 m (upd H1 D (.lst []))) ∧ ∀ i m H, W i m H →
  (J.stop i H ∧ Q (.ref D) H) ∨ (J.go i H ∧ ∃ Nx : Hp → Prop, (∀ H', Nx H' → ∃ m', m' < m ∧ W (i + 1) m' H') ∧ ∀ x H', J.yld i H x H' → g x (wipe σ vs) H' fun σ2 H2 => wipe σ2 vs = wipe σ vs ∧ tt σ2 H2 fun b H3 =>
    if b = true then te σ2 H3 fun y H4 => ∃ acc, H4 D = some (.lst acc) ∧ acc.length < sizeLine ∧ Nx (upd H4 D (.lst (acc ++ [y]))) else Nx H3)
theorem lc_core {pins : List (Addr × Obj)} {s : Shared} {σ : St} {H : Hp} {Q : VK} {elt tg iter : Expr} {ifs : List Expr} {scope : Scope} {own : List (Str × Nat)} {pos pos' : Pos} {wi : TI} {g : TG} {tt : TT} {te : TE} {use : Option (Value → Sem Unit)} {Qf : Value → Shared → Prop}
    (hc : X.calm = true) (hN : X.N.Nodup) (I : Inv X pins σ H s) (hi : PI X tg iter wi) (ok : BlkOk X.N X.env.scope scope own)
    (hg : ∀ (s : Shared) (H : Hp) (C : Addr) (cl : List (Str × Addr)) (fp : List Addr), PG (X.blk s H scope (compEnvC scope cl C X.env) fp) tg g) (ht : ∀ (s : Shared) (H : Hp) (C : Addr) (cl : List (Str × Addr)) (fp : List Addr), PTs (X.blk s H scope (compEnvC scope cl C X.env) fp) ifs tt)
    (he : ∀ (s : Shared) (H : Hp) (C : Addr) (cl : List (Str × Addr)) (fp : List Addr), PE (X.blk s H scope (compEnvC scope cl C X.env) fp) elt te) (hs : ∀ x, foldedSetIterable iter X.env x = pure x)
    (h : tLc wi g tt te (own.map (·.2)) σ H Q)
    (hRR : ∀ D C s' m H', Inv X pins σ H' s' → Q (.ref D) H' → s'.heap.Ns C m → FpOk X pins H' C → compPost (model X.prog X.w) X.A X.xe use Qf (.ref D) C (.ok .next) s') :
    wpAny (model X.prog X.w) X.A (comprehension (.ListComp elt [⟨tg, iter, ifs, 0⟩] scope pos) scope X.env pos' (newList []) false (eval iter X.env) use) Qf X.xe s := by
  have hfree : ∀ y ∈ scope.names, y.2 = .free → ∃ c, X.env.cells.lookup y.1 = some c := fun y hy e => by
    rcases ok.free y hy e with k | k
    · exact I.ok.has _ (.inl k)
    · exact I.ok.has _ (.inr k)
  refine wpAny_comprehension_free (use := use) rfl hs (closure_ok hfree) ok.kind (fun y hy e => by rw [ok.uniq y hy, e])
    (thn (hi pins s σ H _ I h) fun xv s1 hx => thn hx fun itv s2 h2 => ?_)
  obtain ⟨it, fp, tn, J, H2, e, I2, T, st2, f2, q⟩ := h2
  subst e
  refine wpAny_newObj_type (newEnv_comp ?_) (by show 0 ≤ sizeLine; decide)
  generalize hD : s2.heap.objs.size = D
  have hDn : H2 D = none := I2.hok.fresh (Nat.le_of_eq hD)
  obtain ⟨W, ⟨m0, w0⟩, turn⟩ := q D hDn
  -- the new list
  generalize hs3 : ({ s2 with heap := s2.heap.push { cls := .type "list", data := .seq ([] : List Value).toArray } } : Shared) = s3
  have I3 : Inv X pins σ (upd H2 D (.lst [])) s3 := by
    rw [← hs3]
    refine I2.laid (t' := s2.toks) (fun b o e => Heap.get?_push_of_some _ e) (Nat.le_of_eq hD) ⟨Nat.zero_le _, [], 0, .nil, ?_⟩
    rw [← hD]
    exact Heap.get?_push_size _ rfl
  have h3 : s3.heap = s2.heap.push { cls := .type "list", data := .seq ([] : List Value).toArray } := by rw [← hs3]
  have sz : ∀ b ∈ fp, b < s2.heap.objs.size := fun b hb => by
    obtain ⟨o, e, _⟩ := T.obj _ _ st2 b hb
    exact Heap.lt_size e
  have f3 : ∀ b ∈ fp, FpOk X pins (upd H2 D (.lst [])) b ∧ b < s3.heap.objs.size := fun b hb => by
    have hlt := sz b hb
    refine ⟨⟨?_, (f2 b hb).2⟩, by rw [h3, Heap.size_push]; exact Nat.lt_succ_of_lt hlt⟩
    rw [upd_ne (by rw [← hD]; exact Nat.ne_of_lt hlt)]
    exact (f2 b hb).1
  have st3 : tn 0 s3.heap := T.keep _ _ _ st2 fun b _ o e => by rw [h3]; exact Heap.get?_push_of_some _ e
  have I4 := block_start I3 ok hN f3
  have pg := hg s3 (upd H2 D (.lst [])) s3.heap.objs.size (cellsFrom (s3.heap.objs.size + 1) scope.names (cloFrom X.env.cells scope.names [])) fp
  have pt := ht s3 (upd H2 D (.lst [])) s3.heap.objs.size (cellsFrom (s3.heap.objs.size + 1) scope.names (cloFrom X.env.cells scope.names [])) fp
  have pe := he s3 (upd H2 D (.lst [])) s3.heap.objs.size (cellsFrom (s3.heap.objs.size + 1) scope.names (cloFrom X.env.cells scope.names [])) fp
  show codeAny _ _ (.compStart (.ListComp elt [⟨tg, iter, ifs, 0⟩] scope pos) 0 (.ref it) (.ref D) (compEnvC scope (cellsFrom (s3.heap.objs.size + 1) scope.names (cloFrom X.env.cells scope.names [])) s3.heap.objs.size X.env)) (compPost (model X.prog X.w) X.A X.xe use Qf (.ref D) s3.heap.objs.size) { s3 with heap := pushCells (s3.heap.push { cls := .type "dict", data := .dict #[] }) scope.names }
  have nfp : ∀ b ∈ fp, (upd H2 D (.lst [])) b = none := fun b hb => (f3 b hb).1.1
  generalize hce : compEnvC scope (cellsFrom (s3.heap.objs.size + 1) scope.names (cloFrom X.env.cells scope.names [])) s3.heap.objs.size X.env = ce at I4 pg pt pe ⊢
  have cL : ce.locals = s3.heap.objs.size := by subst hce; rfl
  generalize hH3 : upd H2 D (.lst []) = H3 at I3 I4 pg pt pe w0 nfp f3
  generalize hs4 : ({ s3 with heap := pushCells (s3.heap.push { cls := .type "dict", data := .dict #[] }) scope.names } : Shared) = s4 at I4 ⊢
  have st4 : tn 0 s4.heap := T.keep _ _ _ st3 fun b _ o e => by rw [← hs4]; exact pushCells_keeps _ _ _ _ (Heap.get?_push_of_some _ e)
  have stat : ∀ {σ' : St} {H' : Hp} {s' : Shared}, Inv (X.blk s3 H3 scope ce fp) [] σ' H' s' → (∀ b ∈ fp, H' b = none) → ∀ b ∈ fp, FpOk (X.blk s3 H3 scope ce fp) [] H' b := fun {σ' H' s'} I' hn b hb =>
    ⟨hn b hb, (I'.ok.exf b hb).1, I'.ok.exfs b hb, .inl hb, fun x c e => (I'.ok.exf b hb).2 x c e, fun p hp => absurd (show p ∈ ([] : List (Addr × Obj)) ++ [] from hp) (by simp)⟩
  have loop : codeAny (model X.prog X.w) X.A (.compLoop (.ListComp elt [⟨tg, iter, ifs, 0⟩] scope pos) 0 (.ref it) (.ref D) ce) (compPost (model X.prog X.w) X.A X.xe use Qf (.ref D) s3.heap.objs.size) s4 := by
    refine compLoop_any (fun n s' => ∃ i H', Inv (X.blk s3 H3 scope ce fp) [] (wipe σ (own.map (·.2))) H' s' ∧ tn i s'.heap ∧ (∀ b ∈ fp, H' b = none) ∧ W i n H') ?_ m0 ⟨0, H3, I4, st4, nfp, w0⟩
    rintro n s5 ⟨i, H5, I5, st5, n5, w5⟩
    rcases turn i n H5 w5 with ⟨stop, qq⟩ | ⟨go, Nx, hNx, step⟩
    · have td := T.done (X.blk s3 H3 scope ce fp) rfl rfl rfl hc i [] s5 _ H5 (fun _ _ => False) I5 (stat I5 n5) st5 stop
      refine thnF td fun r s6 ⟨hr, I6⟩ => ?_
      subst hr
      -- back in the def's context
      have I7 : Inv X pins σ H5 s6 := I3.call' (ch := fp) (ht := I6.tk) I6.os I6.base I6.hok I6.bare fun b hb => ⟨(f3 b hb).1.2.2.2.1, (f3 b hb).1.2.1, (f3 b hb).1.2.2.2.2.1, (f3 b hb).1.2.2.2.2.2⟩
      have nC : H5 s3.heap.objs.size = none := by
        have z : H5 ce.locals = none := I6.free
        rw [cL] at z
        exact z
      obtain ⟨m, hn, _⟩ := I6.loc
      have hn : s6.heap.Ns ce.locals m := hn
      rw [cL] at hn
      exact hRR D s3.heap.objs.size s6 m H5 I7 qq hn (I3.fpOk (Nat.le_refl _) nC)
    · have ti := T.item (X.blk s3 H3 scope ce fp) rfl rfl rfl hc i [] s5 _ H5 (fun _ _ => False) I5 (stat I5 n5) st5 go
      refine thnF ti fun r s6 ⟨u, hr, h6⟩ => ?_
      subst hr
      refine thnF h6 fun _ s7 ⟨x, H7, I7, r7, y7, st7, n7⟩ => ?_
      have I7' := I7.pinned (stat I7 n7) (T.obj _ _ st7)
      refine thnF (pg _ s7 _ H7 x u _ I7' r7 (step x H7 y7)) fun _ s8 ⟨σ8, H8, I8, hw8, q8⟩ => ?_
      refine thnF (pt _ s8 σ8 H8 _ I8 q8) fun b s9 ⟨H9, I9, q9⟩ => ?_
      -- the turn's end
      have fin : ∀ {s' : Shared} {H' : Hp}, Inv (X.blk s3 H3 scope ce fp) ([] ++ pinsAt fp s7.heap) σ8 H' s' → Nx H' → ∃ m, m < n ∧ ∃ i H', Inv (X.blk s3 H3 scope ce fp) [] (wipe σ (own.map (·.2))) H' s' ∧ tn i s'.heap ∧ (∀ b ∈ fp, H' b = none) ∧ W i m H' := fun {s' H'} I' nx => by
        obtain ⟨m', hm, w'⟩ := hNx H' nx
        have pin' : ∀ b ∈ fp, ∀ o, s7.heap.get? b = some o → s'.heap.get? b = some o ∧ H' b = none := fun b hb o e =>
          let z := I'.pin (b, o) (List.mem_append_right _ (List.mem_append_right _ (mem_pinsAt hb e)))
          ⟨z.1, z.2.1⟩
        have hl : (wipe σ (own.map (·.2))).length = σ8.length := by rw [← hw8, wipe_length]
        refine ⟨m', hm, i + 1, H', (I'.unpinned (pins := [])).weak hl (fun j v e => ?_), T.keep _ _ _ st7 fun b hb o e => (pin' b hb o e).1, fun b hb => ?_, w'⟩
        · rw [← hw8] at e
          exact (wipe_some e).1
        · obtain ⟨o, e, _⟩ := T.obj _ _ st7 b hb
          exact (pin' b hb o e).2
      cases b with
      | false =>
        simp only [Bool.false_eq_true, if_false] at q9 ⊢
        exact fin I9 q9
      | true =>
        simp only [if_true] at q9 ⊢
        refine thnF (pe _ s9 σ8 H9 _ I9 q9) fun z s10 ⟨yv, H10, I10, r10, acc, hD10, hz10, nx⟩ => ?_
        exact app_ok (X := X.blk s3 H3 scope ce fp) I10 hD10 hz10 r10 fun s11 I11 => fin I11 nx
  exact codeAny_compStart_list loop (T.self X.A 0 _ _ _ st4 loop)
/-- as a value -/
theorem pe_lc {elt tg iter : Expr} {ifs : List Expr} {scope : Scope} {own : List (Str × Nat)} {pos : Pos} {wi : TI} {g : TG} {tt : TT} {te : TE} (hc : X.calm = true) (hN : X.N.Nodup) (hi : PI X tg iter wi) (ok : BlkOk X.N X.env.scope scope own)
    (hg : ∀ (s : Shared) (H : Hp) (C : Addr) (cl : List (Str × Addr)) (fp : List Addr), PG (X.blk s H scope (compEnvC scope cl C X.env) fp) tg g) (ht : ∀ (s : Shared) (H : Hp) (C : Addr) (cl : List (Str × Addr)) (fp : List Addr), PTs (X.blk s H scope (compEnvC scope cl C X.env) fp) ifs tt)
    (he : ∀ (s : Shared) (H : Hp) (C : Addr) (cl : List (Str × Addr)) (fp : List Addr), PE (X.blk s H scope (compEnvC scope cl C X.env) fp) elt te) (hs : ∀ x, foldedSetIterable iter X.env x = pure x := by intro _; rfl) :
    PE X (.ListComp elt [⟨tg, iter, ifs, 0⟩] scope pos) (tLc wi g tt te (own.map (·.2))) := by
  intro pins s σ H Q I h
  rw [eval_ListComp]
  refine lc_core hc hN I hi ok hg ht he hs h fun D C s' m H' I' q hn f => ⟨m, hn, fun h'' sb => ?_⟩
  obtain ⟨f0, f1, f2, f3, f4, f5⟩ := f
  exact ⟨.ref D, H', I'.turned (t' := s'.toks) (fun b o hb e => (sb.2 b hb).trans e) f0 f1 f3 f4 f5, rfl, q⟩
end

/-! ### the forms one uses -/
def blkC (N : List Str) (sc scope : Scope) (own : List (Str × Nat)) : Bool :=
  (match scope.kind with | .function => true | _ => false) && (scope.names.all fun y => decide (scope.names.lookup y.1 = some y.2)) && (own.all fun p => decide (N[p.2]? = some p.1)) &&
    (scope.names.all fun y => match y.2 with
      | .free => (match sc.names.lookup y.1 with | some .cell => true | some .free => true | _ => false)
      | .local => decide (y.1 ∈ own.map (·.1)) || decide (y.1 ∉ N)
      | .cell => decide (y.1 ∈ own.map (·.1)) || decide (y.1 ∉ N)
      | _ => true)
theorem blkOk_by {N : List Str} {sc scope : Scope} {own : List (Str × Nat)} (h : blkC N sc scope own = true) : BlkOk N sc scope own := by
  unfold blkC at h
  simp only [Bool.and_eq_true, List.all_eq_true, decide_eq_true_eq] at h
  obtain ⟨⟨⟨h1, h2⟩, h3⟩, h4⟩ := h
  refine ⟨?_, h2, h3, fun y hy e => ?_, fun y hy e => ?_⟩
  · split at h1
    · assumption
    · cases h1
  · have q := h4 y hy
    simp only [e] at q
    split at q <;> first | exact .inl (by assumption) | exact .inr (by assumption) | cases q
  · have q := h4 y hy
    rcases e with e | e <;> (simp only [e, Bool.or_eq_true, decide_eq_true_eq] at q; exact q)
end L2

namespace L2
open PySem PySem.Spec PyProof.Rows

section
variable {prog : Program} {w : World} {A : Around} {R : Result → Shared → Prop} {s : Shared} {elt t0 i0 t1 i1 : Expr} {ifs0 ifs1 : List Expr} {scope : Scope} {pos : Pos} {it acc : Value} {env : Env}
end

theorem wipe_out {σ : St} {i : Nat} : ∀ {vs : List Nat}, i ∉ vs → (wipe σ vs)[i]? = σ[i]?
  | [], _ => rfl
  | v :: vs, h => by
    have h1 : v ≠ i := fun e => h (by rw [e]; exact List.mem_cons_self)
    have h2 : i ∉ vs := fun m => h (List.mem_cons_of_mem _ m)
    unfold wipe
    rw [List.getElem?_set_ne h1]
    exact wipe_out h2
section
variable {X : Cx}
/-- [elt for tg in iter if .. for tg1 in iter1 if ..]: behind the first clause's store and tests the second source's own loop, from which Nx is reached. vs: the block's names; vs1: those of the second target -/
def tLc2 (wi : TI) (g : TG) (tt : TT) (wi1 : TI) (g1 : TG) (tt1 : TT) (te : TE) (vs vs1 : List Nat) : TE := fun σ H Q => wi σ H fun J H1 => ∀ D, H1 D = none → ∃ W : Nat → Nat → Hp → Prop, (∃ m, W 0 m (upd H1 D (.lst []))) ∧ ∀ i m H, W i m H →
  (J.stop i H ∧ Q (.ref D) H) ∨ (J.go i H ∧ ∃ Nx : Hp → Prop, (∀ H', Nx H' → ∃ m', m' < m ∧ W (i + 1) m' H') ∧ ∀ x H', J.yld i H x H' → g x (wipe σ vs) H' fun σ2 H2 => wipe σ2 vs = wipe σ vs ∧ tt σ2 H2 fun b H3 =>
    if b = true then wi1 σ2 H3 fun J1 H4 => ∃ W1 : Nat → Nat → Hp → Prop, (∃ m, W1 0 m H4) ∧ ∀ j k H, W1 j k H →
      (J1.stop j H ∧ Nx H) ∨ (J1.go j H ∧ ∃ Nx1 : Hp → Prop, (∀ H', Nx1 H' → ∃ k', k' < k ∧ W1 (j + 1) k' H') ∧ ∀ x H', J1.yld j H x H' → g1 x (wipe σ2 vs1) H' fun σ3 H5 => wipe σ3 vs1 = wipe σ2 vs1 ∧ tt1 σ3 H5 fun b H6 =>
        if b = true then te σ3 H6 fun y H7 => ∃ acc, H7 D = some (.lst acc) ∧ acc.length < sizeLine ∧ Nx1 (upd H7 D (.lst (acc ++ [y]))) else Nx1 H6)
    else Nx H3)
end
end L2

namespace L2
open PySem PySem.Spec PyProof.Rows

/-! ### lists of pairs as tables -/
section
variable {κ : Type} [DecidableEq κ]
def valV (kvs : List (κ × V)) (k : κ) : Option V := (kvs.find? fun kv => decide (kv.1 = k)).map (·.2)
/-- in its place, or at the end -/
def putK (kvs : List (κ × V)) (k : κ) (v : V) : List (κ × V) :=
  if (kvs.any fun kv => decide (kv.1 = k)) = true then kvs.map (fun kv => if kv.1 = k then (kv.1, v) else kv) else kvs ++ [(k, v)]
def dropK (kvs : List (κ × V)) (k : κ) : List (κ × V) := kvs.filter fun kv => decide (kv.1 ≠ k)

theorem valV_pos {p : κ × V} {r : List (κ × V)} {k : κ} (e : p.1 = k) : valV (p :: r) k = some p.2 := by simp [valV, List.find?_cons, e]
theorem valV_neg {p : κ × V} {r : List (κ × V)} {k : κ} (e : ¬ p.1 = k) : valV (p :: r) k = valV r k := by simp [valV, List.find?_cons, e]
theorem valV_any (k : κ) : ∀ kvs : List (κ × V), (kvs.any fun kv => decide (kv.1 = k)) = (valV kvs k).isSome
  | [] => rfl
  | p :: r => by
    rw [List.any_cons]
    by_cases e : p.1 = k
    · simp only [valV_pos e, decide_eq_true e, Bool.true_or, Option.isSome_some]
    · rw [valV_neg e, decide_eq_false e, Bool.false_or]; exact valV_any k r
theorem RelO.isSome_eq {o : Option V} {u : Option Value} (r : RelO o u) : o.isSome = u.isSome := by
  cases o with
  | none => cases u with
    | none => rfl
    | some _ => exact (show False from r).elim
  | some _ => cases u with
    | none => exact (show False from r).elim
    | some _ => rfl
theorem RelO.getD {o : Option V} {u : Option Value} {d : V} {d' : Value} (r : RelO o u) (rd : RelV d d') : RelV (o.getD d) (u.getD d') := by
  cases o with
  | none => cases u with
    | none => exact rd
    | some _ => exact (show False from r).elim
  | some _ => cases u with
    | none => exact (show False from r).elim
    | some _ => exact r

/-- raw tables of the same keys -/
theorem KV.val {kvs : List (κ × V)} {vs : List (κ × Value)} (r : KV kvs vs) (k : κ) : RelO (valV kvs k) (valueAt vs k) := by
  unfold KV at r
  induction r with
  | nil => exact True.intro
  | @cons p q ps qs h t ih =>
    obtain ⟨h1, h2⟩ := h
    by_cases e : p.1 = k
    · have e' : q.1 = k := h1.symm.trans e
      have b : valueAt (q :: qs) k = some q.2 := by simp [valueAt, List.find?_cons, e']
      rw [valV_pos e, b]; exact h2
    · have e' : ¬ q.1 = k := fun z => e (h1.trans z)
      have b : valueAt (q :: qs) k = valueAt qs k := by simp [valueAt, List.find?_cons, e']
      rw [valV_neg e, b]; exact ih
theorem KV.any {kvs : List (κ × V)} {vs : List (κ × Value)} (r : KV kvs vs) (k : κ) : (kvs.any fun kv => decide (kv.1 = k)) = vs.any fun kv => decide (kv.1 = k) := by
  unfold KV at r
  induction r with
  | nil => rfl
  | cons h t ih => rw [List.any_cons, List.any_cons, ih, h.1]
theorem KV.repl {kvs : List (κ × V)} {vs : List (κ × Value)} (r : KV kvs vs) (k : κ) {y : V} {u : Value} (ry : RelV y u) :
    KV (kvs.map fun kv => if kv.1 = k then (kv.1, y) else kv) (vs.map fun kv => if kv.1 = k then (kv.1, u) else kv) := by
  unfold KV at r ⊢
  induction r with
  | nil => exact .nil
  | @cons p q ps qs h t ih =>
    rw [List.map_cons, List.map_cons]
    refine .cons ?_ ih
    obtain ⟨h1, h2⟩ := h
    by_cases e : p.1 = k
    · rw [if_pos e, if_pos (h1.symm.trans e)]; exact ⟨h1, ry⟩
    · rw [if_neg e, if_neg (fun z => e (h1.trans z))]; exact ⟨h1, h2⟩
theorem KV.put {kvs : List (κ × V)} {vs : List (κ × Value)} (r : KV kvs vs) (k : κ) {y : V} {u : Value} (ry : RelV y u) : KV (putK kvs k y) (stored vs k u) := by
  unfold putK stored
  rw [r.any k]
  by_cases e : (vs.any fun kv => decide (kv.1 = k)) = true
  · rw [if_pos e, if_pos e]; exact r.repl k ry
  · rw [if_neg e, if_neg e]; exact Paired.snoc r ⟨rfl, ry⟩
theorem KV.drop {kvs : List (κ × V)} {vs : List (κ × Value)} (r : KV kvs vs) (k : κ) : KV (dropK kvs k) (without vs k) := by
  unfold KV at r ⊢
  unfold dropK without
  induction r with
  | nil => exact .nil
  | @cons p q ps qs h t ih =>
    obtain ⟨h1, h2⟩ := h
    rw [List.filter_cons, List.filter_cons]
    by_cases e : p.1 = k
    · have a : ¬ decide (p.1 ≠ k) = true := by simp [e]
      have b : ¬ decide (q.1 ≠ k) = true := by simp [h1.symm.trans e]
      rw [if_neg a, if_neg b]; exact ih
    · have e' : ¬ q.1 = k := fun z => e (h1.trans z)
      have a : decide (p.1 ≠ k) = true := by simp [e]
      have b : decide (q.1 ≠ k) = true := by simp [e']
      rw [if_pos a, if_pos b]; exact .cons ⟨h1, h2⟩ ih
theorem KV.keys {kvs : List (κ × V)} {vs : List (κ × Value)} (r : KV kvs vs) : kvs.map (·.1) = vs.map (·.1) := by
  unfold KV at r
  induction r with
  | nil => rfl
  | cons h t ih => rw [List.map_cons, List.map_cons, ih, h.1]
theorem KV.length {kvs : List (κ × V)} {vs : List (κ × Value)} (r : KV kvs vs) : kvs.length = vs.length := Paired.length r
end


/-! ### a tracked dict, its keys ints and texts or tuples of these -/
/-- raw entries of a dict with tuple keys -/
abbrev KT (H : Hp) : List (List Key × V) → List (List Key × Addr × Value) → Prop := Paired fun p q => p.1 = q.1 ∧ H q.2.1 = some (.tup (p.1.map kV)) ∧ RelV p.2 q.2.2
theorem KT.val {H : Hp} {kvs : List (List Key × V)} {xs : List (List Key × Addr × Value)} (r : KT H kvs xs) (k : List Key) : RelO (valV kvs k) ((atKey xs k).map (·.2)) := by
  induction r with
  | nil => exact True.intro
  | @cons p q ps qs h t ih =>
    obtain ⟨h1, _, h2⟩ := h
    by_cases e : p.1 = k
    · have e' : q.1 = k := h1.symm.trans e
      have b : atKey (q :: qs) k = some q.2 := by simp [atKey, List.find?_cons, e']
      rw [valV_pos e, b]; exact h2
    · have e' : ¬ q.1 = k := fun z => e (h1.trans z)
      have b : atKey (q :: qs) k = atKey qs k := by simp [atKey, List.find?_cons, e']
      rw [valV_neg e, b]; exact ih
theorem KT.repl {H : Hp} {kvs : List (List Key × V)} {xs : List (List Key × Addr × Value)} (r : KT H kvs xs) (k : List Key) {y : V} {u : Value} (ry : RelV y u) :
    KT H (kvs.map fun kv => if kv.1 = k then (kv.1, y) else kv) (xs.map (putAt k u)) := by
  induction r with
  | nil => exact .nil
  | @cons p q ps qs h t ih =>
    rw [List.map_cons, List.map_cons]
    refine .cons ?_ ih
    obtain ⟨h1, h2, h3⟩ := h
    unfold putAt
    by_cases e : p.1 = k
    · rw [if_pos e, if_pos (h1.symm.trans e)]; exact ⟨h1, h2, ry⟩
    · rw [if_neg e, if_neg (fun z => e (h1.trans z))]; exact ⟨h1, h2, h3⟩
theorem KT.put {H : Hp} {kvs : List (List Key × V)} {xs : List (List Key × Addr × Value)} (r : KT H kvs xs) (k : List Key) {b : Addr} {y : V} {u : Value} (hb : H b = some (.tup (k.map kV))) (ry : RelV y u) :
    KT H (putK kvs k y) (storedH xs k b u) := by
  have e : (kvs.any fun kv => decide (kv.1 = k)) = (atKey xs k).isSome := by
    rw [valV_any, (r.val k).isSome_eq, Option.isSome_map]
  unfold putK storedH
  rw [e]
  by_cases q : (atKey xs k).isSome = true
  · rw [if_pos q, if_pos q]; exact r.repl k ry
  · rw [if_neg q, if_neg q]; exact Paired.snoc r ⟨rfl, hb, ry⟩
theorem KT.keeps {H H' : Hp} {kvs : List (List Key × V)} {xs : List (List Key × Addr × Value)} (r : KT H kvs xs) (ht : ∀ b ys, H b = some (.tup ys) → H' b = some (.tup ys)) : KT H' kvs xs :=
  Paired.mapP r fun _ _ z => ⟨z.1, ht _ _ z.2.1, z.2.2⟩

section
variable {P : Program} {w : World} {H : Hp} {h : Heap} {a : Addr}
end

/-- what the dict at a holds at the key y -/
def DGet (H : Hp) (a : Addr) (y : V) (r : Option V) : Prop :=
  (∃ kvs k, Rd H a (.dK kvs) ∧ y = kV k ∧ r = valV kvs k) ∨ ∃ kvs k b, Rd H a (.dT kvs) ∧ y = .ref b ∧ H b = some (.tup (k.map kV)) ∧ r = valV kvs k
/-- the heap behind a[y] = v -/
def DPut (H : Hp) (a : Addr) (y v : V) (H' : Hp) : Prop :=
  (∃ kvs k, H a = some (.dK kvs) ∧ y = kV k ∧ kvs.length < sizeLine ∧ H' = upd H a (.dK (putK kvs k v))) ∨
  ∃ kvs k b, H a = some (.dT kvs) ∧ y = .ref b ∧ H b = some (.tup (k.map kV)) ∧ kvs.length < sizeLine ∧ H' = upd H a (.dT (putK kvs k v))
theorem DGet.k {H : Hp} {a : Addr} {kvs : List (Key × V)} {k : Key} (e : H a = some (.dK kvs)) : DGet H a (kV k) (valV kvs k) := .inl ⟨kvs, k, .inl e, rfl, rfl⟩
theorem DGet.t {H : Hp} {a b : Addr} {kvs : List (List Key × V)} {k : List Key} (e : H a = some (.dT kvs)) (eb : H b = some (.tup (k.map kV))) : DGet H a (.ref b) (valV kvs k) := .inr ⟨kvs, k, b, .inl e, rfl, eb, rfl⟩
theorem DPut.k {H : Hp} {a : Addr} {kvs : List (Key × V)} {k : Key} {v : V} (e : H a = some (.dK kvs)) (hl : kvs.length < sizeLine) : DPut H a (kV k) v (upd H a (.dK (putK kvs k v))) := .inl ⟨kvs, k, e, rfl, hl, rfl⟩
theorem DPut.t {H : Hp} {a b : Addr} {kvs : List (List Key × V)} {k : List Key} {v : V} (e : H a = some (.dT kvs)) (eb : H b = some (.tup (k.map kV))) (hl : kvs.length < sizeLine) :
    DPut H a (.ref b) v (upd H a (.dT (putK kvs k v))) := .inr ⟨kvs, k, b, e, rfl, eb, hl, rfl⟩


section
variable {X : Cx} {pins : List (Addr × Obj)} {σ : St} {H : Hp} {s : Shared} {a : Addr} {y v : V} {u r : Value} {o : Option V} {A : Around} {E : Value → Shared → Prop}

end

section
variable {X : Cx} {pins : List (Addr × Obj)} {σ : St} {H : Hp} {s : Shared} {a : Addr} {kvs : List (Key × V)} {k : Key} {u : Value} {A : Around} {E : Value → Shared → Prop}
end


/-! ### readings and rules -/
/-- the element of a subscription, not a slice -/
def NoSl (i : Expr) : Prop := ∀ ov iv, subscripted i false ov iv = operate [ov, iv] (getItem ov iv)
/-- d[y] -/
def tDGet (td ty : TE) : TE := fun σ H Q => td σ H fun x H1 => ty σ H1 fun y H2 => ∃ a v, x = .ref a ∧ DGet H2 a y (some v) ∧ Q v H2
/-- y in d, y not in d -/
def tDIn (ty td : TE) : TE := fun σ H Q => ty σ H fun y H1 => td σ H1 fun x H2 => ∃ a o, x = .ref a ∧ DGet H2 a y o ∧ Q (.bl o.isSome) H2
def tDNotIn (ty td : TE) : TE := fun σ H Q => ty σ H fun y H1 => td σ H1 fun x H2 => ∃ a o, x = .ref a ∧ DGet H2 a y o ∧ Q (.bl (!o.isSome)) H2
/-- d[y] = v -/
def sDPut (td ty tv : TE) : TS := fun D σ H => tv σ H fun v H1 => td σ H1 fun x H2 => ty σ H2 fun y H3 => ∃ a H4, x = .ref a ∧ DPut H3 a y v H4 ∧ D.nx σ H4
/-- d[y] op= v -/
def sDAug (td ty tv : TE) (rd : V → V → Hp → VK → Prop) : TS := fun D σ H => td σ H fun x H1 => ty σ H1 fun y H2 => ∃ a v, x = .ref a ∧ DGet H2 a y (some v) ∧
  tv σ H2 fun y2 H3 => rd v y2 H3 fun z H4 => ∃ H5, DPut H4 a y z H5 ∧ D.nx σ H5
/-- del d[y] -/
def sDDel (td ty : TE) : TS := fun D σ H => td σ H fun x H1 => ty σ H1 fun y H2 => ∃ a kvs k, x = .ref a ∧ H2 a = some (.dK kvs) ∧ y = kV k ∧ (valV kvs k).isSome = true ∧ D.nx σ (upd H2 a (.dK (dropK kvs k)))

section
variable {X : Cx} {o i e value : Expr} {pos pos' tpos : Pos} {td ty tv : TE}
end


/-! ### displays -/
/-- {}, to be a dict of the kind that is wanted -/
def tDNewK : TE := fun _ H Q => ∀ p, H p = none → Q (.ref p) (upd H p (.dK []))
def tDNewT : TE := fun _ H Q => ∀ p, H p = none → Q (.ref p) (upd H p (.dT []))
section
variable {X : Cx} {pos : Pos}
end

/-- the pairs of a display, from the left -/
def tPairs : List (TE × TE) → St → Hp → (List (V × V) → Hp → Prop) → Prop
  | [], _, H, Q => Q [] H
  | (tk, tv) :: r, σ, H, Q => tk σ H fun x H1 => tv σ H1 fun y H2 => tPairs r σ H2 fun ps H3 => Q ((x, y) :: ps) H3
abbrev VV : List (V × V) → List (Value × Value) → Prop := Paired fun p q => RelV p.1 q.1 ∧ RelV p.2 q.2
def PPs (X : Cx) (pos : Pos) (keys : List (Option Expr)) (values : List Expr) (trs : List (TE × TE)) : Prop :=
  ∀ (pins : List (Addr × Obj)) (s : Shared) (σ : St) (H : Hp) (Q : List (V × V) → Hp → Prop), Inv X pins σ H s → tPairs trs σ H Q →
    wpAny (model X.prog X.w) X.A (evalPairs (pairTrees keys values X.env pos)) (fun vs s' => ∃ ps H', Inv X pins σ H' s' ∧ VV ps vs ∧ Q ps H') X.xe s
def mergeK (kvs more : List (Key × V)) : List (Key × V) := more.foldl (fun acc kv => putK acc kv.1 kv.2) kvs
/-- {k: v, ..} with keys ints and texts; the new dict stands empty while the pairs are made -/
def tDisp (trs : List (TE × TE)) : TE := fun σ H Q => ∀ p, H p = none → tPairs trs σ (upd H p (.dK [])) fun ps H2 => H2 p = some (.dK []) ∧ ∃ kvs : List (Key × V), ps = kvs.map (fun kv => (kV kv.1, kv.2)) ∧ kvs.length ≤ 15 ∧ Q (.ref p) (upd H2 p (.dK (mergeK [] kvs)))
/-! ### methods -/
/-- a method call o.m(e) of a built-in, with one argument: what must be seen of the text -/
structure M1 (X : Cx) (o : Expr) (m : Str) (apos : Pos) (e : Expr) (cpos : Pos) : Prop where
  base : attributeBase o m X.env (eval o X.env) = eval o X.env
  few : ((backTo cpos (starEach [e] X.env)).all (fun x => !x.1) && (backToKw cpos (keywordEach [] X.env)).all (fun x => x.1.isSome)
    && decide (([e] : List Expr).length + ([] : List Keyword).length + (if ([] : List Keyword).isEmpty then 0 else 1) < 30)) = true
  line : (apos.endLine == cpos.line) = true
  trees : backTo cpos (starEach [e] X.env) = [(false, eval e X.env)]
structure M2 (X : Cx) (o : Expr) (m : Str) (apos : Pos) (e f : Expr) (cpos : Pos) : Prop where
  base : attributeBase o m X.env (eval o X.env) = eval o X.env
  few : ((backTo cpos (starEach [e, f] X.env)).all (fun x => !x.1) && (backToKw cpos (keywordEach [] X.env)).all (fun x => x.1.isSome)
    && decide (([e, f] : List Expr).length + ([] : List Keyword).length + (if ([] : List Keyword).isEmpty then 0 else 1) < 30)) = true
  line : (apos.endLine == cpos.line) = true
  trees : backTo cpos (starEach [e, f] X.env) = [(false, eval e X.env), (false, eval f X.env)]

/-- a is a dict, whatever its keys -/
def IsD (H : Hp) (a : Addr) : Prop := (∃ kvs, Rd H a (.dK kvs)) ∨ ∃ kvs, Rd H a (.dT kvs)
section
variable {X : Cx} {pins : List (Addr × Obj)} {σ : St} {H : Hp} {s : Shared} {a : Addr} {y d : V} {u r : Value} {o : Option V} {A : Around} {E : Value → Shared → Prop}
end

def tDGet1 (td ty : TE) : TE := fun σ H Q => td σ H fun x H1 => ∃ a, x = .ref a ∧ IsD H1 a ∧ ty σ H1 fun y H2 => ∃ o, DGet H2 a y o ∧ Q (o.getD .non) H2
def tDGet2 (td ty tx : TE) : TE := fun σ H Q => td σ H fun x H1 => ∃ a, x = .ref a ∧ IsD H1 a ∧ ty σ H1 fun y H2 => tx σ H2 fun z H3 => ∃ o, DGet H3 a y o ∧ Q (o.getD z) H3
/-- d.pop(k): there; d.pop(k, x): there or not -/
def tDPop1 (td ty : TE) : TE := fun σ H Q => td σ H fun x H1 => ∃ a, x = .ref a ∧ IsD H1 a ∧ ty σ H1 fun y H2 => ∃ kvs k v, H2 a = some (.dK kvs) ∧ y = kV k ∧ valV kvs k = some v ∧ Q v (upd H2 a (.dK (dropK kvs k)))
def tDPop2 (td ty tx : TE) : TE := fun σ H Q => td σ H fun x H1 => ∃ a, x = .ref a ∧ IsD H1 a ∧ ty σ H1 fun y H2 => tx σ H2 fun z H3 => ∃ kvs k, H3 a = some (.dK kvs) ∧ y = kV k ∧
  (∀ v, valV kvs k = some v → Q v (upd H3 a (.dK (dropK kvs k)))) ∧ (valV kvs k = none → Q z H3)
section
variable {X : Cx} {o e f : Expr} {apos cpos : Pos} {td ty tx : TE}
end

/-! ### dict(d): a copy -/
section
variable {X : Cx} {pins : List (Addr × Obj)} {σ : St} {H : Hp} {s : Shared} {a : Addr} {kvs : List (Key × V)} {A : Around} {E : Value → Shared → Prop}
end


section
variable {X : Cx} {pins : List (Addr × Obj)} {σ : St} {H : Hp} {s : Shared} {a : Addr} {y : V} {u : Value} {A : Around} {E : Value → Shared → Prop}
end
end L2

namespace L2
open PySem PySem.Spec PyProof.Rows

section
variable {prog : Program} {w : World} {A : Around} {E : Value → Shared → Prop}
end

section
variable {X : Cx}
end
end L2

namespace L2
open PySem PySem.Spec PyProof.Rows

section
variable {X : Cx} {pins : List (Addr × Obj)} {σ : St} {H : Hp} {s : Shared} {h' : Heap}
/-- several records of ours have turned -/
theorem Inv.turnedL {t' : Nat} {ch : List Addr} (I : Inv X pins σ H s) (k : ∀ b o, b ∉ ch → s.heap.get? b = some o → h'.get? b = some o) (hf : ∀ b ∈ ch, FpOk X pins H b) (ht : X.tk ≤ t' := by first | exact Inv.tk ‹_› | exact Nat.le_succ_of_le (Inv.tk ‹_›) | assumption | exact Nat.le_succ_of_le (Nat.le_succ_of_le (Inv.tk ‹_›)) | exact Nat.le_trans (Inv.tk ‹_›) (Nat.le_add_right _ _)) : Inv X pins σ H { s with heap := h', toks := t' } := by
  have nit : ∀ b u, H b = some u → b ∉ ch := fun b u e z => by
    have q := (hf b z).1
    rw [q] at e; cases e
  refine I.step (g' := s.gens) (d' := s.drawn) (ch := ch) (fun b hb => ⟨(hf b hb).2.2.2.1, (hf b hb).2.1, (hf b hb).2.2.2.2.1, (hf b hb).2.2.2.2.2⟩) (fun b o _ _ hc e _ => k b o hc e) (fun b o _ _ hc e _ => ⟨o.slots, k b o hc e⟩)
    (fun _ _ _ _ n => n) (fun b o hc e => ⟨o, k b o hc e⟩) (fun _ _ e => e) (fun _ _ _ e => e) (fun b ps e => ⟨#[], by rw [e]; simp⟩) (fun m hm => ?_) (fun b u e => ?_) I.bare ht
  · obtain ⟨o, es, ep, ho, r⟩ := hm
    exact ⟨o, es, ep, k _ o (fun z => (hf _ z).2.1 rfl) ho, r⟩
  · refine (I.hok b u e).stay (fun c v hc q => k c v ?_ q) (fun _ q => q) fun _ _ q => q
    rcases hc with z | z
    · rw [z]; exact nit b u e
    · exact nit c _ z
/-- .. and one new object is laid -/
theorem Inv.turnedNew {t' : Nat} {ch : List Addr} {T : Addr} {ob : HO} (I : Inv X pins σ H s) (k : ∀ b o, b ∉ ch → s.heap.get? b = some o → h'.get? b = some o) (hf : ∀ b ∈ ch, FpOk X pins H b) (hT : s.heap.objs.size ≤ T)
    (new : ObjOk X.prog X.w (upd H T ob) h' T ob) (ht : X.tk ≤ t' := by first | exact Inv.tk ‹_› | exact Nat.le_succ_of_le (Inv.tk ‹_›) | assumption | exact Nat.le_succ_of_le (Nat.le_succ_of_le (Inv.tk ‹_›)) | exact Nat.le_trans (Inv.tk ‹_›) (Nat.le_add_right _ _)) : Inv X pins σ (upd H T ob) { s with heap := h', toks := t' } := by
  have hn : H T = none := I.hok.fresh hT
  have nit : ∀ b u, H b = some u → b ∉ ch := fun b u e z => by
    have q := (hf b z).1
    rw [q] at e; cases e
  refine I.step (g' := s.gens) (d' := s.drawn) (ch := ch) (fun b hb => ⟨(hf b hb).2.2.2.1, (hf b hb).2.1, (hf b hb).2.2.2.2.1, (hf b hb).2.2.2.2.2⟩) (fun b o _ _ hc e _ => k b o hc e) (fun b o _ _ hc e _ => ⟨o.slots, k b o hc e⟩)
    (fun b o _ e n => ?_) (fun b o hc e => ⟨o, k b o hc e⟩) (fun b xs e => ?_) (fun b o u e => ?_) (fun b ps e => ⟨#[], ?_⟩) (fun m hm => ?_) (fun b u e => ?_) I.bare ht
  · rw [upd_ne (Nat.ne_of_lt (Nat.lt_of_lt_of_le (Heap.lt_size e) hT))]; exact n
  · rw [upd_ne (ne_of_none e hn)]; exact e
  · rw [upd_ne (ne_of_none e hn)]; exact e
  · rw [upd_ne (ne_of_none e hn), e]; simp
  · obtain ⟨o, es, ep, ho, r⟩ := hm
    exact ⟨o, es, ep, k _ o (fun z => (hf _ z).2.1 rfl) ho, r⟩
  · by_cases hb : b = T
    · subst hb
      rw [upd_same] at e
      cases e
      exact new
    · rw [upd_ne hb] at e
      refine (I.hok b u e).stay (fun c v hc q => k c v ?_ q) (fun c q => by rw [upd_ne (ne_of_none q hn)]; exact q) fun c xs q => by rw [upd_ne (ne_of_none q hn)]; exact q
      rcases hc with z | z
      · rw [z]; exact nit b u e
      · exact nit c _ z

/-! ### locking a thing while a statement runs -/
theorem Inv.lock {d : Addr} {u : HO} (I : Inv X pins σ H s) (h : H d = some u) (mu : Mut (some u)) : ∃ od, Inv X pins σ (upd H d (.frz od u)) s := by
  have x := I.hok d u h
  have ex : ∃ od, s.heap.get? d = some od := by
    cases u with
    | lst xs => obtain ⟨_, _, _, _, e⟩ := x; exact ⟨_, e⟩
    | dK kvs => obtain ⟨_, _, _, _, o, _, _, e, _⟩ := x; exact ⟨o, e⟩
    | dT kvs => obtain ⟨_, _, _, _, o, _, _, e, _⟩ := x; exact ⟨o, e⟩
    | set S n => obtain ⟨o, _, _, _, e, _⟩ := x; exact ⟨o, e⟩
    | ins C dx fs => obtain ⟨_, _, _, e, _⟩ := x; exact ⟨_, e⟩
    | ext φ => obtain ⟨_, ⟨_, e⟩, _⟩ := x; exact ⟨_, e⟩
    | _ => exact False.elim mu
  obtain ⟨od, e⟩ := ex
  have new : ObjOk X.prog X.w (upd H d (.frz od u)) s.heap d (.frz od u) := by
    refine ⟨e, x.stay (fun b v _ q => q) (fun b q => ?_) fun b xs q => ?_⟩
    · rw [upd_ne (fun z => by rw [z, h] at q; cases q; exact mu)]; exact q
    · rw [upd_ne (fun z => by rw [z, h] at q; cases q; exact mu)]; exact q
  exact ⟨od, I.write (x := d) (e := d) (t' := s.toks) (h' := s.heap) (by rw [h]; exact mu) (.inl rfl) (fun b v _ q => q) ⟨od, e⟩ new⟩
end
/-- the statement runs while the thing at d is locked (read, not written); d and what stands there are the reading's choice -/
def tLock (t : TS) : TS := fun D σ H => ∃ d u, H d = some u ∧ Mut (some u) ∧ ∀ od, t ⟨fun σ' H' => H' d = some (.frz od u) ∧ D.nx σ' (upd H' d u), fun v H' => H' d = some (.frz od u) ∧ D.rt v (upd H' d u), fun σ' H' => H' d = some (.frz od u) ∧ D.bk σ' (upd H' d u), fun σ' H' => H' d = some (.frz od u) ∧ D.ct σ' (upd H' d u)⟩ σ (upd H d (.frz od u))
def tLockE (t : TE) : TE := fun σ H Q => ∃ d u, H d = some u ∧ Mut (some u) ∧ ∀ od, t σ (upd H d (.frz od u)) fun v H' => H' d = some (.frz od u) ∧ Q v (upd H' d u)
section
variable {X : Cx}
/-! ### one iterator just laid -/
theorem pi_one {tg : Expr} {pins : List (Addr × Obj)} {σ : St} {H : Hp} {s : Shared} {R : It → Hp → Prop} {J : It} {tn : Nat → Heap → Prop} {tk : Nat} (I : Inv X pins σ H s) (o : Obj)
    (T : Turn X.prog X.w X.K tg J [s.heap.objs.size] s.heap.objs.size tn) (st : tn 0 (s.heap.push o)) (q : R J H) (ht : X.tk ≤ tk := by first | exact Inv.tk ‹_› | exact Nat.le_succ_of_le (Inv.tk ‹_›) | assumption | exact Nat.le_trans (Inv.tk ‹_›) (Nat.le_add_right _ _)) : PIE X pins σ tg R (.ref s.heap.objs.size) { s with heap := s.heap.push o, toks := tk } := by
  refine ⟨s.heap.objs.size, [s.heap.objs.size], tn, J, H, rfl, I.kept fun b ob e => Heap.get?_push_of_some _ e, T, st, fun b hb => ?_, q⟩
  have e : b = s.heap.objs.size := by simpa using hb
  subst e
  exact I.fpOk (Nat.le_refl _) (I.hok.fresh (Nat.le_refl _))
end

/-! ### range with a step -/
/-- lo, lo + c, .. (n of them) -/
def Itc (lo c : Int) (n : Nat) : It := ⟨fun i _ => i < n, fun i H x H' => H' = H ∧ x = .int (lo + (i : Nat) * c), fun i _ => n ≤ i⟩
/-- range(i, j, c): small bounds, n items -/
def RgC (i j c : Int) (n : Nat) : Prop := c ≠ 0 ∧ c.natAbs < 1073741824 ∧ Builtin.Range.small i j c = true ∧ Builtin.Range.rangeSize i j c = n
theorem RgC.neg {i j : Int} (ha : -(2 ^ 62) ≤ i) (ha' : i < 2 ^ 62) (hb : -(2 ^ 62) ≤ j) (hb' : j < 2 ^ 62) : RgC i j (-1) (i - j).toNat :=
  ⟨by decide, by decide, PySem.W.small_down ha ha' hb hb', PySem.W.rangeSize_downNat i j⟩
def iRng3 (ta : TA) : TI := fun σ H R => ta σ H fun vs H1 => ∃ (i j c : Int) (n : Nat), vs = [.int i, .int j, .int c] ∧ RgC i j c n ∧ R (Itc i c n) H1
section
variable {X : Cx} {tg : Expr}
end
/-! ### reversed(list) -/
/-- the list at a (n items at the start, which the loop leaves there), from its end -/
def Itv (K : PySem.W.Frag) (a : Addr) (n : Nat) : It :=
  ⟨fun i H => i < n ∧ ∃ (xs : List V) (x : V), SqL K H a xs ∧ xs[n - 1 - i]? = some x, fun i H x H' => H' = H ∧ ∀ xs, SqL K H a xs → xs[n - 1 - i]? = some x, fun i _ => n ≤ i⟩
def iRev (K : PySem.W.Frag) (ta : TA) : TI := fun σ H R => ta σ H fun vs H1 => ∃ (a : Addr) (xs : List V), vs = [.ref a] ∧ SqL K H1 a xs ∧ R (Itv K a xs.length) H1
section
variable {X : Cx} {tg : Expr}
end

/-! ### a str -/
def Its (x : Str) : It := ⟨fun i _ => i < x.cps.size, fun i H v H' => H' = H ∧ ∃ c, x.cps[i]? = some c ∧ v = .str ⟨#[c]⟩, fun i _ => x.cps.size ≤ i⟩
theorem turn_str {P : Program} {w : World} {K : PySem.W.Frag} {tg : Expr} (it : Addr) (x : Str) (t : Tok) (ty : String) (hty : ty = "str_ascii_iterator" ∨ ty = "str_iterator") :
    Turn P w K tg (Its x) [it] it (fun i h => h.IsStrIter it ty x t i) where
  mem := by simp
  obj := fun i h st b hb => by
    have e : b = it := by simpa using hb
    subst e
    obtain ⟨o, e, c, d⟩ := st
    exact ⟨o, e, fun v z => by rw [d] at z; cases z⟩
  keep := fun i h h' st k => let ⟨o, ho, r⟩ := st; ⟨o, k it (by simp) o ho, r⟩
  item := by
    intro X hP hw hK hc i pins s σ H E I hf st hg
    subst hP hw hK
    obtain ⟨f0, f1, f2, f3, f4, f5⟩ := hf it (by simp)
    have W : Walks X.prog X.w X.A it [it] [it] x.cps.size (SignAt x) (fun i h => h.IsStrIter it ty x t i) := by
      rcases hty with e | e
      · rw [e]; exact Walks.strAscii (I.ok.hd hc) it x t
      · rw [e]; exact Walks.strWide (I.ok.hd hc) it x t
    have hno : ["enumerate", "zip", "dict_itemiterator", "dict_reverseitemiterator", "odict_iterator", "itertools.zip_longest", "itertools.pairwise"].contains ty = false := by
      rcases hty with e | e
      · rw [e]; decide
      · rw [e]; decide
    refine TK.up_tk I.tk (W.item i s _ _ hg st fun v h' tk hv st' kk htk => ?_)
    obtain ⟨c, u, hcx, rfl⟩ := hv
    have I1 : Inv X pins σ H { s with heap := h', toks := tk } := I.turned (fun b o hb e => kk b o (by simpa using hb) e) f0 f1 f3 f4 f5
    obtain ⟨oi, e, cc, dd⟩ := id st'
    exact ⟨_, rfl, go_of (s := { s with heap := h', toks := tk }) e cc dd hno ⟨.str ⟨#[c]⟩, H, I1, ⟨u, rfl⟩, ⟨rfl, c, hcx, rfl⟩, st', fun b hb => (hf b hb).1⟩⟩
  done := by
    intro X hP hw hK hc i pins s σ H E I hf st hg
    subst hP hw hK
    obtain ⟨f0, f1, f2, f3, f4, f5⟩ := hf it (by simp)
    have hx : x.cps[i]? = none := Array.getElem?_eq_none hg
    rcases hty with e | e
    · rw [e] at st
      exact wpAny_pyNext_ascii_end (I.ok.hd hc) st hx fun h' eb => ⟨rfl, I.turned (t' := s.toks) (fun b o hb e => eb b o hb e) f0 f1 f3 f4 f5⟩
    · rw [e] at st
      exact wpAny_pyNext_wide_end (I.ok.hd hc) st hx fun h' eb => ⟨rfl, I.turned (t' := s.toks) (fun b o hb e => eb b o hb e) f0 f1 f3 f4 f5⟩
  self := fun A i s Q E st h => by
    rcases hty with e | e
    · rw [e] at st; exact wpAny_pyIter_striter_ascii st h
    · rw [e] at st; exact wpAny_pyIter_striter_wide st h
def iStr (te : TE) : TI := fun σ H R => te σ H fun v H1 => ∃ x, v = .str x ∧ R (Its x) H1
/-! ### a dict's keys: any dict's entries -/
section
variable {prog : Program} {w : World} {A : Around} {E : Value → Shared → Prop} {s : Shared}
theorem iter_keys {d : Addr} {o : Obj} {es : Array DictEntry} {ep : Nat} {Q : Value → Shared → Prop} (hd : (d == sysModules) = false) (ho : s.heap.get? d = some o) (hc : o.ExactDict) (hdat : o.data = .dict es ep)
    (hQ : Q (.ref s.heap.objs.size) { s with heap := s.heap.push { cls := .type "dict_keyiterator", data := .fields #[.ref d, .int 0 0, .int es.size 0, .int ep 0] } }) :
    wpAny (model prog w) A (pyIter (.ref d)) Q E s := by
  have hT : s.TypeIs (.ref d) "dict" := ⟨o, ho, hc.1⟩
  refine wpAny_pyIter_slot hT F.slot_dict_iter (wpAny_call_entry F.slot_dict_iter hT F.entry_dict_iter ?_ (F.args_dict_iter_1 _))
  unfold Builtin.«dict.__iter__»
  refine wpAny_bind ?_
  unfold Builtin.Dict.dictSlotNone
  refine wpAny_bind (wpAny_notOrdered_dict hT ?_)
  show wpAny _ _ (pure (Value.ref d)) _ _ s
  refine wpAny_pure ?_
  show wpAny _ _ (Builtin.Dict.showsAll d >>= _) _ _ s
  unfold Builtin.Dict.showsAll
  rw [if_neg (by rw [hd]; exact Bool.false_ne_true)]
  refine wpAny_bind (wpAny_pure ?_)
  refine wpAny_bind (wpAny_dictEntries ho hdat ?_)
  refine wpAny_bind (wpAny_dictEpoch ho hdat ?_)
  refine wpAny_bind (wpAny_newObj_type (wpAny_pure ⟨_, rfl, "dict_keyiterator", _, ⟨_, Heap.get?_push_size _ rfl, rfl⟩, F.slot_dict_keyiterator_next.lookup, ?_⟩))
  simpa [rawInt] using hQ
theorem next_key_end {it d : Addr} {i n ep : Nat} {od : Obj} {es : Array DictEntry} {Q : Option Value → Shared → Prop} (hh : A.handled = none) (hit : s.heap.IsKeyIter it d i n ep) (hod : s.heap.get? d = some od) (hdd : od.data = .dict es ep)
    (hsz : es.size = n) (hge : n ≤ i) (hQ : ∀ h', Heap.ExtBut it s.heap h' → Q none { s with heap := h' }) : wpAny (model prog w) A (pyNext (.ref it)) Q E s := by
  obtain ⟨o, ho, hc, hd⟩ := id hit
  unfold pyNext
  refine wpAny_bind (wpAny_attempt (wpAny_callSpecial?_slot (name := Str.ofString "__next__") hit.typeIs F.slot_dict_keyiterator_next
    (wpAny_call_entry F.slot_dict_keyiterator_next hit.typeIs F.entry_dict_keyiterator_next ?_ (F.args_dict_keyiterator_next_1 _))))
  refine wpAny_bind (wpAny_pure ?_)
  refine wpAny_bind ?_
  refine wpAny_bind ?_
  first | refine wpAny_bind (wpAny_typeNameOfWhole_keyiter hit.typeIs (wpAny_pure ?_)) | refine wpAny_bind (wpAny_typeNameOf_keyiter hit.typeIs (wpAny_pure ?_))
  refine wpAny_bind (wpAny_fieldsOf ho hd ?_)
  have hown : Builtin.Dict_items.ownsTuple "dict_keyiterator" = false := by decide
  simp only [hown, Bool.false_eq_true, if_false]
  show wpAny _ _ (if (Value.ref d == Value.none) = true then _ else _) _ _ s
  rw [if_neg (show ¬ ((Value.ref d == Value.none) = true) from Bool.false_ne_true)]
  refine wpAny_bind (wpAny_pure ?_)
  refine wpAny_bind (wpAny_dictEntries hod hdd ?_)
  rw [if_neg (by rw [hsz]; simp)]
  refine wpAny_bind (wpAny_pure ?_)
  refine wpAny_bind (wpAny_dictEpoch hod hdd ?_)
  rw [if_neg (by simp)]
  refine wpAny_pure ?_
  have hge' : es.size ≤ i := by rw [hsz]; exact hge
  simp only [show ¬ ((i : Int) < 0) from by omega, if_false, Int.toNat_natCast, Array.getElem?_eq_none hge']
  refine wpAny_bind ?_
  first | refine wpAny_bind (wpAny_typeNameOfWhole_keyiter hit.typeIs (wpAny_pure ?_)) | refine wpAny_bind (wpAny_typeNameOf_keyiter hit.typeIs (wpAny_pure ?_))
  show wpAny _ _ (setField (.ref it) 0 .none >>= _) _ _ s
  refine wpAny_bind (wpAny_setField ho hd (by simp) ?_)
  show wpAny _ _ (newExc (.type "StopIteration") [] >>= _) _ _ _
  refine wpAny_bind ?_
  simp only [newExc, newTuple]
  refine wpAny_bind (wpAny_newObj_type ?_ (by size_fits))
  refine wpAny_bind (m := firstArgMember _ _) (wpAny_of_eq (a := Value.none) (by first | rfl | (simp only [firstArgMember]; rfl)) ?_)
  refine wpAny_newObj_type ?_ (by size_fits)
  simp only [raiseNew]
  refine wpAny_bind (wpAny_handled ?_)
  rw [show A.in1.handled = none from hh]
  refine wpAny_bind (wpAny_pure (wpAny_throw ?_))
  refine wpAny_bind (wpAny_isInstance (T := "StopIteration") (b := true) ⟨_, Heap.get?_push_size _ rfl, rfl⟩ isSubtype_stop ?_)
  exact wpAny_pure (hQ _ (((Heap.SameBut.update ..).extBut.push _).push _))
end

/-! ### a locked dict -/
theorem kv_get {κ : Type} {kvs : List (κ × V)} {vs : List (κ × Value)} (h : KV kvs vs) : ∀ {i : Nat} {k : κ} {v : V}, kvs[i]? = some (k, v) → ∃ u, vs[i]? = some (k, u) ∧ RelV v u := by
  unfold KV at h
  induction h with
  | nil => intro i k v e; simp at e
  | @cons a b l₁ l₂ r t ih =>
    intro i k v e
    cases i with
    | zero =>
      simp only [List.getElem?_cons_zero, Option.some.injEq] at e
      subst e
      refine ⟨b.2, ?_, r.2⟩
      simp only [List.getElem?_cons_zero]
      exact congrArg some (Prod.ext r.1.symm rfl)
    | succ j =>
      simp only [List.getElem?_cons_succ] at e ⊢
      exact ih e
theorem paired_get {α β : Type} {G : α → β → Prop} {l₁ : List α} {l₂ : List β} (h : Paired G l₁ l₂) : ∀ {i : Nat} {a : α}, l₁[i]? = some a → ∃ b, l₂[i]? = some b ∧ G a b := by
  induction h with
  | nil => intro i a e; simp at e
  | @cons a b l₁ l₂ r t ih =>
    intro i a' e
    cases i with
    | zero =>
      simp only [List.getElem?_cons_zero, Option.some.injEq] at e
      subst e
      exact ⟨b, rfl, r⟩
    | succ j =>
      simp only [List.getElem?_cons_succ] at e ⊢
      exact ih e
theorem relV_key {k : Key} {u : Value} (h : keyIs k u = true) : RelV (kV k) u := by
  rcases keyIs_shape h with ⟨i, t, rfl, rfl⟩ | ⟨x, t, rfl, rfl⟩
  · exact ⟨t, rfl⟩
  · exact ⟨t, rfl⟩
section
variable {X : Cx} {pins : List (Addr × Obj)} {σ : St} {H : Hp} {s : Shared} {d : Addr} {o : Obj}
theorem Inv.frzK {kvs : List (Key × V)} (I : Inv X pins σ H s) (h : H d = some (.frz o (.dK kvs))) :
    (d == sysModules) = false ∧ s.heap.get? d = some o ∧ o.ExactDict ∧ ∃ (es : Array DictEntry) (ep : Nat) (vs : List (Key × Value)), o.data = .dict es ep ∧ es.size = kvs.length ∧ KV kvs vs ∧ s.heap.DictAt (mixKind X.prog X.w) d vs ep := by
  obtain ⟨hd, z, hs, vs, kv, o', es, ep, ho, hx, hdt, r⟩ := I.hok d _ h
  rw [hd] at ho
  cases ho
  refine ⟨hs, hd, hx, es, ep, vs, hdt, ?_, kv, o, es, hd, hx, hdt, r⟩
  have l1 := r.2.1.length
  have l2 : kvs.length = vs.length := Paired.length kv
  rw [Array.length_toList] at l1
  omega
end

/-- the keys of the locked dict at d, in their order -/
def Itk (d : Addr) (o : Obj) (kvs : List (Key × V)) : It :=
  ⟨fun i H => H d = some (.frz o (.dK kvs)) ∧ i < kvs.length, fun i H x H' => H' = H ∧ ∃ k v, kvs[i]? = some (k, v) ∧ x = kV k, fun i H => H d = some (.frz o (.dK kvs)) ∧ kvs.length ≤ i⟩
/-- .. of tuple keys: the key's own tuple -/
def Itkt (d : Addr) (o : Obj) (kvs : List (List Key × V)) : It :=
  ⟨fun i H => H d = some (.frz o (.dT kvs)) ∧ i < kvs.length, fun i H x H' => H' = H ∧ ∃ (k : List Key) (v : V) (q : Addr), kvs[i]? = some (k, v) ∧ x = .ref q ∧ H q = some (.tup (k.map kV)), fun i H => H d = some (.frz o (.dT kvs)) ∧ kvs.length ≤ i⟩
/-- the values -/
def Itd (d : Addr) (o : Obj) (kvs : List (Key × V)) : It :=
  ⟨fun i H => H d = some (.frz o (.dK kvs)) ∧ i < kvs.length, fun i H x H' => H' = H ∧ ∃ k, kvs[i]? = some (k, x), fun i H => H d = some (.frz o (.dK kvs)) ∧ kvs.length ≤ i⟩
/-- the pairs, each a new tuple -/
def Iti (d : Addr) (o : Obj) (kvs : List (Key × V)) : It :=
  ⟨fun i H => H d = some (.frz o (.dK kvs)) ∧ i < kvs.length, fun i H x H' => ∃ T k v, kvs[i]? = some (k, v) ∧ x = .ref T ∧ H T = none ∧ H' = upd H T (.tup [kV k, v]), fun i H => H d = some (.frz o (.dK kvs)) ∧ kvs.length ≤ i⟩
theorem dict_ep {o : Obj} {es es' : Array DictEntry} {ep ep' : Nat} (h : o.data = .dict es ep) (h' : o.data = .dict es' ep') : es' = es ∧ ep' = ep := by
  rw [h] at h'
  cases h'
  exact ⟨rfl, rfl⟩
section
variable {P : Program} {w : World} {K : PySem.W.Frag} {tg : Expr} {d : Addr} {o : Obj} {es : Array DictEntry} {ep : Nat}
theorem turn_keys {kvs : List (Key × V)} (it : Addr) (hod : o.data = .dict es ep) : Turn P w K tg (Itk d o kvs) [it] it (fun i h => h.IsKeyIter it d i kvs.length ep) where
  mem := by simp
  obj := fun i h st b hb => by
    have e : b = it := by simpa using hb
    subst e
    obtain ⟨oi, e, c, dd⟩ := st
    exact ⟨oi, e, fun v z => by rw [dd] at z; cases z⟩
  keep := fun i h h' st k => st.at fun oi e => k it (by simp) oi e
  item := by
    intro X hP hw hK hc i pins s σ H E I hf st hg
    subst hP hw hK
    obtain ⟨hd, hi⟩ := hg
    obtain ⟨f0, f1, f2, f3, f4, f5⟩ := hf it (by simp)
    obtain ⟨hs, hgd, hx, es', ep', vs, hdt, hsz, kv, hm⟩ := I.frzK hd
    obtain ⟨rfl, rfl⟩ := dict_ep hod hdt
    obtain ⟨⟨k, v⟩, hkv⟩ : ∃ p, kvs[i]? = some p := ⟨kvs[i], List.getElem?_eq_getElem hi⟩
    obtain ⟨u, hu, ru⟩ := kv_get kv hkv
    have hl : kvs.length = vs.length := Paired.length kv
    rw [hl] at st
    refine wpAny_pyNext_dict_item st hm hu fun key h' hkey st' sb => ?_
    have I1 : Inv X pins σ H { s with heap := h' } := I.turned (t' := s.toks) (fun b ob hb e => (sb.2 b hb).trans e) f0 f1 f3 f4 f5
    obtain ⟨oi, e, c, dd⟩ := id st'
    refine ⟨key, rfl, go_of (s := { s with heap := h' }) e c dd (by decide) ⟨kV k, H, I1, relV_key (show keyIs k key = true from hkey), ⟨rfl, k, v, hkv, rfl⟩, ?_, fun b hb => (hf b hb).1⟩⟩
    show h'.IsKeyIter it d (i + 1) kvs.length _
    rw [hl]
    exact st'
  done := by
    intro X hP hw hK hc i pins s σ H E I hf st hg
    subst hP hw hK
    obtain ⟨hd, hi⟩ := hg
    obtain ⟨f0, f1, f2, f3, f4, f5⟩ := hf it (by simp)
    obtain ⟨hs, hgd, hx, es', ep', vs, hdt, hsz, kv, hm⟩ := I.frzK hd
    obtain ⟨rfl, rfl⟩ := dict_ep hod hdt
    exact next_key_end (I.ok.hd hc) st hgd hdt hsz hi fun h' eb => ⟨rfl, I.turned (t' := s.toks) (fun b ob hb e => eb b ob hb e) f0 f1 f3 f4 f5⟩
  self := fun A i s Q E st h => wpAny_pyIter_keyiter st h
end

/-! ### for k in d, d.keys(), d.values(), d.items() -/
/-- the dict is locked (tLock, or by the caller) -/
def iKeys (td : TE) : TI := fun σ H R => td σ H fun x H1 => ∃ d o, x = .ref d ∧ ((∃ kvs, H1 d = some (.frz o (.dK kvs)) ∧ R (Itk d o kvs) H1) ∨ ∃ kvs, H1 d = some (.frz o (.dT kvs)) ∧ R (Itkt d o kvs) H1)
def iVals (td : TE) : TI := fun σ H R => td σ H fun x H1 => ∃ d o kvs, x = .ref d ∧ H1 d = some (.frz o (.dK kvs)) ∧ R (Itd d o kvs) H1
def iItems (td : TE) : TI := fun σ H R => td σ H fun x H1 => ∃ d o kvs, x = .ref d ∧ H1 d = some (.frz o (.dK kvs)) ∧ R (Iti d o kvs) H1
def iKeysM (td : TE) : TI := fun σ H R => td σ H fun x H1 => ∃ d o kvs, x = .ref d ∧ H1 d = some (.frz o (.dK kvs)) ∧ R (Itk d o kvs) H1
section
variable {X : Cx} {tg e : Expr} {td : TE} {apos cpos : Pos}
end

/-! ### enumerate(list) -/
/-- the list at a as it stands at each turn, each item in a new pair -/
def Ite (K : PySem.W.Frag) (a : Addr) : It :=
  ⟨fun i H => ∃ (xs : List V) (x : V), SqL K H a xs ∧ xs[i]? = some x, fun i H v H' => ∃ T x, v = .ref T ∧ H T = none ∧ H' = upd H T (.tup [.int (i : Nat), x]) ∧ ∀ xs, SqL K H a xs → xs[i]? = some x, fun i H => ∃ xs : List V, SqL K H a xs ∧ xs.length ≤ i⟩
theorem turn_enum {P : Program} {w : World} {K : PySem.W.Frag} {elts : List Expr} {kk : Nat} {tpos : Pos} (a e it : Addr) :
    Turn P w K (.Tuple elts kk tpos) (Ite K a) [e, it] e (fun i h => (∃ old, IsEnum h e it ((i : Nat) : Int) old) ∧ h.IsListIter it a i ∧ e ≠ it) where
  mem := by simp
  obj := fun i h st b hb => by
    obtain ⟨⟨old, he⟩, ⟨o, ho, hc, hd⟩, _⟩ := st
    have e' : b = e ∨ b = it := by simpa using hb
    rcases e' with z | z
    · rw [z]; exact ⟨_, he, fun v q => nomatch q⟩
    · rw [z]; exact ⟨o, ho, fun v q => by rw [hd] at q; cases q⟩
  keep := fun i h h' st k => let ⟨⟨old, he⟩, hi, hne⟩ := st; ⟨⟨old, k e (by simp) _ he⟩, hi.at fun o q => k it (by simp) o q, hne⟩
  item := by
    intro X hP hw hK hc i pins s σ H E I hf st hg
    subst hP hw hK
    obtain ⟨⟨old, he⟩, hit, hne⟩ := st
    obtain ⟨xs, x, hq, hx⟩ := hg
    obtain ⟨its, rv, p, hz⟩ := I.list hq
    obtain ⟨u, hu, ru⟩ := rv.get hx
    have hel : e < s.heap.objs.size := Heap.lt_size he
    have hil : it < s.heap.objs.size := by obtain ⟨_, q, _⟩ := hit; exact Heap.lt_size q
    refine wpAny_pyNext_enum_item he hit p.isList (x := u) (by simpa using hu) hne fun h' ho hit' hT hsz hk => ?_
    refine ⟨_, rfl, wpAny_letOwnedTupleGo_enum (s := { s with heap := h', toks := s.toks + 1 }) ho fun h'' he' sb => ?_⟩
    have hT2 : h''.get? s.heap.objs.size = some { cls := .type "tuple", data := .seq #[.int i s.toks, u] } := (sb.2 _ (Nat.ne_of_gt hel)).trans hT
    have new : ObjOk X.prog X.w (upd H s.heap.objs.size (.tup [.int (i : Nat), x])) h'' s.heap.objs.size (.tup [.int (i : Nat), x]) :=
      ⟨by show 2 ≤ sizeLine; decide, [.int i s.toks, u], .cons ⟨_, rfl⟩ (.cons ru .nil), ⟨_, hT2, rfl, _, rfl⟩⟩
    have I1 : Inv X pins σ (upd H s.heap.objs.size (.tup [.int (i : Nat), x])) { s with heap := h'', toks := s.toks + 1 } :=
      I.turnedNew (ch := [e, it]) (fun b ob hb q => (sb.2 b (fun z => hb (by simp [z]))).trans (hk b ob (fun z => hb (by simp [z])) (fun z => hb (by simp [z])) q)) hf (Nat.le_refl _) new
    refine ⟨.ref s.heap.objs.size, _, I1, rfl, ⟨_, x, rfl, I.hok.fresh (Nat.le_refl _), rfl, fun ys hy => by rw [I.list_inj hy hq]; exact hx⟩, ⟨⟨u, ?_⟩, hit'.at fun o q => (sb.2 it (Ne.symm hne)).trans q, hne⟩, fun b hb => ?_⟩
    · have e1 : ((i + 1 : Nat) : Int) = (i : Int) + 1 := by omega
      rw [e1]; exact he'
    · have hb' : b < s.heap.objs.size := by
        have e' : b = e ∨ b = it := by simpa using hb
        rcases e' with z | z
        · rw [z]; exact hel
        · rw [z]; exact hil
      rw [upd_ne (Nat.ne_of_lt hb')]
      exact (hf b hb).1
  done := by
    intro X hP hw hK hc i pins s σ H E I hf st hg
    subst hP hw hK
    obtain ⟨⟨old, he⟩, hit, hne⟩ := st
    obtain ⟨xs, hq, hx⟩ := hg
    obtain ⟨its, rv, p, hz⟩ := I.list hq
    obtain ⟨f0, f1, f2, f3, f4, f5⟩ := hf it (by simp)
    have hl := rv.length
    exact wpAny_pyNext_enum_end (I.ok.hd hc) he hit p.isList (by simp; omega) fun h' eb => ⟨rfl, I.turned (t' := s.toks) (fun b o hb q => eb b o hb q) f0 f1 f3 f4 f5⟩
  self := fun A i s Q E st h => let ⟨⟨_, he⟩, _⟩ := st; wpAny_pyIter_enum he h
def iEnum (K : PySem.W.Frag) (ta : TA) : TI := fun σ H R => ta σ H fun vs H1 => ∃ a xs, vs = [.ref a] ∧ SqL K H1 a xs ∧ R (Ite K a) H1
theorem pi_enum {X : Cx} {e : Expr} {ta : TA} {p pos tpos : Pos} {elts : List Expr} {kk : Nat} (hg : Gl X "enumerate") (hm : X.mg "enumerate" = none) (ha : PA X [e] ta) (hs : starEach [e] X.env = [(false, eval e X.env)] := by rfl) :
    PI X (.Tuple elts kk tpos) (.Call (.Name "enumerate" p) [e] [] pos) (iEnum X.K ta) := by
  intro pins s σ H R I h
  refine Call_ (ld_blt I hg hm boot_enumerate (PyProof.Rows.callWith_type1 (thn (ha pos pins s σ H _ I h) fun us s1 ⟨vs, H1, I1, r1, q1⟩ => ?_) hs rfl))
  obtain ⟨a, xs, ex, hq, q⟩ := q1
  subst ex
  cases r1 with
  | cons r rr =>
    cases rr
    cases r
    obtain ⟨its, rv, p', hz⟩ := I1.list hq
    refine call_enumerate_list p'.isList fun h' he hit hsz hk => wpAny_pyIter_enum he ?_
    have I2 : Inv X pins σ H1 { s1 with heap := h' } := I1.kept (t' := s1.toks) hk
    refine ⟨s1.heap.objs.size + 1, [s1.heap.objs.size + 1, s1.heap.objs.size], _, _, H1, rfl, I2, turn_enum a (s1.heap.objs.size + 1) s1.heap.objs.size, ⟨⟨.none, he⟩, hit, Nat.succ_ne_self _⟩, fun b hb => ?_, q⟩
    have e' : b = s1.heap.objs.size + 1 ∨ b = s1.heap.objs.size := by simpa using hb
    have hle : s1.heap.objs.size ≤ b := by
      rcases e' with z | z
      · rw [z]; exact Nat.le_add_right _ _
      · rw [z]; exact Nat.le_refl _
    exact I1.fpOk hle (I1.hok.fresh hle)
/-! ### zip(list, list) -/
theorem boot_zip5 : bootBuiltins "zip" = some (.type "zip") := by decide +kernel
/-- the lists at a and b as they stand at each turn, the items in new pairs -/
def Itz (K : PySem.W.Frag) (a b : Addr) : It :=
  ⟨fun i H => ∃ (xs ys : List V) (x y : V), SqL K H a xs ∧ SqL K H b ys ∧ xs[i]? = some x ∧ ys[i]? = some y,
    fun i H v H' => ∃ T x y, v = .ref T ∧ H T = none ∧ H' = upd H T (.tup [x, y]) ∧ (∀ xs, SqL K H a xs → xs[i]? = some x) ∧ ∀ ys, SqL K H b ys → ys[i]? = some y,
    fun i H => ∃ xs ys : List V, SqL K H a xs ∧ SqL K H b ys ∧ (xs.length ≤ i ∨ ys.length ≤ i)⟩
def iZip (K : PySem.W.Frag) (ta : TA) : TI := fun σ H R => ta σ H fun vs H1 => ∃ a b xs ys, vs = [.ref a, .ref b] ∧ SqL K H1 a xs ∧ SqL K H1 b ys ∧ R (Itz K a b) H1
end L2

section 
namespace Bits
open PySem PyProof.Rows

end Bits
end 

section 
namespace TL
open PySem PySem.Builtin PySem.Builtin.Str PySem.StrLaws

abbrev tl (x : Str) : List Nat := x.cps.toList
/-! ### the list functions -/
/-- S stands at the head of l -/
def pre (S l : List Nat) : Bool := l.take S.length == S
/-- l cut at each S from the left; k signs are still to be passed over -/
def spl (S : List Nat) : Nat → List Nat → List Nat → List (List Nat)
  | _, acc, [] => [acc]
  | 0, acc, c :: r => if pre S (c :: r) = true then acc :: spl S (S.length - 1) [] r else spl S 0 (acc ++ [c]) r
  | k + 1, acc, _ :: r => spl S k acc r
/-- what stands before the first S, and behind it -/
def par (S : List Nat) : List Nat → List Nat → Option (List Nat × List Nat)
  | _, [] => none
  | acc, c :: r => if pre S (c :: r) = true then some (acc, (c :: r).drop S.length) else par S (acc ++ [c]) r

/-! ### the model's split and partition are these -/
/-! ### computing spl and par -/
/-- joined lists -/
def joinL (S : List Nat) : List (List Nat) → List Nat
  | [] => []
  | [p] => p
  | p :: q :: r => p ++ (S ++ joinL S (q :: r))
/-! ### digits -/
/-- the signs of a number -/
def numL (n : Nat) : List Nat := (Nat.toDigits 10 n).map Char.toNat
/-! ### words: x.split() -/
def wstep (st : List (List Nat) × List Nat) (c : Nat) : List (List Nat) × List Nat :=
  if Unicode.isSpace c = true then (if st.2 = [] then st else (st.1 ++ [st.2], [])) else (st.1, st.2 ++ [c])
def wfin (st : List (List Nat) × List Nat) : List (List Nat) := if st.2 = [] then st.1 else st.1 ++ [st.2]
end TL
end 

namespace L2
open PySem PySem.Spec PyProof.Rows

/-- a new list of texts, tracked -/
def rNewStrs (ys : List Str) : Hp → VK → Prop := fun H Q => ∀ p, H p = none → Q (.ref p) (upd H p (.lst (ys.map V.str)))

section
variable {X : Cx} {pins : List (Addr × Obj)} {σ : St} {H : Hp} {s : Shared} {Q : VK}
end

section
variable {X : Cx}

/-! ### of a text alone -/
/-! ### of a text and a text -/
/-- int(text) -/
theorem call_int_str : CallR X (.type "int") (fun xs H Q => ∃ a n, xs = [.str a] ∧ PySem.intText? a = some n ∧ a.length ≤ 640 ∧ Q (.int n) H) := by
  intro pins s σ H xs us Q I rs h
  obtain ⟨a, n, rfl, hn, hl, h⟩ := h
  cases rs with
  | cons r1 rs =>
    cases rs
    obtain ⟨t, rfl⟩ := r1
    exact PySem.W.KIN.call_text hn hl ⟨.int n, H, I.tok _, ⟨_, rfl⟩, h⟩
end

section
variable {X : Cx} {o e : Expr} {to te : TE}
def tM0 (r : V → List V → Hp → VK → Prop) (to : TE) : TE := fun σ H Q => to σ H fun x H1 => (∃ a, x = .str a) ∧ r x [] H1 Q
def tM1 (r : V → List V → Hp → VK → Prop) (to te : TE) : TE := fun σ H Q => to σ H fun x H1 => (∃ a, x = .str a) ∧ te σ H1 fun y H2 => r x [y] H2 Q
end
end L2

namespace L2
open PySem PySem.Spec PyProof.Rows

section
variable {X : Cx}
theorem op_gt_str : OpR X (compareOp .Gt) (fun x y H Q => ∃ i j, x = .str i ∧ y = .str j ∧ Q (.bl (decide (j.cps.toList < i.cps.toList))) H) := by
  intro pins s σ H x y v u Q I rx ry h
  obtain ⟨i, j, rfl, rfl, q⟩ := h
  obtain ⟨t, rfl⟩ := rx
  obtain ⟨t', rfl⟩ := ry
  exact PySem.P.gt_str (fin_bl I q rfl)
theorem op_ge_str : OpR X (compareOp .GtE) (fun x y H Q => ∃ i j, x = .str i ∧ y = .str j ∧ Q (.bl (!decide (i.cps.toList < j.cps.toList))) H) := by
  intro pins s σ H x y v u Q I rx ry h
  obtain ⟨i, j, rfl, rfl, q⟩ := h
  obtain ⟨t, rfl⟩ := rx
  obtain ⟨t', rfl⟩ := ry
  exact PySem.P.ge_str (fin_bl I q rfl)
end

/-! ### slices of a text -/
theorem IsPart.raw {v : Value} {o : Option Int} (p : IsPart v o) : ∃ l : Option (Int × Tok), v = partValue l ∧ l.map (·.1) = o := by
  cases p with
  | none => exact ⟨none, rfl, rfl⟩
  | int i t => exact ⟨some (i, t), rfl, rfl⟩

/-- a part, clipped, as the text's slice reckons it -/
def clipS (n d : Nat) : Option Int → Int
  | none => (d : Int)
  | some i => max 0 (min (if i < 0 then i + (n : Int) else i) (n : Int))
theorem clipS_eq (n d : Nat) (o : Option Int) : clipS n d o = ((HT.sIx n d o : Nat) : Int) := by
  cases o with
  | none => rfl
  | some v =>
    show max (0 : Int) (min (if v < 0 then v + (n : Int) else v) (n : Int)) = (((if v < 0 then (v + (n : Int)).toNat else min v.toNat n) : Nat) : Int)
    by_cases hv : v < 0
    · simp only [if_pos hv]
      omega
    · simp only [if_neg hv]
      omega
theorem sidx_clip (a b : Option Int) (n : Nat) : Builtin.Str.strSliceIndices a b 1 n = sliceRange (clipS n 0 a) (clipS n n b) 1 := by
  have h1 : ((1 : Int) > 0) = True := by simp
  cases a <;> cases b <;> first
    | rfl
    | (simp only [Builtin.Str.strSliceIndices, clipS, h1, if_true]; rfl)
    | simp [Builtin.Str.strSliceIndices, clipS]
theorem sidx (a b : Option Int) (n : Nat) : Builtin.Str.strSliceIndices a b 1 n = (List.range (HT.sIx n n b - HT.sIx n 0 a)).map (fun k => HT.sIx n 0 a + k) := by
  rw [sidx_clip, clipS_eq, clipS_eq]
  generalize HT.sIx n 0 a = p
  generalize HT.sIx n n b = q
  simp only [sliceRange, show ((1 : Int) > 0) = True from by simp, if_true]
  by_cases hlt : (p : Int) < q
  · have e3 : (((q : Int) - p + 1 - 1) / 1).toNat = q - p := by first | omega | (simp; done) | (simp; omega)
    simp only [hlt, if_true, e3]
    refine List.map_congr_left fun k _ => ?_
    omega
  · have : q - p = 0 := by omega
    simp [hlt, this]

/-- z[lo:hi] -/
def cutS (z : Str) (lo hi : Option Int) : Str :=
  ⟨((z.cps.toList.drop (HT.sIx z.length 0 lo)).take (HT.sIx z.length z.length hi - HT.sIx z.length 0 lo)).toArray⟩
theorem sliceText_cut (z : Str) (lo hi : Option Int) : PySem.StrLaws.sliceText z lo hi = cutS z lo hi := by
  have h1 : HT.sIx z.length 0 lo ≤ z.length := HT.sIx_le _ _ (Nat.zero_le _) _
  have h2 : HT.sIx z.length z.length hi ≤ z.length := HT.sIx_le _ _ (Nat.le_refl _) _
  have hp : HT.sIx z.length 0 lo ≤ max (HT.sIx z.length 0 lo) (HT.sIx z.length z.length hi) := Nat.le_max_left _ _
  have hq : max (HT.sIx z.length 0 lo) (HT.sIx z.length z.length hi) ≤ z.length := Nat.max_le.mpr ⟨h1, h2⟩
  have hd : max (HT.sIx z.length 0 lo) (HT.sIx z.length z.length hi) - HT.sIx z.length 0 lo = HT.sIx z.length z.length hi - HT.sIx z.length 0 lo := by omega
  have e : Builtin.Str.strSliceIndices lo hi 1 z.length =
      Builtin.Str.strSliceIndices (some ((HT.sIx z.length 0 lo : Nat) : Int)) (some ((max (HT.sIx z.length 0 lo) (HT.sIx z.length z.length hi) : Nat) : Int)) 1 z.length := by
    rw [PySem.StrLaws.strSliceIndices_plain hp hq, hd, sidx]
  have e2 : PySem.StrLaws.sliceText z lo hi =
      PySem.StrLaws.sliceText z (some ((HT.sIx z.length 0 lo : Nat) : Int)) (some ((max (HT.sIx z.length 0 lo) (HT.sIx z.length z.length hi) : Nat) : Int)) := by
    unfold PySem.StrLaws.sliceText
    rw [e]
  rw [e2, PySem.StrLaws.sliceText_nat z hp hq, hd]
  rfl
theorem cutS_length (z : Str) (lo hi : Option Int) : (cutS z lo hi).length ≤ z.length := by
  show (((z.cps.toList.drop (HT.sIx z.length 0 lo)).take (HT.sIx z.length z.length hi - HT.sIx z.length 0 lo)).toArray).size ≤ z.cps.size
  rw [List.size_toArray, List.length_take, List.length_drop, Array.length_toList]
  omega
def rSlS : V → Option Int → Option Int → Hp → VK → Prop := fun x lo hi H Q => ∃ z, x = .str z ∧ z.length ≤ sizeLine ∧ Q (.str (cutS z lo hi)) H
theorem sl_str {X : Cx} : SlR X rSlS := by
  intro pins s σ H x v vl vu lo hi sl Q I rx hs pl pu h
  obtain ⟨z, rfl, hz, q⟩ := h
  obtain ⟨t, rfl⟩ := rx
  obtain ⟨os, hos, hcs, hds⟩ := hs
  obtain ⟨l, rfl, rfl⟩ := IsPart.raw pl
  obtain ⟨u, rfl, rfl⟩ := IsPart.raw pu
  refine ⟨"str", _, F.slot_str_getitem.lookup, typeIs_str _ _ _, ?_⟩
  refine wpAny_getItem_str_slice (l := l) (u := u) (st := none) ⟨os, hos, hcs, hds⟩ rfl ?_
  have hl : (PySem.StrLaws.sliceText z (l.map (·.1)) (u.map (·.1))).length ≤ sizeLine := by
    rw [sliceText_cut]
    exact Nat.le_trans (cutS_length z _ _) hz
  rw [← sliceText_cut] at q
  unfold PySem.StrLaws.sliceText at q hl
  show Made.post (if ((1 : Int) == 1 && (Builtin.Str.strSliceIndices (l.map (·.1)) (u.map (·.1)) 1 z.length).length == z.length) = true then Made.val (.str z t)
    else Made.str ⟨((Builtin.Str.strSliceIndices (l.map (·.1)) (u.map (·.1)) 1 z.length).filterMap (z.cps[·]?)).toArray⟩) (EP X pins σ Q) s
  by_cases c : ((1 : Int) == 1 && (Builtin.Str.strSliceIndices (l.map (·.1)) (u.map (·.1)) 1 z.length).length == z.length) = true
  · rw [if_pos c] at q ⊢
    exact ⟨.str z, H, I, ⟨t, rfl⟩, q⟩
  · rw [if_neg c] at q hl ⊢
    exact ⟨hl, .str _, H, I.tok _, ⟨_, rfl⟩, q⟩
end L2

namespace Att
open PySem PySem.W PySem.Calls PyProof.Rows

/-! ### the script -/
theorem ints_of_wellAll {P : Params} {h : Heap} : ∀ (ns : List Int) (vs : List Value), WellAll P h vs (ns.map WData.int) → IntsAre vs ns := by
  intro ns
  induction ns with
  | nil =>
    intro vs w
    rw [List.map_nil] at w
    cases w
    exact .nil
  | cons n ns ih =>
    intro vs w
    rw [List.map_cons] at w
    cases w with
    | cons a b =>
      cases a
      exact .cons _ _ (ih _ b)

theorem script_of {l : OpenLaw} {n : Nat} (hn : l.most = some n) {P : Params} {h : Heap} {args : List WData} {vals : List Value}
    (hpre : l.row.toRowW.claim.pre args = true) (hwl : WellAll P h vals args) :
    ∃ a vs ns, vals = [Value.ref a] ∧ args = [WData.list (ns.map WData.int)] ∧ h.get? a = some { cls := .type "list", data := .seq vs.toArray } ∧ IntsAre vs ns ∧ ns.length ≤ n := by
  have hsh : WShape.hasAll [] args [.list .int] = true := (pre_splitW hpre).1
  have hc : l.pre.holds [] { args := args } = true := (pre_splitW hpre).2
  obtain ⟨d, r, rfl, h1, h2⟩ := hasAllW_cons hsh
  obtain rfl := hasAllW_nil h2
  obtain ⟨xs, rfl, h3⟩ := hasW_list h1
  obtain ⟨ns, rfl⟩ := items_int h3
  have hlen : ns.length ≤ n := by
    unfold OpenLaw.pre at hc
    have h4 : (WTm.not (.lt (.lit (.int (n : Int))) (.len (.arg 0)))).holds [] { args := [.list (ns.map .int)] } = true := by
      have h4 := (holds_andW hc).1
      rw [hn] at h4
      exact h4
    have h5 := condW_of h4 (w_not (w_lt w_lit (w_len_list (w_arg rfl))))
    rw [List.length_map] at h5
    refine Nat.le_of_not_lt fun q => ?_
    have q' : (n : Int) < ((ns.length : Nat) : Int) := by omega
    first
      | (rw [decide_eq_true q'] at h5; exact absurd h5 (by decide))
      | (simp at h5; omega)
  cases hwl with
  | cons w1 w2 =>
    cases w2
    cases w1 with
    | list ho hall => exact ⟨_, _, ns, rfl, rfl, ho, ints_of_wellAll ns _ hall, hlen⟩

theorem post_true (l : OpenLaw) (args : List WData) : l.row.toRowW.claim.post args (.bool true) args = true :=
  postW_of (r := l.row.toRowW) (X := (true == true))
    (show WShape.has [] (.bool true) .bool = true by first | rfl | decide | simp [WShape.has, WShape.arms, WShape.armsAll])
    (show (WTm.eq .res (.lit (.bool true))).value [] { args := args, res := some (.bool true), after := args } = some (.bool (true == true)) from w_eq_bool (w_res rfl) w_lit) rfl

/-! ### the attachment: holds_open's last premise (the goal 'hc' behind k_head) from a wpAny of the law's body -/
/-- the same from a codeAny of the CALL (for a layer whose function contracts speak of calls) -/
theorem attach_call {l : OpenLaw} {n : Nat} {q : Program} {loose : List Str} {XP : (Str → Option Value) → Heap → Prop} {YP : World → Heap → Prop} {d : DefRec}
    (hn : l.most = some n) (hdf : d.params.defaults = [])
    (call : ∀ (w : World) (s₀ s₁ : Shared) (mg mb : Str → Option Value) (fa : Addr) (o : Obj) (pm cd doc : Value) (a : Addr) (vs : List Value) (ns : List Int),
      Ground q loose [] XP w s₀ mg mb s₁.heap → YP w s₁.heap →
      s₁.heap.get? fa = some o → o.data = .func (docDef d.name d.params d.body d.scope pm cd doc) → s₁.heap.CodeRec cd d.name → mg d.name = some (.ref fa) →
      s₁.heap.get? a = some { cls := .type "list", data := .seq vs.toArray } → IntsAre vs ns → ns.length ≤ n → s₁.gens = #[] →
      codeAny (model l.prog w) callerA (.call (.ref fa) ⟨[.ref a], []⟩) (fun r s' => r = .ok (.ret (.bool true)) ∧ OldK s₁.heap s'.heap ∧ s'.os = s₁.os ∧ AllBare s'.gens) s₁) :
    WalkO q loose XP YP l.row.toRowW d [] (fun f vs => PySem.call f vs) := by
  intro w s₀ s₁ mg mb G Y fa o pm cd doc dV kV ho hd hcd hD hmg hg args vals as hpre hlay hrd hwl hlo
  obtain rfl : dV = .none := Dflts.none hD hdf
  obtain rfl : kV = .none := Dflts.noKw hD
  obtain ⟨a, vs, ns, rfl, rfl, hobj, hints, hlen⟩ := script_of hn hpre hwl
  refine enter_call (codeAny_mono (call w s₀ s₁ mg mb fa o pm cd doc a vs ns G Y ho (fd_plain hd) hcd hmg hobj hints hlen hg) fun r s' hq => ?_)
  obtain ⟨rfl, h2, h3, h4⟩ := hq
  exact ⟨.inl ⟨.bool true, .bool true, [], rfl, fun _ => rfl, .bool true, post_true l _, fun _ => ⟨List.Pairwise.nil, fun _ hm => (nomatch hm)⟩⟩, h2, h3, h4⟩

/-! ### rules over ANY heap (no ledger) from facts about the written part K: the library's own take a ledger (News) for what they write -/
section
variable {prog : Program} {w : World} {A : Around} {E : Value → Shared → Prop} {s : Shared} {K : Frag}

/-! the whole heap as the ledger: makes every rule that writes through a ledger a rule over any heap -/
def noObjs (h : Heap) : Heap := { h with objs := #[] }
def ledger (h : Heap) (L d : Addr) : List (Addr × Obj) := (List.range h.objs.size).filterMap fun a => if a = L ∨ a = d then none else (h.get? a).map fun o => (a, o)
end
end Att

namespace L2
open PySem PySem.Spec PyProof.Rows

theorem vals_ints : ∀ {vs : List Value} {ns : List Int}, IntsAre vs ns → Vals (ns.map V.int) vs
  | _, _, .nil => .nil
  | _, _, .cons n t h => .cons ⟨t, rfl⟩ (vals_ints h)

/-- nothing is tracked but the script, known to the object (or it is an object of the module) -/
def Only (H : Hp) : Prop := ∀ b, H b = none ∨ ∃ o xs, H b = some (.frz o (.lst xs))

/-- THE HEAD: the law's promise, at the heap behind the top. F, the promise of the law's def, may use that base is part of the heap (so K.In base, base.Ns mainGlobals mg stand in Mod) -/
theorem law_call {P : Program} {w : World} {K : PySem.W.Frag} {mg mb : Str → Option Value} {CX : CXT} {k : Nat} {fa a : Addr} {fd : FuncData} {x : Str} {sp : Sp} {s₁ : Shared} {vs : List Value} {ns : List Int}
    (KX : K.In s₁.heap) (hns : s₁.heap.Ns mainGlobals mg) (hb : s₁.heap.Ns builtinsNs mb) (hbb : ∀ x : Str, x ≠ "__name__" → mb x = bootBuiltins x) (hlim : s₁.heap.NoLimit) (hg : s₁.gens = #[])
    (ha : s₁.heap.get? a = some { cls := .type "list", data := .seq vs.toArray }) (hi : IntsAre vs ns) (hl : ns.length ≤ sizeLine) (hr : Room k callerA)
    (F : ∀ base : Heap, K.In base → base.Ns mainGlobals mg → FnOk P w K mg base CX 0 k fa fd [x] sp) (hbind : ∀ (s : Shared) (u : Value), BindsTo s fd ⟨[u], []⟩ [(x, u)])
    (hsp : ∀ H : Hp, Only H → SqL K H a (ns.map V.int) → sp [.ref a] H (fun v _ => v = .bl true) fun _ _ _ => False)
    (hCX : ∀ H e s', CX [] H s₁ (fun _ _ _ => False) e s' → False) :
    codeAny (model P w) callerA (.call (.ref fa) ⟨[.ref a], []⟩) (fun r s' => r = .ok (.ret (.bool true)) ∧ OldK s₁.heap s'.heap ∧ s'.os = s₁.os ∧ AllBare s'.gens) s₁ := by
  have rv := vals_ints hi
  have lenV := hi.length
  -- from an abstract heap in which nothing but the script may be tracked
  have core : ∀ H : Hp, Only H → SqL K H a (ns.map V.int) → HOk P w H s₁.heap → (∀ b, H b ≠ none → b = a) → (H a ≠ none → K.lookup a = none) →
      codeAny (model P w) callerA (.call (.ref fa) ⟨[.ref a], []⟩) (fun r s' => r = .ok (.ret (.bool true)) ∧ OldK s₁.heap s'.heap ∧ s'.os = s₁.os ∧ AllBare s'.gens) s₁ := by
    intro H hO hS hok hA hK
    have base_of : ∀ {b : Addr} {o : Obj}, s₁.heap.get? b = some o → H b = none → (hidT s₁.heap H).get? b = some o := fun e n => hidT_get e n
    have noA : ∀ {b : Addr} {o : Obj} {es : Array DictEntry} {ep : Nat}, s₁.heap.get? b = some o → o.data = .dict es ep → H b = none := fun {b o es ep} e d => by
      cases q : H b with
      | none => rfl
      | some u =>
        have e' : b = a := hA b (by rw [q]; simp)
        subst e'
        rw [ha] at e; cases e
        have d' : Data.seq vs.toArray _ = Data.dict es ep := d
        cases d'
    have nsK : ∀ {b : Addr} {m : Str → Option Value}, s₁.heap.Ns b m → (hidT s₁.heap H).Ns b m := fun {b m} ⟨o, es, ep, e, d, r⟩ => ⟨o, es, ep, base_of e (noA e d), d, r⟩
    have hKb : K.In (hidT s₁.heap H) := fun b o e => base_of (KX b o e) (by
      cases q : H b with
      | none => rfl
      | some u =>
        have e' : b = a := hA b (by rw [q]; simp)
        subst e'
        rw [hK (by rw [q]; simp)] at e; cases e)
    have hM : Mod K mg (hidT s₁.heap H) := ⟨hKb, nsK hns, ⟨mb, nsK hb, hbb⟩, let ⟨mc, h1, h2⟩ := hlim; ⟨mc, nsK h1, h2⟩⟩
    have e0 : Env0 P w K mg (hidT s₁.heap H) callerA [] s₁ H := ⟨rfl, hM, fun b o e => of_hidT e, Nat.le_of_eq (hidT_size _ _), trivial, fun b hb => absurd (show b ∈ ([] : List Addr) from hb) (by simp), hok, .of_eq hg⟩
    refine codeAny_mono ((F _ hKb (nsK hns)).run callerA [] s₁ H ⟨[.ref a], []⟩ [.ref a] [.ref a] _ _ hr (Nat.zero_le _) e0 (hbind s₁ (.ref a)) (.cons rfl .nil) (hsp H hO hS)) fun r s' h => ?_
    cases r with
    | error e => exact (hCX H e s' h).elim
    | ok fl =>
      cases fl with
      | next => exact False.elim h
      | brk => exact False.elim h
      | cont => exact False.elim h
      | ret u =>
        obtain ⟨v, H', os, bare, un, hok', r', q⟩ := h
        have q' : v = .bl true := q
        subst q'
        obtain rfl : u = Value.bool true := r'
        refine ⟨rfl, OldK.of_keep fun b o e => ?_, os, bare⟩
        cases q : H b with
        | none => exact un.keep b o e q (by intro z; exact absurd (show b ∈ ([] : List Addr) from z) (by simp)) (by simp)
        | some u =>
          rcases hO b with z | ⟨ob, xs, z⟩
          · rw [q] at z; cases z
          · have z2 := un.frzs b ob _ z
            obtain ⟨e1, _⟩ := hok b _ z
            obtain ⟨e2, _⟩ := hok' b _ z2
            rw [e] at e1; cases e1
            exact e2
  cases hk : K.lookup a with
  | some o =>
    -- the script is one of the module's own objects
    have e := KX a o hk
    rw [ha] at e
    cases e
    refine core (fun _ => none) (fun _ => .inl rfl) (.inr ⟨_, vs.toArray, _, hk, rfl, rfl, rfl, by rw [List.size_toArray, lenV]; exact hl, by simpa using rv⟩) (fun b u z => by have z' : (none : Option HO) = some u := z; cases z') (fun b z => absurd rfl z) fun z => absurd rfl z
  | none =>
    refine core (fun b => if b = a then some (.frz { cls := .type "list", data := .seq vs.toArray } (.lst (ns.map V.int))) else none) (fun b => ?_) (.inl (.inr ⟨{ cls := .type "list", data := .seq vs.toArray }, if_pos rfl⟩)) (fun b u z => ?_) (fun b z => ?_) fun _ => hk
    · by_cases hb : b = a
      · exact .inr ⟨_, _, if_pos hb⟩
      · exact .inl (if_neg hb)
    · by_cases hb : b = a
      · have z' := (if_pos hb).symm.trans z
        cases z'
        subst hb
        exact ⟨ha, by rw [List.length_map]; exact hl, vs, _, rv, ha⟩
      · have z' := (if_neg hb).symm.trans z
        cases z'
    · by_cases hb : b = a
      · exact hb
      · exact absurd (if_neg hb) z
end L2

namespace L2
open PySem PySem.Spec PyProof.Rows

abbrev KOf {K : PySem.W.Frag} {h : Heap} (_ : K.In h) : PySem.W.Frag := K

/-- the goal that k_head leaves (case hc), from the law's promise. F gives the function object fd (K's own) once, then the promise over every base -/
theorem walk_of {l : PySem.W.OpenLaw} {n k : Nat} {q : Program} {loose : List Str} {XP : (Str → Option Value) → Heap → Prop} {YP : World → Heap → Prop} {d : DefRec} {K : Params → PySem.W.Frag} {CX : World → CXT} {sp : World → Sp} {x : Str}
    (hn : l.most = some n) (hn2 : n ≤ sizeLine) (hdf : d.params.defaults = []) (hr : Room k callerA)
    (hY : ∀ (w : World) (h : Heap), YP w h → (K w.params).In h)
    (F : ∀ (w : World) (mg : Str → Option Value) (fa : Addr) (h : Heap), (K w.params).In h → h.Ns mainGlobals mg → mg d.name = some (.ref fa) →
      ∃ fd : FuncData, (∀ (s : Shared) (u : Value), BindsTo s fd ⟨[u], []⟩ [(x, u)]) ∧
        ∀ base : Heap, (K w.params).In base → base.Ns mainGlobals mg → FnOk l.prog w (K w.params) mg base (CX w) 0 k fa fd [x] (sp w))
    (hsp : ∀ (w : World) (H : Hp) (a : Addr) (ns : List Int), ns.length ≤ n → Only H → SqL (K w.params) H a (ns.map V.int) → sp w [.ref a] H (fun v _ => v = .bl true) fun _ _ _ => False)
    (hCX : ∀ (w : World) (H : Hp) (s : Shared) (e : Value) (s' : Shared), CX w [] H s (fun _ _ _ => False) e s' → False) :
    PySem.W.WalkO q loose XP YP l.row.toRowW d [] (fun f vs => PySem.call f vs) := by
  refine Att.attach_call hn hdf fun w s₀ s₁ mg mb fa o pm cd doc a vs ns G Y ho hd hcd hmg hobj hints hlen hg => ?_
  have KX := hY w _ Y
  obtain ⟨fd, hb, hF⟩ := F w mg fa _ KX G.T.g hmg
  exact law_call KX G.T.g G.T.b G.T.builtins G.T.nolimit hg hobj hints (Nat.le_trans hlen hn2) hr hF hb (fun H hO hS => hsp w H a ns hlen hO hS) fun H e s' => hCX w H s₁ e s'
end L2

/- THE LAST THEOREM (shape; LID, My.* are yours):
   My.Adr: a structure of the addresses that your layer names (classes, functions); My.Txt K t: a structure (Prop) of the equations over K;
   My.txt_mk : {K} {implicit addresses ..} (e1 : nsIn K mainGlobals "law" = some (some (.ref f))) (e2 : K.lookup f = some ⟨oc, od, .func (fnOf "law" "law" params body scope dV kV doc pm an cdv ct), sl⟩) (e3 : codeIn K cdv "law" = true) .. : ∃ t, My.Txt K t

set_option maxRecDepth 100000 in
set_option maxHeartbeats 0 in
theorem PySem.Challenge.cw_LID_holds : PySem.Challenge.rw_LID.Holds := by
  w_on; o_law; k_head; (case hw => w_witness2)
  k_fill
  refine L2.walk_of (l := PySem.Challenge.rw_LID) (n := 63) (k := 40) (x := "script") (CX := fun w => ..) (sp := fun _ => My.sp_law) rfl (by decide) rfl ⟨rfl, by decide, by decide⟩ (fun w h Y => PySem.W.kIn_of Y) ?F ?S ?C
  case F =>
    intro w mg fa h KX G hmg
    have T : ∃ t, My.Txt (L2.KOf KX) t := by
      dsimp only [L2.KOf]                          -- K must stand as «<heap const> w.params» for k_is
      refine' My.txt_mk ?e1 ?e2 ?e3 ..
      (case e1 => PySem.W.k_is)                    -- in the order: a name -> its address -> its object -> its parts
      (case e2 => PySem.W.k_is)
      ..
    obtain ⟨t, T⟩ := T
    have e0 := hmg.symm.trans (PySem.W.mg_of KX G T.law)
    cases e0                                       -- fa is the law's own address
    exact ⟨_, fun s u => .of_eq rfl, fun base kb nb => My.law_fn T kb nb⟩     -- if «.of_eq rfl» comes too early: refine' ⟨_, ?b, fun base kb nb => My.law_fn T kb nb⟩; exact fun s u => .of_eq rfl
  case S => exact fun w H a ns hl hO hS => ..
  case C => exact ..
(the tactic k_is has no namespace: write k_is) -/

/-! SHORT WORDS over the layer: a def of the text, its body, what a loop and a test want. -/
namespace L2
open PySem PySem.Spec PyProof.Rows

/-! ### the text by places -/
/-- the j-th statement of a class's body -/
def inClass (s : Stmt) (j : Nat) : Stmt := match s with
  | .ClassDef _ _ _ body _ _ _ _ _ _ _ => body.getD j (.Pass ⟨0, 0, 0, 0⟩)
  | _ => .Pass ⟨0, 0, 0, 0⟩
def defArgs (s : Stmt) : Arguments := match s with
  | .FunctionDef _ a _ _ _ _ _ _ _ _ => a
  | _ => { posonlyargs := [], args := [], vararg := none, kwonlyargs := [], kw_defaults := [], kwarg := none, defaults := [] }
def defBody (s : Stmt) : List Stmt := match s with
  | .FunctionDef _ _ b _ _ _ _ _ _ _ => b
  | _ => []
def defScope (s : Stmt) : Scope := match s with
  | .FunctionDef _ _ _ _ _ _ sc _ _ _ => sc
  | _ => { kind := .function, names := [], isGenerator := false, isCoroutine := false }

/-! ### no exception leaves a def -/
abbrev CX0 : CXT := fun _ _ _ _ _ _ => False
abbrev E0 : XK := fun _ _ _ => False
theorem pass0 {X : Cx} : Passes CX0 X E0 := fun _ _ _ _ _ _ _ h => h.elim

/-! ### a def (or method) of the text as it stands behind the top -/
structure Fun (K : PySem.W.Frag) (x qual : Str) (st : Stmt) (f : Addr) (fd : FuncData) : Prop where
  ex : ∃ (oc : Value) (od : Option Addr) (kV doc pm : Value) (an : Option Addr) (cdv ct : Value) (osl : Array (Option Value)),
    fd = PySem.W.fnOf x qual (defArgs st) (defBody st) (defScope st) .none kV doc pm an cdv ct ∧ K.lookup f = some ⟨oc, od, .func fd, osl⟩ ∧ PySem.W.codeIn K cdv qual = true
  kp : PySem.W.keepIn K (.ref f) = true
section
variable {P : Program} {w : World} {K : PySem.W.Frag} {mg : Str → Option Value} {base : Heap}
/-- THE RULE for a def: its body as a term of rules, and the reading of that term -/
theorem Fun.ok {x qual : Str} {st : Stmt} {f : Addr} {fd : FuncData} {N ps : List Str} {n k : Nat} {sp : Sp} (F : Fun K x qual st f fd) (S : FnScope N ps (defScope st)) (len : ∀ vs H Q E, sp vs H Q E → vs.length = ps.length)
    (hbody : ∀ (cdv : Value) (A : Around) (outer : List Env) (s : Shared) (H : Hp) (vs : List V) (Q : VK) (E : XK), Room k (A.deeper (envOfC qual (defScope st) s.heap.objs.size f cdv)) → sp vs H Q E →
      ∃ t, PSs (cxOf CX0 n P w K mg base N qual (defScope st) f cdv A outer s H E).nox (defBody st) t ∧ t { nx := fun _ H' => Q .non H', rt := Q } (start N vs) H) : FnOk P w K mg base CX0 n (k + 1) f fd ps sp := by
  obtain ⟨oc, od, kV, doc, pm, an, cdv, ct, osl, rfl, lk, hcd⟩ := F.ex
  refine fn_of lk hcd S len fun A outer s H vs Q E hr hsp => ?_
  obtain ⟨t, h, q⟩ := hbody cdv A outer s H vs Q E hr hsp
  exact ⟨t, h.nox, q⟩
/-- how its arguments bind (no defaults): h is «fun _ _ _ _ _ _ us hl => match us, hl with | [_, _], _ => rfl», one _ a parameter -/
theorem Fun.binds {x qual : Str} {st : Stmt} {f : Addr} {fd : FuncData} {ps : List Str} (F : Fun K x qual st f fd)
    (h : ∀ (kV doc pm : Value) (an : Option Addr) (cdv ct : Value) (us : List Value), us.length = ps.length → bindArgs (PySem.W.fnOf x qual (defArgs st) (defBody st) (defScope st) .none kV doc pm an cdv ct) ⟨us, []⟩ = pure (ps.zip us)) : Binds K fd ps [] := by
  obtain ⟨oc, od, kV, doc, pm, an, cdv, ct, osl, rfl, lk, hcd⟩ := F.ex
  exact .all (h kV doc pm an cdv ct)
theorem fun_mk {x qual : Str} {st : Stmt} {f : Addr} {oc : Value} {od an : Option Addr} {osl : Array (Option Value)} {kV doc pm cdv ct : Value} (l : K.lookup f = some ⟨oc, od, .func (PySem.W.fnOf x qual (defArgs st) (defBody st) (defScope st) .none kV doc pm an cdv ct), osl⟩)
    (c : PySem.W.codeIn K cdv qual = true) (k : PySem.W.keepIn K (.ref f) = true) : Fun K x qual st f (PySem.W.fnOf x qual (defArgs st) (defBody st) (defScope st) .none kV doc pm an cdv ct) := ⟨⟨oc, od, kV, doc, pm, an, cdv, ct, osl, rfl, l, c⟩, k⟩
end
/-! ### expressions in short: the name that stands in the i-th slot -/
section
variable {X : Cx}
theorem pv (i : Nat) {x : Str} {pos : Pos} (hN : X.N[i]? = some x := by rfl) (hv : Vis X.env.scope x := by first | exact Or.inl rfl | exact Or.inr (Or.inl rfl) | exact Or.inr (Or.inr rfl)) (hd : (x == ("__debug__" : Str)) = false := by decide)
    (hcd : (x == ("__classdict__" : Str)) = false := by decide) : PE X (.Name x pos) (tVar i) := pe_var hN hv hd hcd
end

/-! ### tests -/
theorem iteF {A B : Prop} (h : B) : if false = true then A else B := by
  rw [if_neg Bool.false_ne_true]
  exact h
theorem iteT {A B : Prop} (h : A) : if true = true then A else B := by
  rw [if_pos rfl]
  exact h
/-! ### heaps -/
/-- all that was tracked is as it was -/
def Same (H H' : Hp) : Prop := ∀ b o, H b = some o → H' b = some o
theorem Same.refl (H : Hp) : Same H H := fun _ _ h => h
theorem Same.trans {H H1 H2 : Hp} (a : Same H H1) (b : Same H1 H2) : Same H H2 := fun c o h => b c o (a c o h)
theorem Same.free {H H' : Hp} (e : Same H H') {l : Addr} (h : H' l = Option.none) : H l = Option.none := by
  cases q : H l with
  | none => rfl
  | some o =>
    rw [e l o q] at h
    cases h
theorem Same.seq {K : PySem.W.Frag} {H H' : Hp} {a : Addr} {xs : List V} (e : Same H H') (h : SqL K H a xs) : SqL K H' a xs := by
  rcases h with (h | ⟨o, h⟩) | h
  · exact .inl (.inl (e _ _ h))
  · exact .inl (.inr ⟨o, e _ _ h⟩)
  · exact .inr h

/-! ### a dict's pairs: keys that differ -/
section
variable {κ : Type} [DecidableEq κ]
end
/-! ### lists -/
theorem at_of {xs : List V} {z : Int} {j : Nat} {v : V} (e : z = (j : Int)) (h : xs[j]? = some v) : atI xs z = some v := by
  rw [e]
  exact atI_nat h
/-- a new instance and its __init__ leave all that was tracked as it was -/
theorem Same.made {H H1 : Hp} {x dx C : Addr} (nx : H x = Option.none) (nd : H dx = Option.none) (k : ∀ b o, (upd (upd H dx (.own x)) x (.ins C dx [])) b = some o → b ≠ x → H1 b = some o) : Same H H1 := fun b o e =>
  k b o (by rw [upd_ne (ne_of_none e nx), upd_ne (ne_of_none e nd)]; exact e) (ne_of_none e nx)
end L2
namespace L2
open PySem PySem.Spec PyProof.Rows
/-! ### built-ins by their names -/
theorem bt_len : bootBuiltins "len" = some (.builtin "len") := PySem.boot_len
theorem bt_abs : bootBuiltins "abs" = some (.builtin "abs") := by decide +kernel
theorem bt_isinstance : bootBuiltins "isinstance" = some (.builtin "isinstance") := by decide +kernel
theorem bt_all : bootBuiltins "all" = some (.builtin "all") := by decide +kernel
theorem bt_int : bootBuiltins "int" = some (.type "int") := by decide +kernel
theorem bt_str : bootBuiltins "str" = some (.type "str") := by decide +kernel
theorem bt_bool : bootBuiltins "bool" = some (.type "bool") := by decide +kernel
theorem bt_list : bootBuiltins "list" = some (.type "list") := by decide +kernel
theorem bt_tuple : bootBuiltins "tuple" = some (.type "tuple") := by decide +kernel
section
variable {X : Cx}
/-! ### one rule or another -/
theorem PI.or {tg e : Expr} {w1 w2 : TI} (h1 : PI X tg e w1) (h2 : PI X tg e w2) : PI X tg e (fun σ H R => w1 σ H R ∨ w2 σ H R) :=
  fun pins s σ H R I h => h.elim (h1 pins s σ H R I) (h2 pins s σ H R I)
def rAddI : R2 := rI0 fun i j => .int (i + j)
def rAddS : R2 := fun x y H Q => ∃ i j, x = .str i ∧ y = .str j ∧ i.length + j.length ≤ sizeLine ∧ Q (.str (i ++ j)) H
def rAddA (K : PySem.W.Frag) : R2 := fun x y H Q => rAddI x y H Q ∨ rAddS x y H Q ∨ rCat x y H Q ∨ rCatT K x y H Q
theorem op_addA : OpR X (binaryOp .Add) (rAddA X.K) := OpR.or op_add (OpR.or op_add_str (OpR.or op_cat op_catT))
/-- a text many times over: some text, not too long -/
def rMulS : R2 := fun x y H Q => ∃ (z : Str) (n : Int), x = .str z ∧ y = .int n ∧ 0 ≤ n ∧ n ≤ 1000 ∧ z.length ≤ 1000 ∧ ∀ t : Str, t.length ≤ z.length * n.toNat → Q (.str t) H
theorem rep_size (a : Array Nat) : ∀ n : Nat, ∀ b : Array Nat, ((List.replicate n a).foldl (· ++ ·) b).size = b.size + a.size * n
  | 0, b => by simp
  | n + 1, b => by
    rw [List.replicate_succ, List.foldl_cons, rep_size a n (b ++ a), Array.size_append, Nat.mul_succ]
    omega
theorem op_mul_str : OpR X (binaryOp .Mult) rMulS := by
  intro pins s σ H x y v u Q I rx ry h
  obtain ⟨z, n, rfl, rfl, h0, h1, hz, q⟩ := h
  obtain ⟨t, rfl⟩ := rx
  obtain ⟨k, rfl⟩ := ry
  have lz : z.length * n.toNat ≤ 1000000 := Nat.mul_le_mul hz (by omega : n.toNat ≤ 1000)
  refine PySem.P.mul_str (by rw [decide_eq_false (by omega), decide_eq_false (by omega)]; rfl) (fun _ _ => ?_) (fun _ _ => ?_) ?_
  · have e : (2 ^ 63 - 1 : Int) / n ≥ (2 ^ 63 - 1) / 1000 := by
      by_cases hn : n ≤ 0
      · omega
      · refine Int.le_ediv_of_mul_le (by omega) ?_
        have : (2 ^ 63 - 1 : Int) / 1000 * n ≤ (2 ^ 63 - 1 : Int) / 1000 * 1000 := Int.mul_le_mul_of_nonneg_left h1 (by decide)
        have : (2 ^ 63 - 1 : Int) / 1000 * 1000 ≤ 2 ^ 63 - 1 := by decide
        omega
    have : (2 ^ 63 - 1 : Int) / 1000 ≥ 1000 := by decide
    omega
  · unfold Builtin.Str.tooLong sizeLine
    exact decide_eq_false (by omega)
  · by_cases c : n < 1
    · rw [if_pos c]
      exact ⟨by decide, ⟨.str Str.empty, H, I.tok _, ⟨_, rfl⟩, q Str.empty (Nat.zero_le _)⟩⟩
    · rw [if_neg c]
      by_cases d : (n == 1 || z.length == 0) = true
      · rw [if_pos d]
        refine ⟨.str z, H, I, ⟨_, rfl⟩, q z ?_⟩
        exact Nat.le_mul_of_pos_right _ (by omega)
      · rw [if_neg d]
        have e : (⟨(List.replicate n.toNat z.cps).foldl (· ++ ·) #[]⟩ : Str).length = z.length * n.toNat := by
          show ((List.replicate n.toNat z.cps).foldl (· ++ ·) #[]).size = z.cps.size * n.toNat
          rw [rep_size]
          simp
        refine ⟨?_, ⟨.str _, H, I.tok _, ⟨_, rfl⟩, q _ (Nat.le_of_eq e)⟩⟩
        rw [e]
        exact Nat.le_trans lz (by decide)
def rMulA : R2 := fun x y H Q => rI CMul (fun i j => .int (i * j)) x y H Q ∨ rRep x y H Q ∨ rMulS x y H Q
theorem op_mulA : OpR X (binaryOp .Mult) rMulA := OpR.or op_mul (OpR.or op_rep op_mul_str)
def rEqA (K : PySem.W.Frag) : R2 := fun x y H Q => rEq x y H Q ∨ rEqD K x y H Q
def rNeA (K : PySem.W.Frag) : R2 := fun x y H Q => rNe x y H Q ∨ rNeD K x y H Q
theorem op_eqA (hu : X.A.units + 64 < cLine) : OpR X (compareOp .Eq) (rEqA X.K) := OpR.or op_eq (op_eqD hu)
theorem op_neA (hu : X.A.units + 64 < cLine) : OpR X (compareOp .NotEq) (rNeA X.K) := OpR.or op_ne (op_neD hu)
def rLtS : R2 := fun x y H Q => ∃ i j, x = .str i ∧ y = .str j ∧ Q (.bl (decide (i.cps.toList < j.cps.toList))) H
def rLeS : R2 := fun x y H Q => ∃ i j, x = .str i ∧ y = .str j ∧ Q (.bl (!decide (j.cps.toList < i.cps.toList))) H
def rGtS : R2 := fun x y H Q => ∃ i j, x = .str i ∧ y = .str j ∧ Q (.bl (decide (j.cps.toList < i.cps.toList))) H
def rGeS : R2 := fun x y H Q => ∃ i j, x = .str i ∧ y = .str j ∧ Q (.bl (!decide (i.cps.toList < j.cps.toList))) H
theorem op_ltA : OpR X (compareOp .Lt) (fun x y H Q => rI0 (fun i j => .bl (decide (i < j))) x y H Q ∨ rLtS x y H Q) := OpR.or op_lt op_lt_str
theorem op_gtA : OpR X (compareOp .Gt) (fun x y H Q => rI0 (fun i j => .bl (decide (j < i))) x y H Q ∨ rGtS x y H Q) := OpR.or op_gt op_gt_str
theorem op_geA : OpR X (compareOp .GtE) (fun x y H Q => rI0 (fun i j => .bl (decide (j ≤ i))) x y H Q ∨ rGeS x y H Q) := OpR.or op_ge op_ge_str
def rInS : R2 := fun x y H Q => ∃ (c : Nat) (z : Str), x = .str ⟨#[c]⟩ ∧ y = .str z ∧ Q (.bl (decide (c ∈ z.cps.toList))) H
theorem sl_any : SlR X (fun x lo hi H Q => rSlL X.K x lo hi H Q ∨ rSlS x lo hi H Q) := SlR.or sl_list sl_str
/-! ### an own def by its promise -/
structure Has (P : Program) (w : World) (K : PySem.W.Frag) (mg : Str → Option Value) (base : Heap) (x : Str) (k : Nat) (ps : List Str) (sp : Sp) : Prop where
  ex : ∃ (f : Addr) (fd : FuncData), FnOk P w K mg base CX0 1 k f fd ps sp ∧ mg x = some (.ref f) ∧ PySem.W.keepIn K (.ref f) = true ∧ Binds K fd ps [] ∧
    ∀ (kw : Str), ps = [kw] → KBinds K fd ps [kw] (fun us ws => us ++ ws) (fun vs zs => vs ++ zs)
theorem Has.imp {P : Program} {w : World} {K : PySem.W.Frag} {mg : Str → Option Value} {base : Heap} {x : Str} {k : Nat} {ps : List Str} {sp sp' : Sp} (h : Has P w K mg base x k ps sp) (hi : ∀ vs H Q E, sp' vs H Q E → sp vs H Q E) : Has P w K mg base x k ps sp' :=
  let ⟨f, fd, F, r⟩ := h.ex
  ⟨f, fd, F.imp hi, r⟩
variable {x : Str} {k : Nat} {ps : List Str} {sp : Sp} {p pos kpos : Pos} {e : Expr} {es : List Expr} {te : TE} {t : TA}
theorem pe_own (h : Has X.prog X.w X.K X.mg X.base x k ps sp) (hr : Room k X.A) (hg : Gl X x) (ha : PA X (e :: es) t) (hdb : (x == ("__debug__" : Str)) = false := by decide)
    (he : starEach (e :: es) X.env = (false, eval e X.env) :: starEach es X.env := by rfl) (hpl : (backTo pos (starEach es X.env)).any (·.1) = false := by rfl) (hn : 1 ≤ X.tk := by first | exact Nat.le_refl _ | assumption) :
    PE X (.Call (.Name x p) (e :: es) [] pos) (tCall sp [] E0 t) :=
  let ⟨_, _, F, hm, hk, hb, _⟩ := h.ex
  pe_call F hr hg hm hk hb .nil pass0 ha hdb he hpl hn
/-- f(k = e), f of one parameter -/
def tKw (sp : Sp) (te : TE) : TE := fun σ H Q => te σ H fun v H1 => sp [v] H1 Q E0
end
end L2
namespace XC
open PySem PySem.W PySem.Calls PyProof.Rows Builtin Builtin.ObjectAttr
/-! ### making an exception of the program's own: new, then its own __init__ -/
/-- the class at C: made by newId, which is B's -/
def makesX (K : Frag) (C : Addr) (newId B : String) : Bool := match K.lookup C with
  | some ⟨_, _, .cls cd, sl⟩ => !cd.abstract && !cd.hasDel && (sl.toList[4]?).join == some (.builtin newId) && !cd.mro.isEmpty && cd.mro.contains (.ref C) && cd.mro.contains (.type B) && !cd.mro.contains (.type "AttributeError") && !cd.mro.contains (.type "NameError") &&
      specialIn K (.ref C) "__call__" == some (some (.builtin "type.__call__")) && instIn K (.ref C) (.type "type") == some true
  | _ => false
structure MakesX (M : Model) (h : Heap) (C : Addr) (newId B : String) : Prop where
  obj : ∃ oc od cd sl, h.get? C = some ⟨oc, od, .cls cd, sl⟩ ∧ cd.abstract = false ∧ cd.hasDel = false ∧ cd.mro.isEmpty = false
  made : Looks M h (Bind.madeBy (.ref C)) (some newId)
  base : Looks M h (Bind.staticBase (.ref C)) (.ref C)
  self : Looks M h (isSubtype (.ref C) (.ref C)) true
  top : Looks M h (isSubtype (.ref C) (.type B)) true
  noA : Looks M h (isSubtype (.ref C) (.type "AttributeError")) false
  noN : Looks M h (isSubtype (.ref C) (.type "NameError")) false
  call : Looks M h (specialOf (.ref C) "__call__") (some (.builtin "type.__call__"))
  typ : Looks M h (isInstance (.ref C) (.type "type")) true
theorem makesX_of {K : Frag} {M : Model} {h : Heap} (X : K.In h) {C : Addr} {newId B : String} (e : makesX K C newId B = true) : MakesX M h C newId B := by
  unfold makesX at e
  split at e
  · rename_i oc od cd sl ho
    simp only [Bool.and_eq_true, Bool.not_eq_true', beq_iff_eq] at e
    obtain ⟨⟨⟨⟨⟨⟨⟨⟨⟨e1, e2⟩, e3⟩, e4⟩, e5⟩, e6⟩, e9⟩, e10⟩, e7⟩, e8⟩ := e
    have hc : clsIn K C = some cd := by unfold clsIn; rw [ho]
    have hm : Looks M h (mroOf (.ref C)) cd.mro := (looks_clsIn X hc).andThen .now
    have sub : ∀ {v : Value} {b : Bool}, cd.mro.contains v = b → mroIn K C v = some b := fun {v b} q => by unfold mroIn; rw [hc, Option.bind_some, if_neg (by rw [e4]; decide), q]
    obtain ⟨c, l, hl⟩ : ∃ c l, cd.mro = c :: l := by cases q : cd.mro with | nil => rw [q] at e4; cases e4 | cons c l => exact ⟨c, l, rfl⟩
    have made : Looks M h (Bind.madeBy (.ref C)) (some newId) := by
      intro A Q E s k q; unfold Bind.madeBy
      refine wpAny_bind (hm A _ E s k ?_); rw [hl, List.forIn_cons]
      refine wpAny_bind (wpAny_bind (wpAny_bind (wpAny_bind (wpAny_loadPart (k _ _ (X _ _ ho)) (wpAny_pure ?_))))); dsimp only
      rw [← Array.getElem?_toList, e3]
      exact wpAny_pure (wpAny_pure (wpAny_pure q))
    refine ⟨⟨oc, od, cd, sl, X _ _ ho, e1, e2, e4⟩, made, ?_, looks_mroIn X (sub e5), looks_mroIn X (sub e6), looks_mroIn X (sub e9), looks_mroIn X (sub e10), looks_specialIn X e7, looks_instIn X e8⟩
    intro A Q E s k q; unfold Bind.staticBase
    refine wpAny_bind (hm A _ E s k ?_); rw [hl, List.forIn_cons]
    exact wpAny_bind (wpAny_bind (wpAny_bind (made A _ E s k (wpAny_pure (wpAny_pure (wpAny_pure q))))))
  · cases e
abbrev tupO (us : List Value) : Obj := { cls := .type "tuple", data := .seq us.toArray }
abbrev excO (C t : Addr) : Obj := { cls := .ref C, data := .fields #[.ref t, .none, .none, .none, .bool false, .none] }
section
variable {prog : Program} {w : World} {A : Around} {K : Frag} {C : Addr} {R : Result → Shared → Prop} {h : Heap} {g : Array GenState} {d : Drawn} {t : Nat} {os : OsState} {B newId initId : String} {bm : List Value}
theorem new_X (F : ExcBaseFacts B newId initId bm) {rest : List Value} {kw : List (Str × Value)} (Y : MakesX (model prog w) h C newId B)
    (ha : Bind.checkArgs newId ⟨.any, B, B, .cls, [⟨"args", .varPos, false⟩, ⟨"kwargs", .varKw, false⟩]⟩ ⟨.ref C :: rest, kw⟩ = pure ()) (hrest : rest.length ≤ sizeLine)
    (hq : R (.ok (.ret (.ref (h.objs.size + 1)))) ⟨(h.push (tupO rest)).push (excO C h.objs.size), g, d, t, os⟩) :
    codeAny (model prog w) A (.call (.builtin newId) ⟨.ref C :: rest, kw⟩) R ⟨h, g, d, t, os⟩ := by
  obtain ⟨⟨oc, od, cd, sl, hC, e1, e2, e4⟩, made, base, self, top, noA, noN, call, typ⟩ := Y
  refine codeAny_call_builtin_code (Code.quiet_builtin _ F.quiet) ?_
  have hstar := F.noStar
  have here : Looks (model prog w) h (Bind.madeHere newId (.ref C)) () := base.andThen (made.andThen (Looks.of_pure (by simp only [Option.map_some, bne_self_eq_false, Bool.false_eq_true, if_false])))
  have here2 : Looks (model prog w) h (Bind.madeHere "BaseException.__new__" (.ref C)) () := base.andThen (made.andThen (Looks.of_pure (by simp only [Option.map_some, F.canon, bne_self_eq_false, Bool.false_eq_true, if_false])))
  simp only [checkBuiltinCall, F.newKind, F.newSplit, F.newRow]
  rw [ha]
  repeat (first | simp only [bne_self_eq_false, Bool.false_eq_true, if_false] | lk)
  refine codeAny_builtinAt F.entry ?_
  unfold Builtin.«BaseException.__new__»; refine PySem.wpAt_bind ?_
  refine (show PySem.wpAt _ _ _ (stack >>= _) _ _ _ from PySem.wpAt_bind (PySem.wpAt_stack fun p below => PySem.wpAt_of_wpAny ?_))
  have hends := F.ends
  wp_walk
  refine PySem.wpAt_of_wpAny ?_; rw [F.owner]
  repeat (first | with_reducible refine Looks.at (by assumption) ?_ | with_reducible refine wpAny_loadPart_at hC ?_ | wp_step)
  show R _ _
  rw [Heap.size_push]
  exact hq
/-- C(..): a new exception, then its __init__, a def of the program -/
theorem make_X (F : ExcBaseFacts B newId initId bm) {rest : List Value} {kw : List (Str × Value)} {init : Value} (Y : MakesX (model prog w) h C newId B) (hi : Looks (model prog w) h (typeLookup (.ref C) "__init__") (some init)) (hb : ∀ self, Looks (model prog w) h (bindSpecial init self) (init, [self]))
    (ha : Bind.checkArgs newId ⟨.any, B, B, .cls, [⟨"args", .varPos, false⟩, ⟨"kwargs", .varKw, false⟩]⟩ ⟨.ref C :: rest, kw⟩ = pure ()) (hrest : rest.length ≤ sizeLine)
    (hq : codeAny (model prog w) (A.under (.builtin "type.__call__" ⟨.ref C :: rest, kw⟩)) (.call init ⟨.ref (h.objs.size + 1) :: rest, kw⟩) (InitBack (h.objs.size + 1) R) ⟨(h.push (tupO rest)).push (excO C h.objs.size), g, d, t, os⟩) :
    codeAny (model prog w) A (.call (.ref C) ⟨rest, kw⟩) R ⟨h, g, d, t, os⟩ := by
  have Y' := Y
  obtain ⟨⟨oc, od, cd, sl, hC, e1, e2, e4⟩, made, base, self, top, noA, noN, call, typ⟩ := Y
  refine codeAny_of_tree ?_; refine (show wpAny _ _ (callAny (.ref C) _) _ _ _ from nd_load hC ?_)
  refine (show wpAny _ _ (callAny.viaDunder (.ref C) _) _ _ _ from ?_); unfold callAny.viaDunder
  refine wpAny_bind (call.at ?_); dsimp only; rw [tc_bind]
  refine wpAny_bind (wpAny_pure (wpAny_bind (wpAny_pure (wpAny_pure (a := Fin.again (.call (.builtin "type.__call__") ⟨.ref C :: rest, kw⟩)) (And.intro rfl ?_)))))
  refine codeAny_call_builtin_at (Code.quiet_builtin _ (by decide +kernel)) entry_typeCall (check_slot tc_kind tc_split typ (tc_args _ _ _) ?_); unfold Builtin.«type.__call__»
  have hm : Looks (model prog w) h (mroOf (.ref C)) cd.mro := ((Looks.ld (part := none) hC).andThen .now).andThen .now
  repeat (first | simp only [e4, Bool.false_eq_true, if_false] | with_reducible refine wpAny_call ?_ | lk)
  refine new_X F Y' ha hrest ?_
  have k : ∀ b o, h.get? b = some o → ((h.push (tupO rest)).push (excO C h.objs.size)).get? b = some o := fun b o e => Heap.get?_push_of_some _ (Heap.get?_push_of_some _ e)
  have hx : ((h.push (tupO rest)).push (excO C h.objs.size)).get? (h.objs.size + 1) = some (excO C h.objs.size) := by heap_get
  have t1 : Looks (model prog w) ((h.push (tupO rest)).push (excO C h.objs.size)) (typeOf (.ref (h.objs.size + 1))) (.ref C) := (Looks.ld hx).andThen .now
  have s1 := self.keeps k
  have i1 := hi.keeps k
  have b1 := (hb (.ref (h.objs.size + 1))).keeps k
  unfold isInstance callSpecial? specialOf; repeat (first | with_reducible refine wpAny_call ?_ | lk)
  refine codeAny_mono hq fun r s' z => ?_
  rcases r with e | (v | _ | _ | _) <;> first | exact z | exact z.elim | skip
  obtain ⟨rfl, z⟩ := z
  exact wpAny_pure (wpAny_pure z)
end
end XC
namespace XC
open PySem PySem.W PySem.Calls PyProof.Rows Builtin Builtin.ObjectAttr
/-! ### a field stored in, read from an exception -/
abbrev dictO : Obj := { cls := .type "dict", data := .dict #[] }
section
variable {prog : Program} {w : World} {A : Around} {K : Frag} {C x : Addr} {R : Result → Shared → Prop} {s : Shared} {B : String} {bm : List Value} {cd : ClassData} {ox : Obj} {name : Str} {v : Value} {tk : Tok}
theorem osaX (SF : StoreFacts B bm "object.__setattr__" "object") (X : K.In s.heap) (hx : s.heap.get? x = some ox) (hcl : ox.cls = .ref C) (hc : clsIn K C = some cd) (hm : cd.mro = .ref C :: bm) (ht : takerIn K C name = some none)
    (h : ∀ b, wpAny (model prog w) A.in1 (storeInOwnDict (.ref x) (.ref C) (.str name tk) name v b) (fun fin s' => match fin with | .done f => R (.ok f) s' | .again c' => c'.quiet = true ∧ codeAny (model prog w) A c' R s') (fun e s' => R (.error e) s') s) :
    codeAny (model prog w) A (.call (.builtin "object.__setattr__") ⟨[.ref x, .str name tk, v], []⟩) R s := by
  have T : Looks (model prog w) s.heap (typeOf (.ref x)) (.ref C) := hcl ▸ (Looks.ld hx).andThen .now
  have sub : Looks (model prog w) s.heap (isInstance (.ref x) (.type "object")) true := T.andThen (looks_mroIn X (by unfold mroIn; rw [hc, Option.bind_some, hm, if_neg (by simp), List.contains_cons, SF.hasOwner, Bool.or_true]))
  refine codeAny_call_builtin SF.slot.plain SF.entry (@check_slot (model prog w) _ _ s "object.__setattr__" "object" "__setattr__" (.ref x) [.str name tk, v] [] _ SF.kind SF.split sub (SF.args (.ref x) (.str name tk) v) ?_)
  obtain ⟨attr, ha, hr⟩ := Option.bind_eq_some_iff.mp ht
  have M : Looks (model prog w) s.heap (mroOf (.ref C)) cd.mro := (looks_clsIn X hc).andThen .now
  have L3 : Looks (model prog w) s.heap (storeTaker? attr) none := by
    cases attr with
    | none => exact .now
    | some a => obtain ⟨b, hb, e⟩ := Option.map_eq_some_iff.mp hr; refine (looks_takesIn X hb).andThen ?_; cases b with
      | false => exact .now
      | true => cases e
  rw [osa_eq, refuse_eq]
  refine wpAny_bind (wpAny_bind (T.here (wpAny_bind (M.here ?_)))); rw [hm, refuseLoop_ref, SF.passes]
  exact wpAny_pure (wpAny_bind (T.here (wpAny_bind ((looks_findIn X ha).here (wpAny_bind (L3.here (h _)))))))
/-- the first field: the dict is made -/
theorem storeX0 (SF : StoreFacts B bm "object.__setattr__" "object") (X : K.In s.heap) (hx : s.heap.get? x = some ox) (hcl : ox.cls = .ref C) (hnc : notCls ox = true) (hdn : ox.dict = none) (hc : clsIn K C = some cd) (hm : cd.mro = .ref C :: bm) (hd : cd.hasDict = true) (ht : takerIn K C name = some none)
    (h : ∀ h' : Heap, h'.get? x = some { ox with dict := some s.heap.objs.size } → h'.Ns1 s.heap.objs.size (fun y => if y = name then some v else none) → (∀ b o, b ≠ x → s.heap.get? b = some o → h'.get? b = some o) → R (.ok (.ret .none)) { s with heap := h', toks := s.toks + 1 }) :
    codeAny (model prog w) A (.call (.builtin "object.__setattr__") ⟨[.ref x, .str name tk, v], []⟩) R s := by
  refine osaX SF X hx hcl hc hm ht fun b => ?_
  obtain ⟨oc, od, oda, osl⟩ := ox
  dsimp only at hcl hdn
  subst hcl hdn
  have hxs : x ≠ s.heap.objs.size := Nat.ne_of_lt (Heap.lt_size hx)
  have hx1 : (s.heap.push dictO).get? x = some ⟨.ref C, none, oda, osl⟩ := Heap.get?_push_of_some _ hx
  refine wpAny_bind (wpAny_pure (wpAny_bind (wpAny_bind (wpAny_loadPart hx (wpAny_bind ((looks_clsIn X hc).here ?_)))))); rw [hd]
  have fr : (⟨.ref C, some s.heap.objs.size, oda, osl⟩ : Obj).isFreed = false := by have := (Heap.get?_some_iff.mp hx).2; cases oda <;> first | rfl | exact this
  have go : wpAny (model prog w) A.in1 (alloc dictO >>= fun d => update x (fun o => { o with dict := some d }) >>= fun _ => dictMade (.ref C) x d) (fun a s' => wpAny (model prog w) A.in1 (match a with | some d => storeInDict d (.str name tk) name v | none => noDictFor (.ref x) (.ref C) name b) (fun fin s' => match fin with | .done f => R (.ok f) s' | .again c' => c'.quiet = true ∧ codeAny (model prog w) A c' R s') (fun e s' => R (.error e) s') s') (fun e s' => R (.error e) s') s := by
    refine wpAny_bind (wpAny_alloc (wpAny_bind (wpAny_update (s := { s with heap := s.heap.push dictO }) hx1 (wpAny_pure (a := some s.heap.objs.size) ?_))))
    have gd : ((s.heap.push dictO).update x fun o => { o with dict := some s.heap.objs.size }).get? s.heap.objs.size = some dictO := (Heap.get?_update_ne _ _ _ _ hxs.symm).trans (Heap.get?_push_at rfl rfl)
    have nd : ((s.heap.push dictO).update x fun o => { o with dict := some s.heap.objs.size }).Ns s.heap.objs.size (fun _ => none) := ⟨_, #[], _, gd, rfl, fun e he => absurd he (by simp), fun _ => rfl⟩
    have gx : ((s.heap.push dictO).update x fun o => { o with dict := some s.heap.objs.size }).get? x = some ⟨.ref C, some s.heap.objs.size, oda, osl⟩ := Heap.get?_update_self _ hx1 fr
    show wpAny _ _ (storeInDict s.heap.objs.size (.str name tk) name v) _ _ _
    unfold storeInDict newKeyGuard; refine wpAny_bind (wpAny_pure (wpAny_bind (wpAny_nsSet1 (Heap.Ns1.of_empty nd) fun h' hn' hs => ?_)))
    obtain ⟨oD, esD, epD, hoD, hdD, hcD⟩ := hn'.count (Within.cons name v Within.nil)
    refine wpAny_bind (wpAny_lookBehind hoD (by rw [hdD]; exact pastItsLine_dict (Nat.le_trans hcD (by rw [List.length_cons, List.length_nil, sizeLine_eq]; omega))) (wpAny_pure (h h' ((hs.2 x hxs).trans gx) hn' fun c o cx e => ?_)))
    exact (hs.2 c (Nat.ne_of_lt (Heap.lt_size e))).trans ((Heap.get?_update_ne _ _ _ _ cx).trans (Heap.get?_push_of_some _ e))
  cases oda with
  | cls c => cases hnc
  | _ => exact go
/-- one more -/
theorem storeX1 {dx : Addr} {mA : Str → Option Value} {ns : List Str} (SF : StoreFacts B bm "object.__setattr__" "object") (X : K.In s.heap) (hx : s.heap.get? x = some ox) (hcl : ox.cls = .ref C) (hdx : ox.dict = some dx) (hc : clsIn K C = some cd) (hm : cd.mro = .ref C :: bm) (hd : cd.hasDict = true) (ht : takerIn K C name = some none)
    (hns : s.heap.Ns1 dx mA) (hw : Within mA ns) (hz : ns.length ≤ 1000)
    (h : ∀ h' : Heap, h'.Ns1 dx (fun y => if y = name then some v else mA y) → (∀ b o, b ≠ dx → s.heap.get? b = some o → h'.get? b = some o) → R (.ok (.ret .none)) { s with heap := h', toks := s.toks + 1 }) :
    codeAny (model prog w) A (.call (.builtin "object.__setattr__") ⟨[.ref x, .str name tk, v], []⟩) R s := by
  refine osaX SF X hx hcl hc hm ht fun b => ?_
  obtain ⟨oc, od, oda, osl⟩ := ox
  dsimp only at hcl hdx
  subst hcl hdx
  refine wpAny_bind (wpAny_pure (wpAny_bind (wpAny_bind (wpAny_loadPart hx (wpAny_bind ((looks_clsIn X hc).here ?_)))))); rw [hd]
  refine wpAny_pure (a := some dx) ?_
  refine (show wpAny _ _ (storeInDict dx (.str name tk) name v) _ _ _ from ?_)
  unfold storeInDict newKeyGuard; refine wpAny_bind (wpAny_pure (wpAny_bind (wpAny_nsSet1 hns fun h' hn' hs => ?_)))
  obtain ⟨oD, esD, epD, hoD, hdD, hcD⟩ := hn'.count (Within.cons name v hw)
  exact wpAny_bind (wpAny_lookBehind hoD (by rw [hdD]; exact pastItsLine_dict (Nat.le_trans hcD (by rw [List.length_cons, sizeLine_eq]; omega))) (wpAny_pure (h h' hn' fun c o cx e => (hs.2 c cx).trans e)))
end
end XC
namespace XC
open PySem PySem.W PySem.Calls PyProof.Rows Builtin Builtin.ObjectAttr
section
variable {prog : Program} {w : World} {A : Around} {E : Value → Shared → Prop} {K : Frag} {C x : Addr} {s : Shared} {ox od : Obj} {name : Str} {v : Value} {expr : Bool} {Q : Value → Shared → Prop}
theorem bexc_bind (self : Value) : bindSpecial (.builtin "BaseException.__getattribute__") self = pure (.builtin "BaseException.__getattribute__", [self]) := F.excAttr_ValueError.ga.bind self
theorem getX (X : K.In s.heap) (I : InstAt s.heap x ox C (some od)) (hga : findIn K (.ref C) "__getattribute__" = some (some (.builtin "BaseException.__getattribute__"))) (hgt : findIn K (.ref C) "__getattr__" = some none) (hb : mroIn K C (.type "BaseException") = some true)
    (hf : findObj K C (some od) name = some (.value v)) (hh : handedIn v = true) (h : Q v { s with toks := s.toks + 1 }) : wpAny (model prog w) A (getAttr (.ref x) name expr) Q E s := by
  obtain ⟨hp, g, d, t, os⟩ := s
  have L0 := I.type (M := model prog w)
  have L1 := looks_findIn (M := model prog w) X hga
  have L2 := looks_findIn (M := model prog w) X hgt
  have L3 := looks_find (M := model prog w) X I hf
  have L4 : Looks (model prog w) hp (isInstance (.ref x) (.type "BaseException")) true := L0.andThen (looks_mroIn X hb)
  have f3 := bexc_bind (.ref x)
  have hx0 : (expr && onTheHeap (Value.builtin "BaseException.__getattribute__")) = false := by cases expr <;> rfl
  have hx2 : (Value.builtin "BaseException.__getattribute__" == Value.builtin "object.__getattribute__") = false := by decide +kernel
  unfold getAttr getAttrBy; refine wpAny_bind (wpAny_mkText (wpAny_holding (wpAny_bind (L0.at (wpAny_bind (L1.at ?_))))))
  dsimp only; rw [hx2, Bool.and_false, if_neg Bool.false_ne_true]; unfold getAttrByItsOwn
  repeat (first | with_reducible refine Looks.at (by assumption) ?_ | wp_step)
  refine codeAny_call_builtin F.excAttr_ValueError.ga.plain F.entry_bexc_ga (@check_slot (model prog w) _ _ ⟨hp, g, d, t + 1, os⟩ "BaseException.__getattribute__" "BaseException" "__getattribute__" (.ref x) [.str name t] [] _ (by decide +kernel) (by decide +kernel) L4 (F.args_bexc_ga _ _) ?_)
  refine (show wpAny _ _ (Builtin.«object.__getattribute__» ⟨[.ref x, .str name t], []⟩) _ _ _ from ?_); unfold Builtin.«object.__getattribute__»
  repeat (first | with_reducible refine Looks.at (by assumption) ?_ | wp_step)
  refine (show wpAny _ _ (handedOut v) _ _ _ from ?_); rw [handedOut_of hh]
  exact wpAny_pure h
end
end XC
namespace XC
open PySem PySem.W PySem.Calls PyProof.Rows Builtin Builtin.ObjectAttr
section
variable {prog : Program} {w : World} {A : Around} {E : Value → Shared → Prop} {K : Frag} {C x : Addr} {s : Shared} {ox od : Obj}
/-- what is known of a class of exceptions -/
structure XCl (K : Frag) (C : Addr) : Prop where
  ga : findIn K (.ref C) "__getattribute__" = some (some (.builtin "BaseException.__getattribute__"))
  gt : findIn K (.ref C) "__getattr__" = some none
  bx : mroIn K C (.type "BaseException") = some true
  hd : hasDictIn K C = true
  ca : findIn K (.ref C) "__class__" = some (some (.builtin "object.__class__"))
  cn : specialIn K (.builtin "object.__class__") "__get__" = some (some (.builtin "getset_descriptor.__get__"))
  ct : takesIn K (.builtin "object.__class__") = some true
  ob : mroIn K C (.type "object") = some true
theorem classX {Q : Option Value → Shared → Prop} (c : XCl K C) (X : K.In s.heap) (I : InstAt s.heap x ox C (some od)) (h : Q (some (.ref C)) { s with toks := s.toks + 1 }) : wpAny (model prog w) A (getAttr? (.ref x) "__class__") Q E s := by
  have hf : findObj K C (some od) "__class__" = some (.bind (.builtin "getset_descriptor.__get__") (.builtin "object.__class__")) := findObj_data (by obtain ⟨cd, hc, _⟩ := any_some c.hd; rw [hc]; rfl) c.ca c.cn c.ct
  obtain ⟨hp, g, d, t, os⟩ := s
  have L0 := I.type (M := model prog w)
  have L1 := looks_findIn (M := model prog w) X c.ga
  have L2 := looks_findIn (M := model prog w) X c.gt
  have L3 := looks_find (M := model prog w) X I hf
  have L4 : Looks (model prog w) hp (isInstance (.ref x) (.type "BaseException")) true := L0.andThen (looks_mroIn X c.bx)
  have f3 := bexc_bind (.ref x)
  have hx2 : (Value.builtin "BaseException.__getattribute__" == Value.builtin "object.__getattribute__") = false := by decide +kernel
  unfold getAttr? getAttrBy? getAttrBy; refine wpAny_bind (wpAny_mkText (wpAny_bind (wpAny_attempt (wpAny_holding (wpAny_bind (L0.at (wpAny_bind (L1.at ?_))))))))
  dsimp only; rw [hx2, Bool.and_false, if_neg Bool.false_ne_true]; unfold getAttrByItsOwn
  repeat (first | with_reducible refine Looks.at (by assumption) ?_ | wp_step)
  refine codeAny_call_builtin F.excAttr_ValueError.ga.plain F.entry_bexc_ga (@check_slot (model prog w) _ _ ⟨hp, g, d, t + 1, os⟩ "BaseException.__getattribute__" "BaseException" "__getattribute__" (.ref x) [.str "__class__" t] [] _ (by decide +kernel) (by decide +kernel) L4 (F.args_bexc_ga _ _) ?_)
  refine (show wpAny _ _ (Builtin.«object.__getattribute__» ⟨[.ref x, .str "__class__" t], []⟩) _ _ _ from ?_); unfold Builtin.«object.__getattribute__»
  repeat (first | with_reducible refine Looks.at (by assumption) ?_ | wp_step)
  refine class_get (s := ⟨hp, g, d, t + 1, os⟩) X I c.ob ?_
  exact wpAny_pure (wpAny_pure (wpAny_pure h))
theorem kitx_exc (c : XCl K C) : KitX K (.ref x) (.ref C) (fun h => ∃ ox od, InstAt h x ox C (some od)) where
  ty := fun _ _ _ ⟨_, _, I⟩ => I.type
  it := fun _ _ X _ => by
    obtain ⟨cdD, hcD, _⟩ := any_some c.hd
    unfold clsIn at hcD
    split at hcD
    · rename_i c' d' cd' sl' ho
      intro A' Q' E' s' k q; unfold isType loadHead
      exact wpAny_bind (wpAny_loadPart (k _ _ (X _ _ ho)) (wpAny_pure q))
    · cases hcD
  ne := fun h tp dd its n sl X htp => by
    obtain ⟨cdD, hcD, _⟩ := any_some c.hd
    refine Bool.eq_false_iff.mpr fun q => ?_
    have e : C = tp := Value.ref.inj (beq_iff_eq.mp q)
    subst e; unfold clsIn at hcD
    split at hcD
    · rename_i c' d' cd' sl' ho; have z := (X _ _ ho).symm.trans htp; cases z
    · cases hcD
  ca := fun X ⟨_, _, I⟩ k => classX c X I k
end
end XC
namespace XC
open PySem PySem.W PySem.Calls PyProof.Rows Builtin Builtin.ObjectAttr
/-! ### an exception leaves a frame, is looked at, lands -/
/-- where its traceback ends, in flight (fl none) or held at a frame -/
def TB (h : Heap) (e : Addr) (vs : Array Value) (fl : Value) (T : Addr) : Prop := vs[1]? = some (.ref T) ∧ T ≠ e ∧ ∃ oT ts, h.get? T = some oT ∧ oT.data = .fields ts ∧ ts[3]? = some fl
/-- what stays: all but the exception's own fields, its traceback (at T) and slots of the frames at fs -/
def Stay (fs : List Addr) (e : Addr) (T : Addr → Prop) (h h' : Heap) : Prop := ∀ b o, b ≠ e → ¬ T b → h.get? b = some o → (b ∉ fs → h'.get? b = some o) ∧ ∃ sl, h'.get? b = some { o with slots := sl }
theorem Stay.refl {fs : List Addr} {e : Addr} {T : Addr → Prop} {h : Heap} : Stay fs e T h h := fun b o _ _ q => ⟨fun _ => q, o.slots, q⟩
section
variable {M : Model} {A : Around} {E : Value → Shared → Prop} {s : Shared} {base : Heap} {env : Env} {outer : List Env} {L e : Addr} {oe : Obj} {vs : Array Value} {Q : Unit → Shared → Prop}
def Fly (h : Heap) (e : Addr) (vs : Array Value) : Prop := vs[1]? = some .none ∨ ∃ T, TB h e vs .none T
def oldT (vs : Array Value) (b : Addr) : Prop := vs[1]? = some (.ref b)
end
end XC
namespace XC
open PySem PySem.W PySem.Calls PyProof.Rows Builtin Builtin.ObjectAttr L2
/-! ### exceptions in the abstract heap -/
def ExB (C e : Addr) : HO := .ext fun h => ∃ t, h.get? e = some (excO C t)
def ExO (C dx e : Addr) : HO := .ext fun h => ∃ vs n sl, h.get? e = some ⟨.ref C, some dx, .fields vs, sl⟩ ∧ vs.size = n
/-- what may be rewritten: an exception, its dict -/
def XM : Option HO → Prop
  | some (.ext _) => True
  | some (.xd _) => True
  | _ => False
section
variable {P : Program} {w : World} {H H' : Hp} {h h' : Heap} {C dx e : Addr} {fs ex : List Addr} {p : Addr → Prop}
theorem exB_ok {t : Addr} (q : h.get? e = some (excO C t)) : ObjOk P w H h e (ExB C e) := ⟨⟨t, q⟩, ⟨_, q⟩, fun _ _ ⟨t, q⟩ k => ⟨t, k _ q⟩⟩
theorem exO_ok {vs : Array Value} {sl : Array (Option Value)} (q : h.get? e = some ⟨.ref C, some dx, .fields vs, sl⟩) : ObjOk P w H h e (ExO C dx e) := ⟨⟨vs, _, sl, q, rfl⟩, ⟨_, q⟩, fun _ _ ⟨vs, n, sl, q, z⟩ k => ⟨vs, n, sl, k _ q, z⟩⟩
theorem un_xm (hp : ∀ b, p b → h.objs.size ≤ b ∧ H b = none ∨ XM (H b)) (hk : ∀ b o, ¬ p b → h.get? b = some o → h'.get? b = some o) (hH : ∀ b, ¬ p b → H' b = H b) (ht : ∀ b, p b → ∃ o, h'.get? b = some o) : Un fs ex H H' h h' := by
  have nn : ∀ b o, h.get? b = some o → H b = none → ¬ p b := fun b o q n z => by
    rcases hp b z with ⟨l, _⟩ | m
    · exact absurd (Nat.lt_of_lt_of_le (Heap.lt_size q) l) (Nat.lt_irrefl _)
    · rw [n] at m; exact m
  have nt : ∀ b u, H b = some u → ¬ XM (some u) → ¬ p b := fun b u q nm z => by
    rcases hp b z with ⟨_, n⟩ | m
    · rw [n] at q; cases q
    · rw [q] at m; exact nm m
  refine ⟨fun b o q n _ _ => hk b o (nn b o q n) q, fun b o q n _ _ => ⟨o.slots, hk b o (nn b o q n) q⟩, fun b o q n _ => (hH b (nn b o q n)).trans n, fun b o q _ => ?_, fun b xs q => (hH b (nt b _ q fun z => z)).trans q, fun b o u q => (hH b (nt b _ q fun z => z)).trans q, fun b ps q => ⟨#[], by rw [hH b (nt b _ q fun z => z), q]; simp⟩⟩
  by_cases z : p b
  · exact ht b z
  · exact ⟨o, hk b o z q⟩
theorem hok_xm (ok : HOk P w H h) (hp : ∀ b, p b → h.objs.size ≤ b ∧ H b = none ∨ XM (H b)) (hk : ∀ b o, ¬ p b → h.get? b = some o → h'.get? b = some o) (hH : ∀ b, ¬ p b → H' b = H b) (new : ∀ b u, p b → H' b = some u → ObjOk P w H' h' b u) : HOk P w H' h' := fun b u q => by
  have nt : ∀ b u, H b = some u → ¬ XM (some u) → ¬ p b := fun b u q nm z => by
    rcases hp b z with ⟨_, n⟩ | m
    · rw [n] at q; cases q
    · rw [q] at m; exact nm m
  by_cases z : p b
  · exact new b u z q
  · rw [hH b z] at q
    refine (ok b u q).stay (fun c v hc r => ?_) (fun c r => (hH c (nt c _ r fun z => z)).trans r) fun c xs r => (hH c (nt c _ r fun z => z)).trans r
    rcases hc with rfl | hc
    · exact hk _ _ z r
    · exact hk _ _ (nt c _ hc fun z => z) r
end
/-- facts for storing -/
structure XSt (K : Frag) (C : Addr) : Prop where
  st : ∃ B bm cd, StoreFacts B bm "object.__setattr__" "object" ∧ clsIn K C = some cd ∧ cd.mro = .ref C :: bm ∧ cd.hasDict = true
  sa : findIn K (.ref C) "__setattr__" = some (some (.builtin "object.__setattr__"))
section
variable {X : Cx} {pins : List (Addr × Obj)} {σ : L2.St} {H : Hp} {s : Shared} {C dx a : Addr} {A : Around} {E : Value → Shared → Prop} {f : Str} {y : V} {u : Value} {fs : List (Str × V)}
theorem set0_X {Q : Unit → Shared → Prop} (I : Inv X pins σ H s) (e : H a = some (ExB C a)) (c : XSt X.K C) (n : takerIn X.K C f = some none) (ry : RelV y u)
    (h : ∀ s' dx, H dx = none → dx ≠ a → Inv X pins σ (upd (upd H dx (.xd [(f, y)])) a (ExO C dx a)) s' → Q () s') : wpAny (model X.prog X.w) A (setAttr (.ref a) f u) Q E s := by
  obtain ⟨⟨t, ha⟩, _, _⟩ : ObjOk X.prog X.w H s.heap a (ExB C a) := I.hok _ _ e
  obtain ⟨B, bm, cd, SF, hc, hm, hd⟩ := c.st
  have IA : W.InstAt s.heap a (excO C t) C none := ⟨ha, rfl, rfl, trivial⟩
  refine W.set_plain I.kIn IA c.sa (storeX0 (s := { s with toks := s.toks + 1 }) SF I.kIn ha rfl rfl rfl hc hm hd n fun h' q1 q2 q3 => ?_)
  have hf : H s.heap.objs.size = none := I.hok.fresh (Nat.le_refl _)
  have ne : s.heap.objs.size ≠ a := Nat.ne_of_gt (Heap.lt_size ha)
  have hp : ∀ b, (b = a ∨ b = s.heap.objs.size) → s.heap.objs.size ≤ b ∧ H b = none ∨ XM (H b) := fun b z => by
    rcases z with rfl | rfl
    · rw [e]; exact .inr trivial
    · exact .inl ⟨Nat.le_refl _, hf⟩
  have hk : ∀ b o, ¬ (b = a ∨ b = s.heap.objs.size) → s.heap.get? b = some o → h'.get? b = some o := fun b o z q => q3 b o (fun y => z (.inl y)) q
  have hH : ∀ b, ¬ (b = a ∨ b = s.heap.objs.size) → upd (upd H s.heap.objs.size (.xd [(f, y)])) a (ExO C s.heap.objs.size a) b = H b := fun b z => by rw [upd_ne fun y => z (.inl y), upd_ne fun y => z (.inr y)]
  refine h _ s.heap.objs.size hf ne (I.un (t' := s.toks + 1 + 1) (un_xm hp hk hH fun b z => ?_) (hok_xm I.hok hp hk hH fun b u' z q => ?_))
  · rcases z with rfl | rfl
    · exact ⟨_, q1⟩
    · obtain ⟨o, _, _, q, _⟩ := q2; exact ⟨o, q⟩
  · by_cases hb : b = a
    · subst hb; rw [upd_same] at q; cases q; exact exO_ok q1
    · obtain rfl : b = s.heap.objs.size := z.resolve_left hb
      rw [upd_ne hb, upd_same] at q; cases q
      refine ⟨_, q2, fun g => ?_⟩
      by_cases hg : g = f
      · subst hg; rw [if_pos rfl, List.lookup_cons, beq_self_eq_true]; exact ry
      · rw [if_neg hg, List.lookup_cons, beq_eq_false_iff_ne.mpr hg]; exact True.intro
theorem set1_X {Q : Unit → Shared → Prop} (I : Inv X pins σ H s) (e : H a = some (ExO C dx a)) (ed : H dx = some (.xd fs)) (c : XSt X.K C) (n : takerIn X.K C f = some none) (ry : RelV y u) (hwi : ∀ mA, s.heap.Ns1 dx mA → (∀ g, RelO (fs.lookup g) (mA g)) → ∃ ns, Within mA ns ∧ ns.length ≤ 1000)
    (h : ∀ s', Inv X pins σ (upd H dx (.xd (putF f y fs))) s' → Q () s') : wpAny (model X.prog X.w) A (setAttr (.ref a) f u) Q E s := by
  obtain ⟨⟨vs, n', sl, ha, _⟩, _, _⟩ : ObjOk X.prog X.w H s.heap a (ExO C dx a) := I.hok _ _ e
  obtain ⟨mA, hns, hrl⟩ : ObjOk X.prog X.w H s.heap dx (.xd fs) := I.hok _ _ ed
  obtain ⟨ns, hw, hz⟩ := hwi mA hns hrl
  obtain ⟨B, bm, cd, SF, hc, hm, hd⟩ := c.st
  obtain ⟨od, hod, _⟩ := lookIn_ns hns
  have IA : W.InstAt s.heap a ⟨.ref C, some dx, .fields vs, sl⟩ C (some od) := ⟨ha, rfl, rfl, hod⟩
  refine W.set_plain I.kIn IA c.sa (storeX1 (s := { s with toks := s.toks + 1 }) SF I.kIn ha rfl rfl hc hm hd n hns hw hz fun h' q2 q3 => ?_)
  have hp : ∀ b, b = dx → s.heap.objs.size ≤ b ∧ H b = none ∨ XM (H b) := fun b z => by rw [z, ed]; exact .inr trivial
  have hk : ∀ b o, ¬ b = dx → s.heap.get? b = some o → h'.get? b = some o := fun b o z q => q3 b o z q
  have hH : ∀ b, ¬ b = dx → upd H dx (.xd (putF f y fs)) b = H b := fun b z => upd_ne z
  refine h _ (I.un (t' := s.toks + 1 + 1) (un_xm hp hk hH fun b z => ?_) (hok_xm I.hok hp hk hH fun b u' z q => ?_))
  · subst z; obtain ⟨o, _, _, q, _⟩ := q2; exact ⟨o, q⟩
  · subst z; rw [upd_same] at q; cases q
    refine ⟨_, q2, fun g => ?_⟩
    rw [lookup_putF]
    by_cases hg : g = f
    · rw [if_pos hg, if_pos hg]; exact ry
    · rw [if_neg hg, if_neg hg]; exact hrl g
/-- a field read -/
theorem getX_ok {b : Bool} {v : V} {Q : Value → Shared → Prop} (I : Inv X pins σ H s) (e : H a = some (ExO C dx a)) (ed : H dx = some (.xd fs)) (c : XCl X.K C) (n : NoAttr X.K C f) (l : fs.lookup f = some v)
    (h : ∀ u s', Inv X pins σ H s' → RelV v u → Q u s') : wpAny (model X.prog X.w) A (getAttr (.ref a) f b) Q E s := by
  obtain ⟨⟨vs, n', sl, ha, _⟩, _, _⟩ : ObjOk X.prog X.w H s.heap a (ExO C dx a) := I.hok _ _ e
  obtain ⟨mA, hns, hrl⟩ : ObjOk X.prog X.w H s.heap dx (.xd fs) := I.hok _ _ ed
  obtain ⟨od, hod, hl⟩ := lookIn_ns hns
  have r : RelO (fs.lookup f) (mA f) := hrl f
  rw [l] at r
  obtain ⟨u, hu, rv⟩ := RelO.some_of r
  have IA : W.InstAt s.heap a ⟨.ref C, some dx, .fields vs, sl⟩ C (some od) := ⟨ha, rfl, rfl, hod⟩
  exact getX I.kIn IA c.ga c.gt c.bx (PySem.W.findObj_own c.hd n rfl (by rw [hl, hu])) (handed_of rv) (h u _ (I.tok _) rv)
end
end XC
namespace XC
open PySem PySem.W PySem.Calls PyProof.Rows Builtin Builtin.ObjectAttr L2
/-! ### an exception is made, its __init__ stores fields -/
abbrev bexRow (B : String) : Manifest.Signature := ⟨.any, B, B, .cls, [⟨"args", .varPos, false⟩, ⟨"kwargs", .varKw, false⟩]⟩
structure MkX (K : Frag) (C f : Addr) (n : Nat) (ks : List Str) : Prop where
  ex : ∃ newId B initId bm, ExcBaseFacts B newId initId bm ∧ makesX K C newId B = true ∧ ∀ us ws : List Value, us.length = n → ws.length = ks.length → Bind.checkArgs newId (bexRow B) ⟨.ref C :: us, ks.zip ws⟩ = pure ()
  init : findIn K (.ref C) "__init__" = some (some (.ref f))
  fn : isFn K (.ref f) = true
  kp : keepIn K (.ref C) = true
  small : n ≤ 1000
section
variable {X : Cx} {pins : List (Addr × Obj)} {σ : L2.St} {H : Hp} {s : Shared} {C : Addr}
theorem madeX (I : Inv X pins σ H s) {us : List Value} : Inv X pins σ (upd H (s.heap.objs.size + 1) (ExB C (s.heap.objs.size + 1))) { s with heap := (s.heap.push (tupO us)).push (excO C s.heap.objs.size) } := by
  have e2 : ((s.heap.push (tupO us)).push (excO C s.heap.objs.size)).get? (s.heap.objs.size + 1) = some (excO C s.heap.objs.size) := by heap_get
  exact I.laid (a := s.heap.objs.size + 1) (o := ExB C (s.heap.objs.size + 1)) (t' := s.toks) (fun b u q => Heap.get?_push_of_some _ (Heap.get?_push_of_some _ q)) (Nat.le_succ _) (exB_ok e2)
variable {CX : CXT} {n k m : Nat} {f : Addr} {fd : FuncData} {ps ks : List Str} {sp : Sp} {E : XK} {g : List Value → List Value → List Value} {gV : List V → List V → List V}
theorem run_makeX {Q : VK} {us ws : List Value} {vs zs : List V} (M : MkX X.K C f m ks) (F : FnOk X.prog X.w X.K X.mg X.base CX n k f fd ps sp) (hr : Room (k + 1) X.A) (hb : KBinds X.K fd ps ks g gV) (hx : Passes CX X E) (I : Inv X pins σ H s) (r : Vals vs us) (rz : Vals zs ws) (hn : n ≤ X.tk)
    (hm : vs.length = m) (hz : zs.length = ks.length) (h : ∀ e, H e = none → sp (gV (.ref e :: vs) zs) (upd H e (ExB C e)) (fun v H2 => v = .non ∧ Q (.ref e) H2) E) : wpAny (model X.prog X.w) X.A (call (.ref C) us (ks.zip ws)) (EP X pins σ Q) X.xe s := by
  have hq := h (s.heap.objs.size + 1) (I.hok.fresh (Nat.le_succ _))
  have I2 := madeX (C := C) (us := us) I
  have hm' : us.length = m := by rw [← r.length]; exact hm
  have r2 := hb.rel (Paired.cons (show RelV (V.ref (s.heap.objs.size + 1)) (Value.ref (s.heap.objs.size + 1)) from rfl) r) rz
  have hl : (g (Value.ref (s.heap.objs.size + 1) :: us) ws).length = ps.length := by rw [← r2.length]; exact F.len _ _ _ _ hq
  obtain ⟨newId, B, initId, bm, EF, mk, ha⟩ := M.ex
  refine TK.up_tk I.tk ?_
  obtain ⟨hh, gn, d, t, os⟩ := s
  refine wpAny_call (make_X EF (makesX_of I.kIn mk) (looks_findIn I.kIn M.init) (fun self => PySem.W.bind_fn I.kIn self (beq_iff_eq.mp M.fn)) (ha us ws hm' (by rw [← rz.length]; exact hz)) (by rw [hm']; have := M.small; rw [sizeLine_eq]; omega) (codeAny_mono (F.run _ X.stack _ _ ⟨Value.ref (hh.objs.size + 1) :: us, ks.zip ws⟩ (g (Value.ref (hh.objs.size + 1) :: us) ws) _ _ E (hr.make C us _) (Nat.le_trans hn I2.tk)
    (I2.env0.make C us _) (hb.to _ (Value.ref (hh.objs.size + 1) :: us) ws I2.kIn hl) r2 hq) fun r s' hq' => ?_))
  cases r with
  | error e => exact hx pins σ _ _ e s' I2 hq'
  | ok fl =>
    cases fl with
    | ret u =>
      obtain ⟨v, H', os', bare', un', hok', rv', ev', q'⟩ := id hq'
      subst ev'
      refine ⟨rv', fun ht => ?_⟩
      obtain ⟨v, H', I3, rv, ev, q3⟩ := I2.after hq' ht
      subst ev
      exact ⟨V.ref (hh.objs.size + 1), H', I3, rfl, q3⟩
    | next => exact False.elim hq'
    | brk => exact False.elim hq'
    | cont => exact False.elim hq'
/-! readings -/
def tMakeX (C : Addr) (m : Nat) (sp : Sp) (gV : List V → List V → List V) (E : XK) (t : TA) : TE := fun σ H Q => t σ H fun vs H1 => vs.length = m ∧ ∀ e, H1 e = none → sp (gV (.ref e :: vs) []) (upd H1 e (ExB C e)) (fun v H2 => v = .non ∧ Q (.ref e) H2) E
def tMakeXK (C : Addr) (j : Nat) (sp : Sp) (gV : List V → List V → List V) (E : XK) (t : TA) : TE := fun σ H Q => t σ H fun zs H1 => zs.length = j ∧ ∀ e, H1 e = none → sp (gV [.ref e] zs) (upd H1 e (ExB C e)) (fun v H2 => v = .non ∧ Q (.ref e) H2) E
variable {x : Str} {p pos : Pos} {e : Expr} {es : List Expr} {kws : List Keyword} {t : TA}
theorem pe_makeX (M : MkX X.K C f m []) (F : FnOk X.prog X.w X.K X.mg X.base CX n k f fd ps sp) (hr : Room (k + 1) X.A) (hg : Gl X x) (hm : X.mg x = some (.ref C)) (hb : KBinds X.K fd ps [] g gV) (hx : Passes CX X E)
    (ha : PA X (e :: es) t) (hdb : (x == ("__debug__" : Str)) = false := by decide) (he : starEach (e :: es) X.env = (false, eval e X.env) :: starEach es X.env := by rfl) (hpl : (backTo pos (starEach es X.env)).any (·.1) = false := by rfl) (hn : n ≤ X.tk := by first | exact Nat.le_refl _ | exact Nat.zero_le _ | assumption) :
    PE X (.Call (.Name x p) (e :: es) [] pos) (tMakeX C m sp gV E t) := by
  intro pins s σ H Q I h
  refine wpAny_Call_Name_kw (ld_glob I hg hm ?_ hdb)
  refine PySem.W.callWith_K (h₀ := X.base) I.ok.mod.kin M.kp (thn (ha pos pins s σ H _ I h) fun us s1 ⟨vs, H1, I1, r, l, q⟩ => ⟨I1.kIn, ?_⟩) he hpl
  exact run_makeX (ks := []) (ws := []) M F hr hb hx I1 r .nil hn l rfl q
theorem pe_makeXK (M : MkX X.K C f 0 ks) (F : FnOk X.prog X.w X.K X.mg X.base CX n k f fd ps sp) (hr : Room (k + 1) X.A) (hg : Gl X x) (hm : X.mg x = some (.ref C)) (hb : KBinds X.K fd ps ks g gV) (hx : Passes CX X E)
    (hkw : PK X kws t) (hall : (backToKw pos (keywordEach kws X.env)).all (·.1.isSome) = true := by rfl) (hks : (backToKw pos (keywordEach kws X.env)).filterMap (·.1) = ks := by rfl) (hdb : (x == ("__debug__" : Str)) = false := by decide)
    (hpl : (backToKw pos (keywordEach kws X.env)).any (·.1.isNone) = false := by rfl) (hn : n ≤ X.tk := by first | exact Nat.le_refl _ | exact Nat.zero_le _ | assumption) :
    PE X (.Call (.Name x p) [] kws pos) (tMakeXK C ks.length sp gV E t) := by
  intro pins s σ H Q I h
  refine wpAny_Call_Name_kw (ld_glob I hg hm ?_ hdb)
  refine PySem.W.callWith_KW0 (h₀ := X.base) I.ok.mod.kin M.kp hall (thn (hkw pos pins s σ H _ I h) fun ws s2 ⟨zs, H2, I2, rz, l, q2⟩ => ⟨I2.kIn, ?_⟩) hpl
  rw [hks]
  exact run_makeX (us := []) (vs := []) M F hr hb hx I2 .nil rz hn rfl l q2
/-! fields -/
def tFldX (K : Frag) (ta : TE) (f : Str) : TE := fun σ H Q => ta σ H fun x H1 => ∃ a C dx fs v, x = .ref a ∧ H1 a = some (ExO C dx a) ∧ H1 dx = some (.xd fs) ∧ XCl K C ∧ NoAttr K C f ∧ fs.lookup f = some v ∧ Q v H1
def sFldX0 (K : Frag) (ta tv : TE) (f : Str) : TS := fun D σ H => tv σ H fun y H1 => ta σ H1 fun x H2 => ∃ a C, x = .ref a ∧ H2 a = some (ExB C a) ∧ XSt K C ∧ NoAttr K C f ∧ ∀ dx, H2 dx = none → dx ≠ a → D.nx σ (upd (upd H2 dx (.xd [(f, y)])) a (ExO C dx a))
def sFldX1 (K : Frag) (ta tv : TE) (f : Str) : TS := fun D σ H => tv σ H fun y H1 => ta σ H1 fun x H2 => ∃ a C dx fs, x = .ref a ∧ H2 a = some (ExO C dx a) ∧ H2 dx = some (.xd fs) ∧ fs.length ≤ 1000 ∧ XSt K C ∧ NoAttr K C f ∧ D.nx σ (upd H2 dx (.xd (putF f y fs)))
variable {o value : Expr} {pos' : Pos} {ta tv : TE} {fl : Str}
theorem pe_fldX (he : PE X e ta) (hb : attributeBase e fl X.env (eval e X.env) = eval e X.env) : PE X (.Attribute e fl pos) (tFldX X.K ta fl) := by
  intro pins s σ H Q I h
  refine attr_of hb (thn (he pins s σ H _ I h) fun u s1 ⟨x, H1, I1, rx, a, C, dx, fs, v, ex, ea, ed, c, n, l, q⟩ => ?_)
  subst ex
  obtain rfl : u = Value.ref a := rx
  exact getX_ok I1 ea ed c n l fun u' s2 I2 ru => ⟨v, H1, I2, ru, q⟩
theorem ps_fldX0 (ha : PE X o ta) (hv : PE X value tv) (hs : swapsWith value (some (.Attribute o fl pos')) pos.line X.env = pure false) : PS X (.Assign [.Attribute o fl pos'] value pos) (sFldX0 X.K ta tv fl) := by
  intro pins s σ H D I h
  refine plainObj_wpAny_Assign_Attribute (thn (hv pins s σ H _ I h) fun u s1 ⟨y, H1, I1, ry, q⟩ => thn (ha pins s1 σ H1 _ I1 q) fun ov s2 ⟨x, H2, I2, rx, a, C, ex, ea, c, n, q2⟩ => ?_) hs
  subst ex
  obtain rfl : ov = Value.ref a := rx
  exact set0_X I2 ea c n.taker ry fun s3 dx hd ne I3 => ⟨σ, _, I3, q2 dx hd ne⟩
theorem within_keys {fs : List (Str × V)} {mA : Str → Option Value} (h : ∀ g, RelO (fs.lookup g) (mA g)) : Within mA (fs.map (·.1)) := fun y hy => by
  have r := h y
  cases q : fs.lookup y with
  | none => rw [q] at r; exact absurd (RelO.none_of r) hy
  | some v => exact List.mem_map.mpr ⟨(y, v), PySem.mem_of_lookup q, rfl⟩
theorem ps_fldX1 (ha : PE X o ta) (hv : PE X value tv) (hs : swapsWith value (some (.Attribute o fl pos')) pos.line X.env = pure false) : PS X (.Assign [.Attribute o fl pos'] value pos) (sFldX1 X.K ta tv fl) := by
  intro pins s σ H D I h
  refine plainObj_wpAny_Assign_Attribute (thn (hv pins s σ H _ I h) fun u s1 ⟨y, H1, I1, ry, q⟩ => thn (ha pins s1 σ H1 _ I1 q) fun ov s2 ⟨x, H2, I2, rx, a, C, dx, fs, ex, ea, ed, hl, c, n, q2⟩ => ?_) hs
  subst ex
  obtain rfl : ov = Value.ref a := rx
  exact set1_X I2 ea ed c n.taker ry (fun mA _ hr => ⟨_, within_keys hr, by rw [List.length_map]; exact hl⟩) fun s3 I3 => ⟨σ, _, I3, q2⟩
end
end XC
namespace L2
open PySem PySem.Spec PyProof.Rows
/-! ### loops and comprehensions over any walk of n turns -/
theorem for_it {J : It} {n : Nat} {g : TG} {tb : TS} {D : Ends} {σ : St} {H : Hp} (Pv : Nat → St → Hp → Prop) (h0 : Pv 0 σ H)
    (hgo : ∀ i σ H, i < n → Pv i σ H → J.go i H) (hst : ∀ σ H, Pv n σ H → J.stop n H)
    (hs : ∀ i σ H x H', i < n → Pv i σ H → J.yld i H x H' → g x σ H' fun σ2 H2 => tb { D with nx := Pv (i + 1), ct := Pv (i + 1), bk := D.nx } σ2 H2) (hd : ∀ σ H, Pv n σ H → D.nx σ H) :
    ∃ W : Nat → Nat → St → Hp → Prop, (∃ m, W 0 m σ H) ∧ ∀ i m σ H, W i m σ H →
      (J.stop i H ∧ D.nx σ H) ∨ (J.go i H ∧ ∃ N : St → Hp → Prop, (∀ σ' H', N σ' H' → ∃ m', m' < m ∧ W (i + 1) m' σ' H') ∧ ∀ x H', J.yld i H x H' → g x σ H' fun σ2 H2 => tb { D with nx := N, ct := N, bk := D.nx } σ2 H2) := by
  refine ⟨fun i m σ H => m = n - i ∧ i ≤ n ∧ Pv i σ H, ⟨n, by simp, Nat.zero_le _, h0⟩, ?_⟩
  rintro i m σ H ⟨rfl, hi, p⟩
  by_cases hlt : i < n
  · exact .inr ⟨hgo i σ H hlt p, Pv (i + 1), fun σ' H' p' => ⟨n - (i + 1), by omega, rfl, hlt, p'⟩, fun x H' y => hs i σ H x H' hlt p y⟩
  · have e : i = n := by omega
    subst e
    exact .inl ⟨hst σ H p, hd σ H p⟩
section
variable {X : Cx} {x kw : Str} {k : Nat} {sp : Sp} {p pos kpos : Pos} {e : Expr} {te : TE}
/-! ### isinstance -/
inductive TyO (K : PySem.W.Frag) (H : Hp) : V → Value → Prop where
  | non : TyO K H .non (.type "NoneType")
  | bl (b : Bool) : TyO K H (.bl b) (.type "bool")
  | int (i : Int) : TyO K H (.int i) (.type "int")
  | str (z : Str) : TyO K H (.str z) (.type "str")
  | lst {a : Addr} {xs : List V} (h : SqL K H a xs) : TyO K H (.ref a) (.type "list")
  | tup {a : Addr} {xs : List V} (h : SqT K H a xs) : TyO K H (.ref a) (.type "tuple")
  | dct {a : Addr} {od : Obj} {kvs : List (Key × V)} (h : H a = some (.frz od (.dK kvs))) : TyO K H (.ref a) (.type "dict")
  | exc {a C dx : Addr} {fs : List (Str × V)} (h : H a = some (XC.ExO C dx a)) (hd : H dx = some (.xd fs)) (c : XC.XCl K C) : TyO K H (.ref a) (.ref C)
theorem TyO.kit {pins : List (Addr × Obj)} {σ : St} {H : Hp} {s : Shared} {v : V} {u : Value} {T : Value} (I : Inv X pins σ H s) (r : RelV v u) (t : TyO X.K H v T) :
    ∃ φ : Heap → Prop, PySem.W.KitX X.K u T φ ∧ φ s.heap ∧ u ≠ .builtin "__main__.__loader__#opaque" := by
  cases t with
  | non => cases (show u = Value.none from r); exact ⟨_, PySem.W.kitx_none, True.intro, fun z => nomatch z⟩
  | bl b => cases (show u = Value.bool b from r); exact ⟨_, PySem.W.kitx_bool, True.intro, fun z => nomatch z⟩
  | int i => obtain ⟨t, q⟩ := (show ∃ t, u = Value.int i t from r); cases q; exact ⟨_, PySem.W.kitx_int, True.intro, fun z => nomatch z⟩
  | str z => obtain ⟨t, q⟩ := (show ∃ t, u = Value.str z t from r); cases q; exact ⟨_, PySem.W.kitx_str, True.intro, fun z => nomatch z⟩
  | @lst a xs h =>
    cases (show u = Value.ref a from r)
    obtain ⟨its, _, ⟨o, n, h1, h2, _⟩, _⟩ := I.list h
    exact ⟨_, PySem.W.kitx_list, ⟨o, h1, h2⟩, fun z => nomatch z⟩
  | @tup a xs h =>
    cases (show u = Value.ref a from r)
    obtain ⟨its, _, ⟨o, h1, h2, _⟩, _⟩ := I.tuple h
    exact ⟨_, PySem.W.kitx_tuple, ⟨o, h1, h2⟩, fun z => nomatch z⟩
  | @dct a od kvs h =>
    cases (show u = Value.ref a from r)
    obtain ⟨_, _, _, vs, _, p⟩ := (show ObjOk X.prog X.w H s.heap a (.frz od (.dK kvs)) from I.hok a _ h)
    obtain ⟨o, es, ep, h1, h2, _⟩ := p
    exact ⟨_, PySem.W.kitx_dict, ⟨o, h1, h2.1⟩, fun z => nomatch z⟩
  | @exc a C dx fs h hd c =>
    cases (show u = Value.ref a from r)
    obtain ⟨⟨vs, n', sl, ha, _⟩, _, _⟩ : ObjOk X.prog X.w H s.heap a (XC.ExO C dx a) := I.hok _ _ h
    obtain ⟨mA, hns, _⟩ : ObjOk X.prog X.w H s.heap dx (.xd fs) := I.hok _ _ hd
    obtain ⟨od, hod, _⟩ := lookIn_ns hns
    exact ⟨_, XC.kitx_exc c, ⟨_, od, ⟨ha, rfl, rfl, hod⟩⟩, fun z => nomatch z⟩
def rIsi (K : PySem.W.Frag) : List V → Hp → VK → Prop := fun xs H Q =>
  (∃ v T c cv b, xs = [v, c] ∧ (∀ u, RelV c u → u = cv) ∧ TyO K H v T ∧ PySem.W.kitOne K T cv = some b ∧ Q (.bl b) H) ∨
  ∃ v T q cs cvs b, xs = [v, .ref q] ∧ TyO K H v T ∧ H q = some (.tup cs) ∧ (∀ us, Vals cs us → us = cvs) ∧ PySem.W.kitAny K T cvs = some b ∧ Q (.bl b) H
theorem cr_isi : CallR X (.builtin "isinstance") (rIsi X.K) := by
  intro pins s σ H xs us Q I rs h
  rcases h with ⟨v, T, c, cv, b, rfl, hcv, ty, e, q⟩ | ⟨v, T, q, cs, cvs, b, rfl, ty, hq, hcs, e, qq⟩
  · cases rs with
    | cons r1 rs =>
      cases rs with
      | cons r2 rs =>
        cases rs
        cases hcv _ r2
        obtain ⟨φ, Z, p, ne⟩ := ty.kit I r1
        exact TK.up_tk I.tk (PySem.W.kia_one Z I.kIn p e ne fun tk htk => ⟨.bl b, H, I.tok _, rfl, q⟩)
  · cases rs with
    | cons r1 rs =>
      cases rs with
      | cons r2 rs =>
        cases rs
        cases r2
        obtain ⟨φ, Z, p, ne⟩ := ty.kit I r1
        obtain ⟨_, its, rv, o, h1, h2, n, h3⟩ := (show ObjOk X.prog X.w H s.heap q (.tup cs) from I.hok q _ hq)
        have hi := hcs its rv
        subst hi
        obtain ⟨oc, od, odt, osl⟩ := o
        simp only at h2 h3
        subst h2 h3
        exact TK.up_tk I.tk (PySem.W.kia_tup Z I.kIn p h1 e ne fun tk htk => ⟨.bl b, H, I.tok _, rfl, qq⟩)
/-! ### three names at once -/
def tPar3 (i j k : Nat) (ta : TA) : TS := fun D σ H => ta σ H fun vs H1 => ∃ v w z, vs = [v, w, z] ∧ D.nx (((σ.set i (some v)).set j (some w)).set k (some z)) H1
end
end L2
namespace ZG
open PySem PySem.Spec PyProof.Rows L2
open Builtin.SmallTypes (nextOf)
section
variable {prog : Program} {w : World} {A : Around} {E : Value → Shared → Prop} {s : Shared}
/-- what an iterator within a zip does: at place i it gives the i-th of the items, or ends -/
structure Sub (prog : Program) (w : World) (it l : Addr) (items : Array Value) (T : Nat → Heap → Prop) : Prop where
  keep : ∀ i h h', (∀ c o, c = it ∨ c = l → h.get? c = some o → h'.get? c = some o) → T i h → T i h'
  obj : ∀ i h, T i h → ∃ o, h.get? it = some o ∧ ∀ v, o.data ≠ .cell v
  item : ∀ (A : Around) (E : Value → Shared → Prop) (i : Nat) (s : Shared) (x : Value) (Q : Value → Shared → Prop), T i s.heap → items[i]? = some x → (∀ h', T (i + 1) h' → Heap.SameBut it s.heap h' → Q x { s with heap := h' }) → wpAny (model prog w) A (nextOf (.ref it)) Q E s
  stop : ∀ (A : Around) (E : Value → Shared → Prop) (i : Nat) (s : Shared) (Q : Value → Shared → Prop), A.handled = none → T i s.heap → items[i]? = none →
    (∀ h' e, Heap.ExtBut it s.heap h' → (∃ o, h'.get? e = some o ∧ o.cls = .type "StopIteration") → E (.ref e) { s with heap := h' }) → wpAny (model prog w) A (nextOf (.ref it)) Q E s
theorem sub_list (it l : Addr) (items : Array Value) (ne : l ≠ it) : Sub prog w it l items (fun i h => h.IsListIter it l i ∧ h.IsList l items) where
  keep := fun i h h' k st => ⟨st.1.at fun o e => k it o (.inl rfl) e, let ⟨o, e, r⟩ := st.2; ⟨o, k l o (.inr rfl) e, r⟩⟩
  obj := fun i h st => let ⟨o, e, _, d⟩ := st.1; ⟨o, e, fun v q => by rw [d] at q; cases q⟩
  item := fun A E i s x Q st hx hQ => wpAny_nextOf_list_item st.1 st.2 hx fun h' h1 sb => hQ h' ⟨h1, st.2.extBut sb.extBut ne⟩ sb
  stop := fun A E i s Q hh st hx hE => wpAny_nextOf_list_end hh st.1 st.2 hx hE
theorem sub_tuple (it l : Addr) (items : Array Value) (ne : l ≠ it) : Sub prog w it l items (fun i h => IsTupIter h it l i ∧ IsTup h l items) where
  keep := fun i h h' k st => ⟨let ⟨o, e, r⟩ := st.1; ⟨o, k it o (.inl rfl) e, r⟩, let ⟨o, e, r⟩ := st.2; ⟨o, k l o (.inr rfl) e, r⟩⟩
  obj := fun i h st => let ⟨o, e, _, d⟩ := st.1; ⟨o, e, fun v q => by rw [d] at q; cases q⟩
  item := fun A E i s x Q st hx hQ => by
    have ti := st.1
    obtain ⟨⟨o, ho, hc, hd⟩, ol, hol, hcl, nl, hdl⟩ := st
    unfold Builtin.SmallTypes.nextOf; refine wpAny_bind (wpAny_callSpecial?_slot (name := Str.ofString "__next__") ti.typeIs slot_tupleiter_next (wpAny_call_entry slot_tupleiter_next ti.typeIs entry_tupleiter_next ?_ (args_tupleiter_next _)))
    refine (show wpAny _ _ (field (.ref it) 0 >>= _) _ _ s from wpAny_bind (wpAny_field ho hd (x := .ref l) rfl ?_))
    refine (show wpAny _ _ (if (Value.ref l == Value.none) = true then _ else _) _ _ s from ?_); rw [if_neg (show ¬ ((Value.ref l == Value.none) = true) from Bool.false_ne_true)]
    refine (show wpAny _ _ (field (.ref it) 1 >>= _) _ _ s from wpAny_bind (wpAny_field ho hd (x := .int i 0) rfl ?_))
    refine (show wpAny _ _ (seqItems? (.ref l) >>= _) _ _ s from wpAny_bind (wpAny_seqItems hol hdl ?_)); simp only [Int.toNat_natCast, hx]
    refine wpAny_bind (wpAny_setField ho hd (by simp) (wpAny_pure ⟨x, rfl, wpAny_pure (hQ _ ⟨⟨_, Heap.get?_update_self _ ho (Obj.isFreed_of_fields (Obj.data_mapFields hd _)), (Obj.cls_mapFields ..).trans hc, ?_⟩, ?_⟩ (Heap.SameBut.update ..))⟩))
    · rw [Obj.data_mapFields hd]; simp [rawInt]
    · exact IsTup.extBut ⟨ol, hol, hcl, nl, hdl⟩ (Heap.SameBut.update ..).extBut ne
  stop := fun A E i s Q hh st hx hE => by
    have ti := st.1
    obtain ⟨⟨o, ho, hc, hd⟩, ol, hol, hcl, nl, hdl⟩ := st
    unfold Builtin.SmallTypes.nextOf; refine wpAny_bind (wpAny_callSpecial?_slot (name := Str.ofString "__next__") ti.typeIs slot_tupleiter_next (wpAny_call_entry slot_tupleiter_next ti.typeIs entry_tupleiter_next ?_ (args_tupleiter_next _)))
    refine (show wpAny _ _ (field (.ref it) 0 >>= _) _ _ s from wpAny_bind (wpAny_field ho hd (x := .ref l) rfl ?_))
    refine (show wpAny _ _ (if (Value.ref l == Value.none) = true then _ else _) _ _ s from ?_); rw [if_neg (show ¬ ((Value.ref l == Value.none) = true) from Bool.false_ne_true)]
    refine (show wpAny _ _ (field (.ref it) 1 >>= _) _ _ s from wpAny_bind (wpAny_field ho hd (x := .int i 0) rfl ?_))
    refine (show wpAny _ _ (seqItems? (.ref l) >>= _) _ _ s from wpAny_bind (wpAny_seqItems hol hdl ?_)); simp only [Int.toNat_natCast, hx]
    refine wpAny_bind (wpAny_rule (wpAny_bind (wpAny_setField ho hd (by simp) (show wpAny _ _ (newExc (.type "StopIteration") [] >>= _) _ _ _ from wpAny_bind ?_)))); simp only [newExc, newTuple]
    refine wpAny_bind (wpAny_newObj_type (wpAny_bind (m := firstArgMember _ _) (wpAny_of_eq (a := Value.none) (by first | rfl | (simp only [firstArgMember]; rfl)) (wpAny_newObj_type ?_ (by size_fits)))) (by size_fits)); simp only [raiseNew]
    refine wpAny_bind (wpAny_handled ?_); first | rw [show A.in1.handled = none from hh] | rw [hh]
    exact wpAny_bind (wpAny_pure (wpAny_throw (hE _ _ (((Heap.SameBut.update ..).extBut.push _).push _) ⟨_, Heap.get?_push_size _ rfl, rfl⟩)))
variable {z TI TO i1 i2 l1 l2 : Addr} {xs ys : Array Value} {T1 T2 : Nat → Heap → Prop} {k : Nat} {x y a b : Value}
theorem Sub.ext {prog : Program} {w : World} {it l : Addr} {items : Array Value} {T : Nat → Heap → Prop} (S : Sub prog w it l items T) {i : Nat} {h h' : Heap} {c : Addr} (st : T i h) (hs : Heap.ExtBut c h h') (n1 : it ≠ c) (n2 : l ≠ c) : T i h' :=
  S.keep i h h' (fun d o e q => hs d o (by rcases e with e | e <;> rw [e] <;> assumption) q) st
theorem next_item {Q : Option Value → Shared → Prop} (D : ZipApart z TI TO i1 i2 l1 l2) (S1 : Sub prog w i1 l1 xs T1) (S2 : Sub prog w i2 l2 ys T2) (hz : IsZip s.heap z TI TO .none) (hTI : IsPair s.heap TI (.ref i1) (.ref i2)) (hTO : IsPair s.heap TO a b)
    (h1 : T1 k s.heap) (h2 : T2 k s.heap) (hx : xs[k]? = some x) (hy : ys[k]? = some y)
    (hQ : ∀ h', IsZip h' z TI TO (rawInt s.heap.objs.size) → IsPair h' TO x y → T1 (k + 1) h' → T2 (k + 1) h' → IsPair h' s.heap.objs.size x y → h'.objs.size = s.heap.objs.size + 1 →
      (∀ c o, c ≠ z → c ≠ TO → c ≠ i1 → c ≠ i2 → s.heap.get? c = some o → h'.get? c = some o) → Q (some (.ref s.heap.objs.size)) { s with heap := h' }) : wpAny (model prog w) A (pyNext (.ref z)) Q E s := by
  have hT : s.TypeIs (.ref z) "zip" := ⟨_, hz, rfl⟩
  unfold pyNext; refine wpAny_bind (wpAny_attempt (wpAny_callSpecial?_slot (name := Str.ofString "__next__") hT F.slot_zip_next (wpAny_call_entry F.slot_zip_next hT F.entry_zip_next ?_ (F.args_zip_next_1 _))))
  refine (show wpAny _ _ (field (.ref z) 2 >>= _) _ _ _ from wpAny_bind (wpAny_field hz rfl (x := .bool false) rfl ?_))
  refine (show wpAny _ _ (field (.ref z) 3 >>= _) _ _ _ from wpAny_bind (wpAny_field hz rfl (x := .ref TI) rfl (wpAny_bind (wpAny_seqItems hTI rfl ?_))))
  refine (show wpAny _ _ (Builtin.SmallTypes.ownedTupleIsFree (.ref z) >>= _) _ _ _ from wpAny_bind ?_); unfold Builtin.SmallTypes.ownedTupleIsFree
  refine wpAny_bind (wpAny_field hz rfl (x := .none) rfl (wpAny_pure ?_)); simp only [if_true]
  refine wpAny_bind (wpAny_rule (wpAny_bind (wpAny_field hz rfl (x := .ref TO) rfl (wpAny_bind (wpAny_setField_rec hz (by simp) fun g1 z1 s1 => ?_)))))
  replace z1 : IsZip g1 z TI TO .ellipsis := z1
  refine wpAny_bind ?_; simp only [List.zipIdx_cons, List.zipIdx_nil, List.forIn_cons, List.forIn_nil]
  refine wpAny_bind (wpAny_bind (wpAny_onRaise (show wpAny _ _ (nextOf (.ref i1) >>= _) _ _ _ from wpAny_bind (S1.item _ _ k _ x _ (S1.ext h1 s1.extBut D.i1z D.l1z) hx fun g2 t1 s2 => wpAny_pure ?_))))
  have o2 : IsPair g2 TO a b := s2.extBut _ _ D.TOi1 (s1.extBut _ _ D.TOz hTO)
  refine wpAny_bind (wpAny_seqItems o2 rfl (wpAny_bind (wpAny_updateSeq_pair o2 fun g3 o3 s3 => ?_)))
  replace o3 : IsPair g3 TO x b := o3
  refine wpAny_bind (wpAny_letGo (wpAny_pure (wpAny_bind (wpAny_bind (wpAny_onRaise ?_)))))
  refine (show wpAny _ _ (nextOf (.ref i2) >>= _) _ _ _ from wpAny_bind (S2.item _ _ k _ y _ (S2.ext (S2.ext (S2.ext h2 s1.extBut D.i2z D.l2z) s2.extBut D.i12.symm D.l2i1) s3.extBut D.TOi2.symm D.l2TO) hy fun g4 t2 s4 => wpAny_pure ?_))
  have o4 : IsPair g4 TO x b := s4.extBut _ _ D.TOi2 o3
  refine wpAny_bind (wpAny_seqItems o4 rfl (wpAny_bind (wpAny_updateSeq_pair o4 fun g5 o5 s5 => ?_)))
  replace o5 : IsPair g5 TO x y := o5
  refine wpAny_bind (wpAny_letGo (wpAny_pure (wpAny_pure (wpAny_bind (wpAny_seqItems o5 rfl (wpAny_bind (wpAny_newTuple ?_)))))))
  have sz : g5.objs.size = s.heap.objs.size := by rw [s5.1, s4.1, s3.1, s2.1, s1.1]
  have z5 : IsZip g5 z TI TO .ellipsis := s5.extBut _ _ D.TOz.symm (s4.extBut _ _ D.i2z.symm (s3.extBut _ _ D.TOz.symm (s2.extBut _ _ D.i1z.symm z1)))
  have kp : ∀ c o, c ≠ z → c ≠ TO → c ≠ i1 → c ≠ i2 → s.heap.get? c = some o → g5.get? c = some o := fun c o c1 c2 c3 c4 e => s5.extBut _ _ c2 (s4.extBut _ _ c4 (s3.extBut _ _ c2 (s2.extBut _ _ c3 (s1.extBut _ _ c1 e))))
  have t15 : T1 (k + 1) g5 := S1.ext (S1.ext (S1.ext t1 s3.extBut D.TOi1.symm D.l1TO) s4.extBut D.i12 D.l1i2) s5.extBut D.TOi1.symm D.l1TO
  have t25 : T2 (k + 1) g5 := S2.ext t2 s5.extBut D.TOi2.symm D.l2TO
  have zlt : z < g5.objs.size := Heap.lt_size z5
  refine (show wpAny _ _ (Builtin.SmallTypes.ownedTupleHandOut (.ref z) (.ref g5.objs.size) >>= _) _ _ _ from wpAny_bind ?_); unfold Builtin.SmallTypes.ownedTupleHandOut
  have z6 : IsZip (g5.push { cls := .type "tuple", data := .seq #[x, y] }) z TI TO .ellipsis := Heap.get?_push_of_some _ z5
  refine wpAny_bind (wpAny_setField_rec z6 (by simp) fun g7 z7 s7 => ?_)
  replace z7 : IsZip g7 z TI TO (rawInt g5.objs.size) := z7
  refine wpAny_setField_rec z7 (by simp) fun g8 z8 s8 => ?_
  replace z8 : IsZip g8 z TI TO (rawInt g5.objs.size) := z8
  have up : ∀ c o, c ≠ z → g5.get? c = some o → g8.get? c = some o := fun c o c1 e => s8.extBut _ _ c1 (s7.extBut _ _ c1 (Heap.get?_push_of_some _ e))
  have p8 : IsPair g8 g5.objs.size x y := s8.extBut _ _ (Nat.ne_of_gt zlt) (s7.extBut _ _ (Nat.ne_of_gt zlt) (Heap.get?_push_size _ rfl))
  have w8 : g8.objs.size = g5.objs.size + 1 := by rw [s8.1, s7.1, Heap.size_push]
  rw [sz] at z8 p8 w8
  refine wpAny_pure ⟨_, rfl, wpAny_pure ?_⟩
  show Q (some (.ref g5.objs.size)) _
  rw [sz]
  exact hQ g8 z8 (up _ _ D.TOz o5) (S1.keep _ g5 g8 (fun c o e q => up c o (e.elim (fun e => by rw [e]; exact D.i1z) (fun e => by rw [e]; exact D.l1z)) q) t15) (S2.keep _ g5 g8 (fun c o e q => up c o (e.elim (fun e => by rw [e]; exact D.i2z) (fun e => by rw [e]; exact D.l2z)) q) t25) p8 w8 fun c o c1 c2 c3 c4 e => up c o c1 (kp c o c1 c2 c3 c4 e)
theorem next_stop {Q : Option Value → Shared → Prop} (hh : A.handled = none) (D : ZipApart z TI TO i1 i2 l1 l2) (S1 : Sub prog w i1 l1 xs T1) (S2 : Sub prog w i2 l2 ys T2) (hz : IsZip s.heap z TI TO .none) (hTI : IsPair s.heap TI (.ref i1) (.ref i2)) (hTO : IsPair s.heap TO a b)
    (h1 : T1 k s.heap) (h2 : T2 k s.heap) (hend : xs[k]? = none ∨ ys[k]? = none) (hQ : ∀ h', (∀ c o, c ≠ z → c ≠ TO → c ≠ i1 → c ≠ i2 → s.heap.get? c = some o → h'.get? c = some o) → Q none { s with heap := h' }) : wpAny (model prog w) A (pyNext (.ref z)) Q E s := by
  have hT : s.TypeIs (.ref z) "zip" := ⟨_, hz, rfl⟩
  unfold pyNext; refine wpAny_bind (wpAny_attempt (wpAny_callSpecial?_slot (name := Str.ofString "__next__") hT F.slot_zip_next (wpAny_call_entry F.slot_zip_next hT F.entry_zip_next ?_ (F.args_zip_next_1 _))))
  have fin : ∀ (h' : Heap) (e : Addr), (∀ c o, c ≠ z → c ≠ TO → c ≠ i1 → c ≠ i2 → s.heap.get? c = some o → h'.get? c = some o) → (∃ o, h'.get? e = some o ∧ o.cls = .type "StopIteration") → wpAny (model prog w) A (do if ← isInstance (.ref e) (.type "StopIteration") then pure none else throw (.ref e)) Q E { s with heap := h' } := fun h' e hk ⟨o, ho, hc⟩ => wpAny_bind (wpAny_isInstance (T := "StopIteration") (b := true) ⟨o, ho, hc⟩ isSubtype_stop (wpAny_pure (hQ _ hk)))
  refine (show wpAny _ _ (field (.ref z) 2 >>= _) _ _ _ from wpAny_bind (wpAny_field hz rfl (x := .bool false) rfl ?_))
  refine (show wpAny _ _ (field (.ref z) 3 >>= _) _ _ _ from wpAny_bind (wpAny_field hz rfl (x := .ref TI) rfl (wpAny_bind (wpAny_seqItems hTI rfl ?_))))
  refine (show wpAny _ _ (Builtin.SmallTypes.ownedTupleIsFree (.ref z) >>= _) _ _ _ from wpAny_bind ?_); unfold Builtin.SmallTypes.ownedTupleIsFree
  refine wpAny_bind (wpAny_field hz rfl (x := .none) rfl (wpAny_pure ?_)); simp only [if_true]
  refine wpAny_bind (wpAny_rule (wpAny_bind (wpAny_field hz rfl (x := .ref TO) rfl (wpAny_bind (wpAny_setField_rec hz (by simp) fun g1 z1 s1 => ?_)))))
  replace z1 : IsZip g1 z TI TO .ellipsis := z1
  refine wpAny_bind ?_; simp only [List.zipIdx_cons, List.zipIdx_nil, List.forIn_cons, List.forIn_nil]
  refine wpAny_bind (wpAny_bind (wpAny_onRaise (show wpAny _ _ (nextOf (.ref i1) >>= _) _ _ _ from wpAny_bind ?_)))
  cases hx : xs[k]? with
  | none =>
    refine S1.stop _ _ k _ _ hh (S1.ext h1 s1.extBut D.i1z D.l1z) hx fun g2 e s2 ⟨oe, hoe, hce⟩ => ?_
    have z2 : IsZip g2 z TI TO .ellipsis := s2 _ _ D.i1z.symm z1
    have ez : e ≠ z := fun q => by subst q; rw [z2] at hoe; cases hoe; simp at hce
    exact wpAny_setField_rec z2 (by simp) fun g3 _ s3 => fin g3 e (fun c o c1 _ c3 _ q => s3.extBut _ _ c1 (s2 _ _ c3 (s1.extBut _ _ c1 q))) ⟨oe, s3.extBut _ _ ez hoe, hce⟩
  | some x =>
    have hy : ys[k]? = none := by rcases hend with q | q; rw [hx] at q; cases q; exact q
    refine S1.item _ _ k _ x _ (S1.ext h1 s1.extBut D.i1z D.l1z) hx fun g2 t1 s2 => wpAny_pure ?_
    have o2 : IsPair g2 TO a b := s2.extBut _ _ D.TOi1 (s1.extBut _ _ D.TOz hTO)
    refine wpAny_bind (wpAny_seqItems o2 rfl (wpAny_bind (wpAny_updateSeq_pair o2 fun g3 o3 s3 => ?_)))
    refine wpAny_bind (wpAny_letGo (wpAny_pure (wpAny_bind (wpAny_bind (wpAny_onRaise ?_)))))
    refine (show wpAny _ _ (nextOf (.ref i2) >>= _) _ _ _ from wpAny_bind (S2.stop _ _ k _ _ hh (S2.ext (S2.ext (S2.ext h2 s1.extBut D.i2z D.l2z) s2.extBut D.i12.symm D.l2i1) s3.extBut D.TOi2.symm D.l2TO) hy fun g4 e s4 ⟨oe, hoe, hce⟩ => ?_))
    have z4 : IsZip g4 z TI TO .ellipsis := s4 _ _ D.i2z.symm (s3.extBut _ _ D.TOz.symm (s2.extBut _ _ D.i1z.symm z1))
    have ez : e ≠ z := fun q => by subst q; rw [z4] at hoe; cases hoe; simp at hce
    exact wpAny_setField_rec z4 (by simp) fun g5 _ s5 => fin g5 e (fun c o c1 c2 c3 c4 q => s5.extBut _ _ c1 (s4 _ _ c4 (s3.extBut _ _ c2 (s2.extBut _ _ c3 (s1.extBut _ _ c1 q))))) ⟨oe, s5.extBut _ _ ez hoe, hce⟩
end
end ZG
namespace ZG
open PySem PySem.Spec PyProof.Rows L2
/-- the iterator that a list (false) or a tuple (true) at l gives -/
abbrev itO : Bool → Addr → Obj
  | false, l => { cls := .type "list_iterator", data := .fields #[.ref l, .int 0 0] }
  | true, l => { cls := .type "tuple_iterator", data := .fields #[.ref l, .int 0 0] }
def Src : Bool → Heap → Addr → Array Value → Prop
  | false, h, l, its => h.IsList l its
  | true, h, l, its => IsTup h l its
def ItI (it l : Addr) : Bool → Nat → Heap → Prop
  | false => fun i h => h.IsListIter it l i
  | true => fun i h => IsTupIter h it l i
def ItS (it l : Addr) (its : Array Value) : Bool → Nat → Heap → Prop
  | false => fun i h => h.IsListIter it l i ∧ h.IsList l its
  | true => fun i h => IsTupIter h it l i ∧ IsTup h l its
theorem ItS.of {it l : Addr} {its : Array Value} {b : Bool} {i : Nat} {h : Heap} (x : ItI it l b i h) (y : Src b h l its) : ItS it l its b i h := by
  cases b with
  | false => exact ⟨x, y⟩
  | true => exact ⟨x, y⟩
theorem ItS.it {it l : Addr} {its : Array Value} {b : Bool} {i : Nat} {h : Heap} (x : ItS it l its b i h) : ItI it l b i h := by
  cases b with
  | false => exact x.1
  | true => exact x.1
theorem ItI.at {it l : Addr} {b : Bool} {i : Nat} {h h' : Heap} (x : ItI it l b i h) (k : ∀ o, h.get? it = some o → h'.get? it = some o) : ItI it l b i h' := by
  cases b with
  | false => obtain ⟨o, e, r⟩ := x; exact ⟨o, k _ e, r⟩
  | true => obtain ⟨o, e, r⟩ := x; exact ⟨o, k _ e, r⟩
theorem ItI.obj {it l : Addr} {b : Bool} {i : Nat} {h : Heap} (x : ItI it l b i h) : ∃ o, h.get? it = some o ∧ ∀ v, o.data ≠ .cell v := by
  cases b with
  | false => obtain ⟨o, e, _, d⟩ := x; exact ⟨o, e, fun v q => by rw [d] at q; cases q⟩
  | true => obtain ⟨o, e, _, d⟩ := x; exact ⟨o, e, fun v q => by rw [d] at q; cases q⟩
theorem Src.keeps {b : Bool} {h h' : Heap} {l : Addr} {its : Array Value} (x : Src b h l its) (k : ∀ c o, h.get? c = some o → h'.get? c = some o) : Src b h' l its := by
  cases b with
  | false => obtain ⟨o, e, r⟩ := x; exact ⟨o, k _ _ e, r⟩
  | true => obtain ⟨o, e, r⟩ := x; exact ⟨o, k _ _ e, r⟩
theorem Src.lt {b : Bool} {h : Heap} {l : Addr} {its : Array Value} (x : Src b h l its) : l < h.objs.size := by
  cases b with
  | false => obtain ⟨o, e, r⟩ := x; exact Heap.lt_size e
  | true => obtain ⟨o, e, r⟩ := x; exact Heap.lt_size e
theorem sub_any {prog : Program} {w : World} (b : Bool) (it l : Addr) (its : Array Value) (ne : l ≠ it) : Sub prog w it l its (ItS it l its b) := by
  cases b with
  | false => exact sub_list it l its ne
  | true => exact sub_tuple it l its ne
theorem start_any {b : Bool} {it l : Addr} {h : Heap} (e : h.get? it = some (itO b l)) : ItI it l b 0 h := by
  cases b with
  | false => exact ⟨_, e, rfl, rfl⟩
  | true => exact ⟨_, e, rfl, rfl⟩
section
variable {prog : Program} {w : World} {A : Around} {E : Value → Shared → Prop} {s : Shared}
theorem iter_any {b : Bool} {l : Addr} {its : Array Value} {Q : Value → Shared → Prop} (x : Src b s.heap l its) (hQ : Q (.ref s.heap.objs.size) { s with heap := s.heap.push (itO b l) }) : wpAny (model prog w) A (pyIter (.ref l)) Q E s := by
  cases b with
  | false => exact wpAny_pyIter_list x hQ
  | true => exact iter_tuple x hQ
abbrev zh2 (h : Heap) (b c : Bool) (l m : Addr) : Heap := (h.push (itO b l)).push (itO c m)
abbrev zh3 (h : Heap) (b c : Bool) (l m : Addr) : Heap := (zh2 h b c l m).push { cls := .type "tuple", data := .seq #[.ref h.objs.size, .ref (h.push (itO b l)).objs.size] }
abbrev zh4 (h : Heap) (b c : Bool) (l m : Addr) : Heap := (zh3 h b c l m).push { cls := .type "tuple", data := .seq #[.none, .none] }
abbrev zh5 (h : Heap) (b c : Bool) (l m : Addr) : Heap := (zh4 h b c l m).push { cls := .type "zip", data := .fields #[.none, .bool false, .bool false, .ref (zh2 h b c l m).objs.size, .ref (zh3 h b c l m).objs.size] }
theorem meets_any (b c : Bool) (l m : Addr) (xs ys : Array Value) : Meets (Builtin.«zip.__new__» ⟨[.type "zip", .ref l, .ref m], []⟩) (fun _ R s => Src b s.heap l xs ∧ Src c s.heap m ys ∧ R (.ok (.ret (.ref (zh4 s.heap b c l m).objs.size))) { s with heap := zh5 s.heap b c l m }) :=
  .of_wp fun prog w A R s h => by
    obtain ⟨hp, g, d, tk, os⟩ := s
    obtain ⟨x, y, h⟩ := h
    have hsub := sub_zip
    have y' : Src c (Shared.heap ⟨hp.push (itO b l), g, d, tk, os⟩) m ys := y.keeps fun c o e => Heap.get?_push_of_some _ e
    have x' : Src b (Shared.heap ⟨hp, g, d, tk, os⟩) l xs := x
    wp_walk using iter_any x', iter_any y'
    exact ⟨_, rfl, h⟩
theorem call_any {b c : Bool} {l m : Addr} {xs ys : Array Value} {Q : Value → Shared → Prop} (x : Src b s.heap l xs) (y : Src c s.heap m ys)
    (h : ∀ h', IsZip h' (s.heap.objs.size + 4) (s.heap.objs.size + 2) (s.heap.objs.size + 3) .none → IsPair h' (s.heap.objs.size + 2) (.ref s.heap.objs.size) (.ref (s.heap.objs.size + 1)) → IsPair h' (s.heap.objs.size + 3) .none .none → h'.get? s.heap.objs.size = some (itO b l) → h'.get? (s.heap.objs.size + 1) = some (itO c m) →
      (∀ c o, s.heap.get? c = some o → h'.get? c = some o) → Q (.ref (s.heap.objs.size + 4)) { s with heap := h' }) : wpAny (model prog w) A (call (.type "zip") [.ref l, .ref m]) Q E s := by
  refine callType_new F.called_zip (by decide) (F.typeCall_zip_2 _ _) (F.newCall_zip_2 _ _) (fun obj => F.args_object_init_3 obj _ _) F.entry_zip_new (meets_any b c l m xs ys) ⟨x, y, ?_⟩
  have z1 : (s.heap.push (itO b l)).objs.size = s.heap.objs.size + 1 := Heap.size_push ..
  have z2 : (zh2 s.heap b c l m).objs.size = s.heap.objs.size + 2 := by rw [Heap.size_push, z1]
  have z3 : (zh3 s.heap b c l m).objs.size = s.heap.objs.size + 3 := by rw [Heap.size_push, z2]
  have z4 : (zh4 s.heap b c l m).objs.size = s.heap.objs.size + 4 := by rw [Heap.size_push, z3]
  have k : ∀ (h : Heap) (o : Obj) {c : Addr} {u : Obj}, h.get? c = some u → (h.push o).get? c = some u := fun h o _ _ e => Heap.get?_push_of_some o e
  have lb : (itO b l).isFreed = false := by cases b <;> rfl
  have lc : (itO c m).isFreed = false := by cases c <;> rfl
  have g5 : (zh5 s.heap b c l m).get? (zh4 s.heap b c l m).objs.size = some _ := Heap.get?_push_size _ rfl
  have g4 : (zh5 s.heap b c l m).get? (zh3 s.heap b c l m).objs.size = some _ := k _ _ (Heap.get?_push_size _ rfl)
  have g3 : (zh5 s.heap b c l m).get? (zh2 s.heap b c l m).objs.size = some _ := k _ _ (k _ _ (Heap.get?_push_size _ rfl))
  have g2 : (zh5 s.heap b c l m).get? (s.heap.push (itO b l)).objs.size = some (itO c m) := k _ _ (k _ _ (k _ _ (Heap.get?_push_size _ lc)))
  have g1 : (zh5 s.heap b c l m).get? s.heap.objs.size = some (itO b l) := k _ _ (k _ _ (k _ _ (k _ _ (Heap.get?_push_size _ lb))))
  show _ ∧ _
  rw [z2, z3, z4] at g5
  rw [z1, z2] at g3
  rw [z3] at g4
  rw [z1] at g2
  rw [z4]
  exact ⟨⟨_, g5, rfl⟩, h _ g5 g3 g4 g1 g2 fun c o q => k _ _ (k _ _ (k _ _ (k _ _ (k _ _ q))))⟩
end
/-- a list (false) or a tuple (true) -/
def SqA (K : PySem.W.Frag) (H : Hp) (a : Addr) : Bool → List V → Prop
  | false => SqL K H a
  | true => SqT K H a
section
variable {X : Cx} {pins : List (Addr × Obj)} {σ : L2.St} {H : Hp} {s : Shared} {a : Addr} {xs ys : List V} {b : Bool}
theorem seqA (I : Inv X pins σ H s) (h : SqA X.K H a b xs) : ∃ its : List Value, Vals xs its ∧ Src b s.heap a its.toArray := by
  cases b with
  | false => obtain ⟨its, r, p, _⟩ := I.list h; exact ⟨its, r, p.isList⟩
  | true => obtain ⟨its, r, p, _⟩ := I.tuple h; exact ⟨its, r, p⟩
end
/-- what stands at a and b, both as they were at the start -/
def Itz2 (K : PySem.W.Frag) (a b : Addr) (c d : Bool) (xs ys : List V) : It :=
  ⟨fun i H => SqA K H a c xs ∧ SqA K H b d ys ∧ i < xs.length ∧ i < ys.length,
    fun i H v H' => ∃ T x y, v = .ref T ∧ H T = none ∧ H' = upd H T (.tup [x, y]) ∧ xs[i]? = some x ∧ ys[i]? = some y,
    fun i H => SqA K H a c xs ∧ SqA K H b d ys ∧ (xs.length ≤ i ∨ ys.length ≤ i)⟩
theorem turn_any {P : Program} {w : World} {K : PySem.W.Frag} {elts : List Expr} {kk : Nat} {tpos : Pos} {a b z TI TO i1 i2 : Addr} {c d : Bool} {xs ys : List V} (D : ZipApart z TI TO i1 i2 a b) :
    Turn P w K (.Tuple elts kk tpos) (Itz2 K a b c d xs ys) [z, TI, TO, i1, i2] z (fun i h => IsZip h z TI TO .none ∧ IsPair h TI (.ref i1) (.ref i2) ∧ (∃ x y, IsPair h TO x y) ∧ ItI i1 a c i h ∧ ItI i2 b d i h) where
  mem := by simp
  obj := fun i h st e he => by
    obtain ⟨hz, hTI, ⟨x, y, hTO⟩, g1, g2⟩ := st
    have e' : e = z ∨ e = TI ∨ e = TO ∨ e = i1 ∨ e = i2 := by simpa using he
    rcases e' with q | q | q | q | q
    · rw [q]; exact ⟨_, hz, fun v q => nomatch q⟩
    · rw [q]; exact ⟨_, hTI, fun v q => nomatch q⟩
    · rw [q]; exact ⟨_, hTO, fun v q => nomatch q⟩
    · rw [q]; exact g1.obj
    · rw [q]; exact g2.obj
  keep := fun i h h' st k => by
    obtain ⟨hz, hTI, ⟨x, y, hTO⟩, g1, g2⟩ := st
    exact ⟨k z (by simp) _ hz, k TI (by simp) _ hTI, ⟨x, y, k TO (by simp) _ hTO⟩, g1.at fun o q => k i1 (by simp) o q, g2.at fun o q => k i2 (by simp) o q⟩
  item := by
    intro X hP hw hK hc i pins s σ H E I hf st hg
    subst hP hw hK
    obtain ⟨hz, hTI, ⟨x0, y0, hTO⟩, g1, g2⟩ := st
    obtain ⟨hqx, hqy, lx, ly⟩ := hg
    obtain ⟨its, rv, p⟩ := seqA I hqx
    obtain ⟨its2, rv2, p2⟩ := seqA I hqy
    have ex := List.getElem?_eq_getElem lx
    have ey := List.getElem?_eq_getElem ly
    obtain ⟨u, hu, ru⟩ := rv.get ex
    obtain ⟨u2, hu2, ru2⟩ := rv2.get ey
    have hzl : z < s.heap.objs.size := Heap.lt_size hz
    refine next_item (k := i) D (sub_any c i1 a its.toArray D.l1i1) (sub_any d i2 b its2.toArray D.l2i2) hz hTI hTO (ItS.of g1 p) (ItS.of g2 p2) (x := u) (y := u2) (by simpa using hu) (by simpa using hu2) fun h' z' TO' h1' h2' hT hsz hk => ?_
    refine ⟨_, rfl, wpAny_letOwnedTupleGo_zip (s := { s with heap := h' }) z' fun h'' z'' sb => ?_⟩
    have hT2 : h''.get? s.heap.objs.size = some { cls := .type "tuple", data := .seq #[u, u2] } := (sb.2 _ (Nat.ne_of_gt hzl)).trans hT
    have new : ObjOk X.prog X.w (upd H s.heap.objs.size (.tup [xs[i], ys[i]])) h'' s.heap.objs.size (.tup [xs[i], ys[i]]) := ⟨by show 2 ≤ sizeLine; decide, [u, u2], .cons ru (.cons ru2 .nil), ⟨_, hT2, rfl, _, rfl⟩⟩
    have I1 : Inv X pins σ (upd H s.heap.objs.size (.tup [xs[i], ys[i]])) { s with heap := h'' } :=
      I.turnedNew (t' := s.toks) (ch := [z, TI, TO, i1, i2]) (fun e o hb q => (sb.2 e (fun q' => hb (by simp [q']))).trans (hk e o (fun q' => hb (by simp [q'])) (fun q' => hb (by simp [q'])) (fun q' => hb (by simp [q'])) (fun q' => hb (by simp [q'])) q)) hf (Nat.le_refl _) new
    refine ⟨.ref s.heap.objs.size, _, I1, rfl, ⟨_, _, _, rfl, I.hok.fresh (Nat.le_refl _), rfl, ex, ey⟩, ⟨z'', (sb.2 _ D.TIz).trans (hk _ _ D.TIz D.TITO D.TIi1 D.TIi2 hTI), ⟨u, u2, (sb.2 _ D.TOz).trans TO'⟩, h1'.it.at fun o q => (sb.2 _ D.i1z).trans q, h2'.it.at fun o q => (sb.2 _ D.i2z).trans q⟩, fun e hcm => ?_⟩
    have hlt : e < s.heap.objs.size := by
      have e' : e = z ∨ e = TI ∨ e = TO ∨ e = i1 ∨ e = i2 := by simpa using hcm
      rcases e' with q | q | q | q | q
      · rw [q]; exact hzl
      · rw [q]; exact Heap.lt_size hTI
      · rw [q]; exact Heap.lt_size hTO
      · rw [q]; obtain ⟨_, e1, _⟩ := g1.obj; exact Heap.lt_size e1
      · rw [q]; obtain ⟨_, e2, _⟩ := g2.obj; exact Heap.lt_size e2
    rw [upd_ne (Nat.ne_of_lt hlt)]
    exact (hf e hcm).1
  done := by
    intro X hP hw hK hc i pins s σ H E I hf st hg
    subst hP hw hK
    obtain ⟨hz, hTI, ⟨x0, y0, hTO⟩, g1, g2⟩ := st
    obtain ⟨hqx, hqy, hend⟩ := hg
    obtain ⟨its, rv, p⟩ := seqA I hqx
    obtain ⟨its2, rv2, p2⟩ := seqA I hqy
    have l1 := rv.length
    have l2 := rv2.length
    have he : its.toArray[i]? = none ∨ its2.toArray[i]? = none := by
      rcases hend with q | q
      · exact .inl (by simp; omega)
      · exact .inr (by simp; omega)
    exact next_stop (k := i) (I.ok.hd hc) D (sub_any c i1 a its.toArray D.l1i1) (sub_any d i2 b its2.toArray D.l2i2) hz hTI hTO (ItS.of g1 p) (ItS.of g2 p2) he fun h' hk => ⟨rfl, I.turnedL (t' := s.toks) (ch := [z, TI, TO, i1, i2]) (fun e o hb q =>
      hk e o (fun q' => hb (by simp [q'])) (fun q' => hb (by simp [q'])) (fun q' => hb (by simp [q'])) (fun q' => hb (by simp [q'])) q) hf⟩
  self := fun A i s Q E st h => wpAny_pyIter_zip st.1 h
def iZip2 (K : PySem.W.Frag) (ta : TA) : TI := fun σ H R => ta σ H fun vs H1 => ∃ a b c d xs ys, vs = [.ref a, .ref b] ∧ SqA K H1 a c xs ∧ SqA K H1 b d ys ∧ R (Itz2 K a b c d xs ys) H1
end ZG
namespace L2
open PySem PySem.Spec PyProof.Rows ZG
theorem pi_zipA {X : Cx} {e e2 : Expr} {ta : TA} {p pos tpos : Pos} {elts : List Expr} {kk : Nat} (hg : Gl X "zip") (hm : X.mg "zip" = none) (ha : PA X [e, e2] ta)
    (hs : starEach [e, e2] X.env = (false, eval e X.env) :: starEach [e2] X.env := by rfl) (hpl : (backTo pos (starEach [e2] X.env)).any (·.1) = false := by rfl) :
    PI X (.Tuple elts kk tpos) (.Call (.Name "zip" p) [e, e2] [] pos) (iZip2 X.K ta) := by
  intro pins s σ H R I h
  refine Call_ (ld_blt I hg hm boot_zip5 (PyProof.Rows.callWith_type1 (thn (ha pos pins s σ H _ I h) fun us s1 ⟨vs, H1, I1, r1, q1⟩ => ?_) hs hpl))
  obtain ⟨a, b, c, d, xs, ys, ex, hqx, hqy, q⟩ := q1
  subst ex
  cases r1 with
  | cons r rr => cases rr with
    | cons r' rr =>
      cases rr; cases r; cases r'
      obtain ⟨its, rv, p1⟩ := seqA I1 hqx
      obtain ⟨its2, rv2, p2⟩ := seqA I1 hqy
      refine call_any p1 p2 fun h' hz hTI hTO h1 h2 hk => wpAny_pyIter_zip hz ?_
      have I2 : Inv X pins σ H1 { s1 with heap := h' } := I1.kept (t' := s1.toks) hk
      refine ⟨s1.heap.objs.size + 4, [s1.heap.objs.size + 4, s1.heap.objs.size + 2, s1.heap.objs.size + 3, s1.heap.objs.size, s1.heap.objs.size + 1], _, _, H1, rfl, I2, turn_any (PySem.W.ktu_apart s1.heap.objs.size a b p1.lt p2.lt), ⟨hz, hTI, ⟨_, _, hTO⟩, start_any h1, start_any h2⟩, fun e hcm => ?_, q⟩
      have e' : e = s1.heap.objs.size + 4 ∨ e = s1.heap.objs.size + 2 ∨ e = s1.heap.objs.size + 3 ∨ e = s1.heap.objs.size ∨ e = s1.heap.objs.size + 1 := by simpa using hcm
      have hle : s1.heap.objs.size ≤ e := by
        rcases e' with z | z | z | z | z <;> rw [z] <;> first | exact Nat.le_add_right _ _ | exact Nat.le_refl _
      exact I1.fpOk hle (I1.hok.fresh hle)
end L2
namespace L2
open PySem PySem.Spec PyProof.Rows
section
variable {X : Cx} {K : PySem.W.Frag} {o e a b : Expr} {to te ta tb : TE} {pos apos cpos : Pos}
/-! ### the rules that name the fragment, the fragment a letter of its own -/
theorem addK (hK : X.K = K := by rfl) : OpR X (binaryOp .Add) (rAddA K) := by subst hK; exact op_addA
theorem eqK (hu : X.A.units + 64 < cLine) (hK : X.K = K := by rfl) : OpR X (compareOp .Eq) (rEqA K) := by subst hK; exact op_eqA hu
theorem neK (hu : X.A.units + 64 < cLine) (hK : X.K = K := by rfl) : OpR X (compareOp .NotEq) (rNeA K) := by subst hK; exact op_neA hu
def rInA (K : PySem.W.Frag) : R2 := fun x y H Q => rInS x y H Q ∨ rIn K false x y H Q
theorem ixK (hK : X.K = K := by rfl) : IxR X (rIx K) := by subst hK; exact ix_seq
def rSlA (K : PySem.W.Frag) : V → Option Int → Option Int → Hp → VK → Prop := fun x lo hi H Q => rSlL K x lo hi H Q ∨ rSlS x lo hi H Q
theorem slK (hK : X.K = K := by rfl) : SlR X (rSlA K) := by subst hK; exact sl_any
def iAny (K : PySem.W.Frag) (te : TE) : TI := fun σ H R => iList K te σ H R ∨ iTup K te σ H R ∨ iStr te σ H R
def rLen (K : PySem.W.Frag) : List V → Hp → VK → Prop := fun xs H Q => ∃ x n, xs = [x] ∧ LenV K x H n ∧ Q (.int n) H
theorem lenK (hK : X.K = K := by rfl) : CallR X (.builtin "len") (rLen K) := by subst hK; exact call_len
theorem isiK (hK : X.K = K := by rfl) : CallR X (.builtin "isinstance") (rIsi K) := by subst hK; exact cr_isi
def rListOf (K : PySem.W.Frag) : List V → Hp → VK → Prop := fun xs H Q => ∃ p ys, xs = [.ref p] ∧ (SqL K H p ys ∨ SqT K H p ys) ∧ ∀ l, H l = none → Q (.ref l) (upd H l (.lst ys))
theorem listK (hK : X.K = K := by rfl) : CallR X (.type "list") (rListOf K) := by subst hK; exact call_list_of
theorem allK (hc : X.calm = true) (hK : X.K = K := by rfl) : CallR X (.builtin "all") (rAll K) := by subst hK; exact cr_all hc
def rJoin (K : PySem.W.Frag) : V → List V → Hp → VK → Prop := fun x xs H Q => ∃ a p, ∃ ys : List Str, x = .str a ∧ xs = [.ref p] ∧ (SqL K H p (ys.map V.str) ∨ SqT K H p (ys.map V.str)) ∧ (ys.map (·.length)).sum + ys.length * a.length ≤ 16777216 ∧ Q (.str (Txt.join a ys)) H
/-! ### many written texts at once -/
def strsOf : List Expr → Option (List Str)
  | [] => some []
  | .Constant (.str x) _ _ :: r => (strsOf r).map (x :: ·)
  | _ => none
def tStrs (ss : List Str) : TA := fun _ H Q => Q (ss.map V.str) H
/-- name = [written texts ..] as a whole -/
def strsStmt : Stmt → Option (Str × List Str)
  | .Assign [.Name x _] (.List es _) _ => (strsOf es).map fun ss => (x, ss)
  | _ => none
end
end L2
namespace L2
open PySem PySem.Spec PyProof.Rows
/-! ### f-strings of texts -/
abbrev TF := St → Hp → (List Str → Hp → Prop) → Prop
def tfNil : TF := fun _ H k => k [] H
def tfStr (x : Str) (t : TF) : TF := fun σ H k => t σ H fun ss H1 => k (x :: ss) H1
def tfVal (te : TE) (t : TF) : TF := fun σ H k => te σ H fun v H1 => ∃ z : Str, v = .str z ∧ z.length ≤ 100000 ∧ t σ H1 fun ss H2 => k (z :: ss) H2
def gl (acc : Str) : List Str → Str
  | [] => acc
  | x :: r => gl (acc ++ x) r
section
variable {X : Cx}
def PF (X : Cx) (m : Nat) (es : List Expr) (t : TF) : Prop :=
  ∀ (acc : Str) (pins : List (Addr × Obj)) (s : Shared) (σ : St) (H : Hp) (Q : VK), acc.length ≤ m → Inv X pins σ H s → t σ H (fun ss H1 => Q (.str (gl acc ss)) H1) →
    wpAny (model X.prog X.w) X.A (joinParts acc (evalEach es X.env)) (EP X pins σ Q) X.xe s
variable {m : Nat} {e : Expr} {es : List Expr} {te : TE} {t : TF} {pos : Pos}
def tFs (t : TF) : TE := fun σ H Q => t σ H fun ss H1 => Q (.str (gl Str.empty ss)) H1
end
end L2
namespace DL
open PySem L2 ZG
/-! ### data in a heap that grows -/
theorem seqT {K : PySem.W.Frag} {H H' : Hp} {a : Addr} {xs : List V} (e : Same H H') (h : SqT K H a xs) : SqT K H' a xs := by
  rcases h with (h | ⟨o, h⟩) | h
  · exact .inl (.inl (e _ _ h))
  · exact .inl (.inr ⟨o, e _ _ h⟩)
  · exact .inr h
theorem rd_same {H H' : Hp} {a : Addr} {u : HO} (e : Same H H') (h : Rd H a u) : Rd H' a u := by
  rcases h with h | ⟨o, h⟩
  · exact .inl (e _ _ h)
  · exact .inr ⟨o, e _ _ h⟩
def kinds : List String := ["int", "str", "bool", "list", "tuple"]
/-- the class c of exceptions stands at C -/
structure XCls (K : PySem.W.Frag) (c : Str) (C : Addr) : Prop where
  nm : PySem.W.nsIn K mainGlobals c = some (some (.ref C))
  xc : XC.XCl K C
  kd : ∀ k ∈ kinds, PySem.W.kitOne K (.ref C) (.type k) = some false
  kd2 : ∀ k ∈ kinds, ∀ k' ∈ kinds, PySem.W.kitAny K (.ref C) [.type k, .type k'] = some false
mutual
/-- data: lists that are tracked, tuples of any make -/
inductive Dq (K : PySem.W.Frag) (H : Hp) : V → PyData → Prop
  | non : Dq K H .non .none
  | bl (b : Bool) : Dq K H (.bl b) (.bool b)
  | int (i : Int) : Dq K H (.int i) (.int i)
  | str (x : Str) : Dq K H (.str x) (.str x)
  | lst {a : Addr} {xs : List V} {ds : List PyData} : Rd H a (.lst xs) → DqAll K H xs ds → Dq K H (.ref a) (.list ds)
  | tup {a : Addr} {xs : List V} {ds : List PyData} : SqT K H a xs → DqAll K H xs ds → Dq K H (.ref a) (.tuple ds)
  | dct {a : Addr} {od : Obj} {kvs : List (Key × V)} {ds : List (PyData × PyData)} : H a = some (.frz od (.dK kvs)) → DqKv K H kvs ds → Dq K H (.ref a) (.dict ds)
  | exc {a dx C : Addr} {c : Str} {fs : List (Str × V)} {ds : List (PyData × PyData)} : XCls K c C → (∀ p ∈ fs, NoAttr K C p.1) → H a = some (XC.ExO C dx a) → H dx = some (.xd fs) → DqFs K H fs ds → Dq K H (.ref a) (.dict ((.none, .str c) :: ds))
inductive DqAll (K : PySem.W.Frag) (H : Hp) : List V → List PyData → Prop
  | nil : DqAll K H [] []
  | cons {v : V} {vs : List V} {d : PyData} {ds : List PyData} : Dq K H v d → DqAll K H vs ds → DqAll K H (v :: vs) (d :: ds)
inductive DqKv (K : PySem.W.Frag) (H : Hp) : List (Key × V) → List (PyData × PyData) → Prop
  | nil : DqKv K H [] []
  | cons {x : Str} {v : V} {kvs : List (Key × V)} {d : PyData} {ds : List (PyData × PyData)} : Dq K H v d → DqKv K H kvs ds → DqKv K H ((.inr x, v) :: kvs) ((.str x, d) :: ds)
inductive DqFs (K : PySem.W.Frag) (H : Hp) : List (Str × V) → List (PyData × PyData) → Prop
  | nil : DqFs K H [] []
  | cons {f : Str} {v : V} {fs : List (Str × V)} {d : PyData} {ds : List (PyData × PyData)} : Dq K H v d → DqFs K H fs ds → DqFs K H ((f, v) :: fs) ((.none, .tuple [.str f, d]) :: ds)
end
mutual
theorem Dq.dp {K : PySem.W.Frag} {H : Hp} : ∀ {v : V} {d : PyData}, Dq K H v d → d.canLay0 = true → Dp K H v d
  | _, _, .non, _ => .non
  | _, _, .bl b, _ => .bl b
  | _, _, .int i, _ => .int i
  | _, _, .str x, _ => .str x
  | _, _, .lst h a, c => .lst (.inl h) (a.dp (by simpa [PyData.canLay0] using c))
  | _, _, .tup h a, c => .tup h (a.dp (by simpa [PyData.canLay0] using c))
  | _, _, .dct h a, c => by simp [PyData.canLay0] at c
  | _, _, .exc _ _ _ _ _, c => by simp [PyData.canLay0] at c
theorem DqAll.dp {K : PySem.W.Frag} {H : Hp} : ∀ {vs : List V} {ds : List PyData}, DqAll K H vs ds → PyData.canLayAll0 ds = true → DpAll K H vs ds
  | _, _, .nil, _ => .nil
  | _, _, .cons h a, c => by
    simp only [PyData.canLayAll0, Bool.and_eq_true] at c
    exact .cons (h.dp c.1) (a.dp c.2)
end
mutual
theorem dp_same {K : PySem.W.Frag} {H H' : Hp} (s : Same H H') : ∀ {v : V} {d : PyData}, Dq K H v d → Dq K H' v d
  | _, _, .non => .non
  | _, _, .bl b => .bl b
  | _, _, .int i => .int i
  | _, _, .str x => .str x
  | _, _, .lst h a => .lst (rd_same s h) (dpa_same s a)
  | _, _, .tup h a => .tup (seqT s h) (dpa_same s a)
  | _, _, .dct h a => .dct (s _ _ h) (dpk_same s a)
  | _, _, .exc c n h hd a => .exc c n (s _ _ h) (s _ _ hd) (dpf_same s a)
theorem dpa_same {K : PySem.W.Frag} {H H' : Hp} (s : Same H H') : ∀ {vs : List V} {ds : List PyData}, DqAll K H vs ds → DqAll K H' vs ds
  | _, _, .nil => .nil
  | _, _, .cons h a => .cons (dp_same s h) (dpa_same s a)
theorem dpk_same {K : PySem.W.Frag} {H H' : Hp} (s : Same H H') : ∀ {vs : List (Key × V)} {ds : List (PyData × PyData)}, DqKv K H vs ds → DqKv K H' vs ds
  | _, _, .nil => .nil
  | _, _, .cons h a => .cons (dp_same s h) (dpk_same s a)
theorem dpf_same {K : PySem.W.Frag} {H H' : Hp} (s : Same H H') : ∀ {vs : List (Str × V)} {ds : List (PyData × PyData)}, DqFs K H vs ds → DqFs K H' vs ds
  | _, _, .nil => .nil
  | _, _, .cons h a => .cons (dp_same s h) (dpf_same s a)
end
/-- a dict, not an exception -/
def plD : List (PyData × PyData) → Bool
  | (.none, _) :: _ => false
  | _ => true
theorem dpa_len {K : PySem.W.Frag} {H : Hp} : ∀ {vs : List V} {ds : List PyData}, DqAll K H vs ds → vs.length = ds.length
  | _, _, .nil => rfl
  | _, _, .cons _ a => by rw [List.length_cons, List.length_cons, dpa_len a]
theorem dpa_get' {K : PySem.W.Frag} {H : Hp} : ∀ {vs : List V} {ds : List PyData} {i : Nat} {d : PyData}, DqAll K H vs ds → ds[i]? = some d → ∃ v, vs[i]? = some v ∧ Dq K H v d
  | _, _, _, _, .nil, e => by simp at e
  | _, _, 0, _, .cons h _, e => by simp at e; subst e; exact ⟨_, rfl, h⟩
  | _, _, i + 1, v, .cons _ t, e => by
    obtain ⟨u, h1, h2⟩ := dpa_get' (i := i) (d := v) t (by simpa using e)
    exact ⟨u, by simpa using h1, h2⟩
theorem dpa_app {K : PySem.W.Frag} {H : Hp} : ∀ {vs us : List V} {ds es : List PyData}, DqAll K H vs ds → DqAll K H us es → DqAll K H (vs ++ us) (ds ++ es)
  | _, _, _, _, .nil, b => b
  | _, _, _, _, .cons h a, b => .cons h (dpa_app a b)
theorem dpa_set {K : PySem.W.Frag} {H : Hp} {v : V} {d : PyData} (h : Dq K H v d) : ∀ (n : Nat) {vs : List V} {ds : List PyData}, DqAll K H vs ds → DqAll K H (vs.set n v) (ds.set n d)
  | _, _, _, .nil => .nil
  | 0, _, _, .cons _ a => .cons h a
  | n + 1, _, _, .cons x a => .cons x (dpa_set h n a)
/-! ### slots -/
inductive Slot where
  | no
  | dat (d : PyData)
  | own (ds : List PyData)
  | par (ds : List PyData)
  | fn (x : Str)
abbrev DEnv := List Slot
inductive Rv where
  | dat (d : PyData)
  | bor (i : Nat)
  | new (ds : List PyData)
structure Fc where
  H0 : Hp
  Hs0 : Hp
  O : Addr → Prop
  vs : List V
def OwnAt (σ : St) (ρ : DEnv) (i : Nat) (a : Addr) : Prop := σ[i]? = some (some (.ref a)) ∧ ∃ ds, ρ[i]? = some (.own ds) ∨ ρ[i]? = some (.par ds)
def OL (K : PySem.W.Frag) (C : Fc) (Hs H : Hp) (a : Addr) (ds : List PyData) : Prop := ∃ vs, H a = some (.lst vs) ∧ Hs a = none ∧ DqAll K Hs vs ds ∧ (C.O a ∨ C.H0 a = none)
/-- a def of the program -/
def FnV (K : PySem.W.Frag) (x : Str) (v : V) : Prop := ∃ f : Addr, v = .ref f ∧ PySem.W.nsIn K mainGlobals x = some (some (.ref f))
def SlotOk (K : PySem.W.Frag) (C : Fc) (Hs H : Hp) (σ : St) (i : Nat) : Slot → Prop
  | .no => True
  | .dat d => ∃ v, σ[i]? = some (some v) ∧ Dq K Hs v d
  | .own ds => ∃ a, σ[i]? = some (some (.ref a)) ∧ OL K C Hs H a ds
  | .par ds => ∃ a, σ[i]? = some (some (.ref a)) ∧ C.vs[i]? = some (.ref a) ∧ OL K C Hs H a ds
  | .fn x => ∃ v, σ[i]? = some (some v) ∧ FnV K x v
structure Rel (K : PySem.W.Frag) (C : Fc) (Hs H : Hp) (σ : St) (ρ : DEnv) : Prop where
  sub : Same Hs H
  len : σ.length = ρ.length
  slot : ∀ i r, ρ[i]? = some r → SlotOk K C Hs H σ i r
  dis : ∀ i j a, OwnAt σ ρ i a → OwnAt σ ρ j a → i = j
  fr : ∀ c o, C.H0 c = some o → ¬ C.O c → H c = some o
  dom : ∀ c, H c = none → C.H0 c = none
  gr : ∀ a, C.H0 a ≠ none → C.Hs0 a = none → ¬ C.O a → Hs a = none
theorem same_new {H : Hp} {p : Addr} (h : H p = none) (o : HO) : Same H (upd H p o) := fun b u q => by rw [upd_ne (ne_of_none q h)]; exact q
section
variable {K : PySem.W.Frag} {C : Fc} {Hs H : Hp} {σ : St} {ρ : DEnv}
theorem OL.ne {a p : Addr} {ds : List PyData} (x : OL K C Hs H a ds) (h : H p = none) : a ≠ p := let ⟨_, e, _⟩ := x; ne_of_none e h
theorem Rel.own (R : Rel K C Hs H σ ρ) {i : Nat} {a : Addr} (h : OwnAt σ ρ i a) : ∃ ds, OL K C Hs H a ds ∧ (ρ[i]? = some (.own ds) ∨ ρ[i]? = some (.par ds)) := by
  obtain ⟨e, ds, h | h⟩ := h
  · obtain ⟨b, e', x⟩ := R.slot i _ h
    rw [e] at e'
    cases e'
    exact ⟨ds, x, .inl h⟩
  · obtain ⟨b, e', _, x⟩ := R.slot i _ h
    rw [e] at e'
    cases e'
    exact ⟨ds, x, .inr h⟩
/-- a new object that is data from now on -/
theorem Rel.laid (R : Rel K C Hs H σ ρ) {p : Addr} (h : H p = none) (o : HO) : Rel K C (upd Hs p o) (upd H p o) σ ρ ∧ Same Hs (upd Hs p o) := by
  have hs : Hs p = none := R.sub.free h
  have S : Same Hs (upd Hs p o) := same_new hs o
  have ol : ∀ {a : Addr} {ds : List PyData}, OL K C Hs H a ds → OL K C (upd Hs p o) (upd H p o) a ds := fun {a ds} x => by
    have ne := x.ne h
    obtain ⟨vs, e1, e2, e3, e4⟩ := x
    exact ⟨vs, by rw [upd_ne ne]; exact e1, by rw [upd_ne ne]; exact e2, dpa_same S e3, e4⟩
  refine ⟨⟨fun b u q => ?_, R.len, fun i r e => ?_, R.dis, fun c u e n => ?_, fun c e => ?_, fun a e1 e2 e3 => ?_⟩, S⟩
  · by_cases hb : b = p
    · subst hb; rw [upd_same] at q ⊢; exact q
    · rw [upd_ne hb] at q ⊢; exact R.sub _ _ q
  · have x := R.slot i r e
    cases r with
    | no => exact x
    | dat d => obtain ⟨v, e1, e2⟩ := x; exact ⟨v, e1, dp_same S e2⟩
    | own ds => obtain ⟨a, e1, e2⟩ := x; exact ⟨a, e1, ol e2⟩
    | par ds => obtain ⟨a, e1, e2, e3⟩ := x; exact ⟨a, e1, e2, ol e3⟩
    | fn _ => exact x
  · have := R.fr c u e n
    rw [upd_ne (ne_of_none this h)]
    exact this
  · by_cases hb : c = p
    · subst hb; exact R.dom _ h
    · rw [upd_ne hb] at e; exact R.dom _ e
  · by_cases hb : a = p
    · subst hb; exact absurd (R.dom _ h) e1
    · rw [upd_ne hb]; exact R.gr a e1 e2 e3
/-- a new object, not yet data -/
theorem Rel.laid0 (R : Rel K C Hs H σ ρ) {p : Addr} (h : H p = none) (o : HO) : Rel K C Hs (upd H p o) σ ρ := by
  have ol : ∀ {a : Addr} {ds : List PyData}, OL K C Hs H a ds → OL K C Hs (upd H p o) a ds := fun {a ds} x => by
    have ne := x.ne h
    obtain ⟨vs, e1, e2, e3, e4⟩ := x
    exact ⟨vs, by rw [upd_ne ne]; exact e1, e2, e3, e4⟩
  refine ⟨fun b u q => ?_, R.len, fun i r e => ?_, R.dis, fun c u e n => ?_, fun c e => ?_, R.gr⟩
  · have := R.sub _ _ q
    rw [upd_ne (ne_of_none this h)]; exact this
  · have x := R.slot i r e
    cases r with
    | no => exact x
    | dat d => exact x
    | own ds => obtain ⟨a, e1, e2⟩ := x; exact ⟨a, e1, ol e2⟩
    | par ds => obtain ⟨a, e1, e2, e3⟩ := x; exact ⟨a, e1, e2, ol e3⟩
    | fn _ => exact x
  · have := R.fr c u e n
    rw [upd_ne (ne_of_none this h)]
    exact this
  · by_cases hb : c = p
    · subst hb; exact R.dom _ h
    · rw [upd_ne hb] at e; exact R.dom _ e
/-- a list that is no slot's becomes data -/
theorem Rel.data (R : Rel K C Hs H σ ρ) {p : Addr} {o : HO} (h : H p = some o) (hs : Hs p = none) (hc : C.O p ∨ C.H0 p = none) (hn : ∀ i, ¬ OwnAt σ ρ i p) : Rel K C (upd Hs p o) H σ ρ ∧ Same Hs (upd Hs p o) := by
  have S : Same Hs (upd Hs p o) := same_new hs o
  have ol : ∀ {a : Addr} {ds : List PyData}, a ≠ p → OL K C Hs H a ds → OL K C (upd Hs p o) H a ds := fun {a ds} ne x => by
    obtain ⟨vs, e1, e2, e3, e4⟩ := x
    exact ⟨vs, e1, by rw [upd_ne ne]; exact e2, dpa_same S e3, e4⟩
  refine ⟨⟨fun b u q => ?_, R.len, fun i r e => ?_, R.dis, R.fr, R.dom, fun a e1 e2 e3 => ?_⟩, S⟩
  · by_cases hb : b = p
    · subst hb; rw [upd_same] at q; rw [h]; exact q
    · rw [upd_ne hb] at q; exact R.sub _ _ q
  · have x := R.slot i r e
    cases r with
    | no => exact x
    | dat d => obtain ⟨v, e1, e2⟩ := x; exact ⟨v, e1, dp_same S e2⟩
    | own ds => obtain ⟨a, e1, e2⟩ := x; exact ⟨a, e1, ol (fun z => hn i ⟨z ▸ e1, ds, .inl e⟩) e2⟩
    | par ds => obtain ⟨a, e1, e2, e3⟩ := x; exact ⟨a, e1, e2, ol (fun z => hn i ⟨z ▸ e1, ds, .inr e⟩) e3⟩
    | fn _ => exact x
  · by_cases hb : a = p
    · subst hb
      rcases hc with hc | hc
      · exact absurd hc e3
      · exact absurd hc e1
    · rw [upd_ne hb]; exact R.gr a e1 e2 e3
/-- the frame narrowed to what stands now -/
def Fc.now (C : Fc) (Hs H : Hp) (σ : St) (ρ : DEnv) : Fc := ⟨H, Hs, fun a => ∃ i, OwnAt σ ρ i a, C.vs⟩
theorem Rel.now (R : Rel K C Hs H σ ρ) : Rel K (C.now Hs H σ ρ) Hs H σ ρ := by
  refine ⟨R.sub, R.len, fun i r e => ?_, R.dis, fun c o e _ => e, fun c e => e, fun a _ e _ => e⟩
  have x := R.slot i r e
  cases r with
  | no => exact x
  | dat d => exact x
  | own ds => obtain ⟨a, e1, vs, e2, e3, e4, _⟩ := x; exact ⟨a, e1, vs, e2, e3, e4, .inl ⟨i, e1, ds, .inl e⟩⟩
  | par ds => obtain ⟨a, e1, e', vs, e2, e3, e4, _⟩ := x; exact ⟨a, e1, e', vs, e2, e3, e4, .inl ⟨i, e1, ds, .inr e⟩⟩
  | fn _ => exact x
theorem Rel.owned (R : Rel K C Hs H σ ρ) {i : Nat} {a : Addr} (h : OwnAt σ ρ i a) : C.O a ∨ C.H0 a = none := let ⟨_, ⟨_, _, _, _, h⟩, _⟩ := R.own h; h
theorem Rel.back {Hs' H' : Hp} {σ' : St} {ρ' : DEnv} (R : Rel K C Hs H σ ρ) (R' : Rel K (C.now Hs H σ ρ) Hs' H' σ' ρ') : Rel K C Hs' H' σ' ρ' := by
  have oc : ∀ {a : Addr}, (C.now Hs H σ ρ).O a ∨ (C.now Hs H σ ρ).H0 a = none → C.O a ∨ C.H0 a = none := fun {a} h => by
    rcases h with ⟨i, h⟩ | h
    · exact R.owned h
    · exact .inr (R.dom a h)
  refine ⟨R'.sub, R'.len, fun i r e => ?_, R'.dis, fun c o e n => ?_, fun c e => R.dom c (R'.dom c e), fun a e1 e2 e3 => ?_⟩
  · have x := R'.slot i r e
    cases r with
    | no => exact x
    | dat d => exact x
    | own ds => obtain ⟨a, e1, vs, e2, e3, e4, e5⟩ := x; exact ⟨a, e1, vs, e2, e3, e4, oc e5⟩
    | par ds => obtain ⟨a, e1, e', vs, e2, e3, e4, e5⟩ := x; exact ⟨a, e1, e', vs, e2, e3, e4, oc e5⟩
    | fn _ => exact x
  · refine R'.fr c o (R.fr c o e n) fun ⟨i, h⟩ => ?_
    rcases R.owned h with h | h
    · exact n h
    · rw [h] at e; cases e
  · refine R'.gr a (fun h => e1 (R.dom a h)) (R.gr a e1 e2 e3) fun ⟨i, h⟩ => ?_
    rcases R.owned h with h | h
    · exact e3 h
    · exact e1 h
/-! ### values told -/
def RVal (K : PySem.W.Frag) (C : Fc) (Hs H : Hp) (σ : St) (ρ : DEnv) : Rv → V → Prop
  | .dat d, v => Dq K Hs v d
  | .bor i, v => σ[i]? = some (some v)
  | .new ds, v => ∃ a, v = .ref a ∧ OL K C Hs H a ds ∧ ∀ i, ¬ OwnAt σ ρ i a
def rd (ρ : DEnv) : Rv → Option PyData
  | .dat d => some d
  | .bor i => match ρ[i]? with
    | some (.own ds) => some (.list ds)
    | some (.par ds) => some (.list ds)
    | _ => none
  | .new ds => some (.list ds)
def frz : Rv → Rv
  | .new ds => .dat (.list ds)
  | x => x
inductive Rdb (K : PySem.W.Frag) (Hs H : Hp) : V → PyData → Prop
  | st {v : V} {d : PyData} : Dq K Hs v d → Rdb K Hs H v d
  | ow {a : Addr} {vs : List V} {ds : List PyData} : H a = some (.lst vs) → DqAll K Hs vs ds → Rdb K Hs H (.ref a) (.list ds)
theorem RVal.rd (R : Rel K C Hs H σ ρ) {x : Rv} {v : V} {d : PyData} (h : RVal K C Hs H σ ρ x v) (e : rd ρ x = some d) : Rdb K Hs H v d := by
  cases x with
  | dat d' => cases e; exact .st h
  | bor i =>
    have e : (match ρ[i]? with
      | some (Slot.own ds) => some (PyData.list ds)
      | some (Slot.par ds) => some (PyData.list ds)
      | _ => none) = some d := e
    split at e
    · rename_i ds q
      cases e
      obtain ⟨a, e1, vs, e2, _, e3, _⟩ := R.slot i _ q
      have h' : σ[i]? = some (some v) := h
      rw [h'] at e1
      cases e1
      exact .ow e2 e3
    · rename_i ds q
      cases e
      obtain ⟨a, e1, _, vs, e2, _, e3, _⟩ := R.slot i _ q
      have h' : σ[i]? = some (some v) := h
      rw [h'] at e1
      cases e1
      exact .ow e2 e3
    · cases e
  | new ds =>
    cases e
    obtain ⟨a, rfl, ⟨vs, e1, _, e2, _⟩, _⟩ := h
    exact .ow e1 e2
theorem RVal.frz (R : Rel K C Hs H σ ρ) {x : Rv} {v : V} (h : RVal K C Hs H σ ρ x v) : ∃ Hs', Rel K C Hs' H σ ρ ∧ Same Hs Hs' ∧ RVal K C Hs' H σ ρ (frz x) v := by
  cases x with
  | dat d => exact ⟨Hs, R, Same.refl _, h⟩
  | bor i => exact ⟨Hs, R, Same.refl _, h⟩
  | new ds =>
    obtain ⟨a, rfl, ⟨vs, e1, e2, e3, e4⟩, n⟩ := h
    obtain ⟨R', S⟩ := R.data e1 e2 e4 n
    exact ⟨_, R', S, .lst (.inl upd_same) (dpa_same S e3)⟩
/-- a value that waits -/
theorem RVal.wait {Hs' H' : Hp} {ρ' : DEnv} {x : Rv} {v : V} (S : Same Hs Hs') (h : RVal K C Hs H σ ρ (DL.frz x) v) : RVal K C Hs' H' σ ρ' (DL.frz x) v := by
  cases x with
  | dat d => exact dp_same S h
  | bor i => exact h
  | new ds => exact dp_same S h
theorem Rdb.dp (S : Same Hs H) {v : V} {d : PyData} (h : Rdb K Hs H v d) : Dq K H v d := by
  cases h with
  | st h => exact dp_same S h
  | ow h a => exact .lst (.inl h) (dpa_same S a)
theorem Rdb.list (S : Same Hs H) {v : V} {ds : List PyData} (h : Rdb K Hs H v (.list ds)) : ∃ a vs, v = .ref a ∧ Rd H a (.lst vs) ∧ DqAll K Hs vs ds := by
  cases h with
  | st h => cases h with | lst q a => exact ⟨_, _, rfl, rd_same S q, a⟩
  | ow h a => exact ⟨_, _, rfl, .inl h, a⟩
theorem Rdb.tuple (S : Same Hs H) {v : V} {ds : List PyData} (h : Rdb K Hs H v (.tuple ds)) : ∃ a vs, v = .ref a ∧ SqT K H a vs ∧ DqAll K Hs vs ds := by
  cases h with
  | st h => cases h with | tup q a => exact ⟨_, _, rfl, seqT S q, a⟩
theorem Rdb.int {v : V} {i : Int} (h : Rdb K Hs H v (.int i)) : v = .int i := by cases h with | st h => cases h; rfl
theorem Rdb.str {v : V} {z : Str} (h : Rdb K Hs H v (.str z)) : v = .str z := by cases h with | st h => cases h; rfl
theorem Rdb.bool {v : V} {b : Bool} (h : Rdb K Hs H v (.bool b)) : v = .bl b := by cases h with | st h => cases h; rfl
theorem Rdb.none {v : V} (h : Rdb K Hs H v .none) : v = .non := by cases h with | st h => cases h; rfl
theorem Rdb.dict {v : V} {ds : List (PyData × PyData)} (h : Rdb K Hs H v (.dict ds)) (hp : plD ds = true) : ∃ a od kvs, v = .ref a ∧ Hs a = some (.frz od (.dK kvs)) ∧ DqKv K Hs kvs ds := by
  cases h with
  | st h => cases h with
    | dct h a => exact ⟨_, _, _, rfl, h, a⟩
    | exc _ _ _ _ _ => cases hp
theorem Rdb.exc {v : V} {c : Str} {ds : List (PyData × PyData)} (h : Rdb K Hs H v (.dict ((.none, .str c) :: ds))) : ∃ a dx C fs, v = .ref a ∧ XCls K c C ∧ (∀ p ∈ fs, NoAttr K C p.1) ∧ Hs a = some (XC.ExO C dx a) ∧ Hs dx = some (.xd fs) ∧ DqFs K Hs fs ds := by
  cases h with
  | st h => cases h with
    | dct h a => cases a
    | exc c n h hd a => exact ⟨_, _, _, _, rfl, c, n, h, hd, a⟩
end
/-! ### readings over data -/
abbrev DE := DEnv → (Rv → DEnv → Prop) → Prop
abbrev DT := DEnv → (Bool → DEnv → Prop) → Prop
abbrev DA := DEnv → (List Rv → DEnv → Prop) → Prop
structure DEnds where
  nx : DEnv → Prop
  rt : Rv → DEnv → Prop
  bk : DEnv → Prop := fun _ => False
  ct : DEnv → Prop := fun _ => False
abbrev DS := DEnds → DEnv → Prop
def up (K : PySem.W.Frag) (F : DE) : TE := fun σ H Q => ∃ C Hs ρ QD, Rel K C Hs H σ ρ ∧ F ρ QD ∧ ∀ x ρ' v Hs' H', Rel K C Hs' H' σ ρ' → Same Hs Hs' → RVal K C Hs' H' σ ρ' x v → QD x ρ' → Q v H'
def upT (K : PySem.W.Frag) (F : DT) : TT := fun σ H Q => ∃ C Hs ρ QD, Rel K C Hs H σ ρ ∧ F ρ QD ∧ ∀ b ρ' Hs' H', Rel K C Hs' H' σ ρ' → Same Hs Hs' → QD b ρ' → Q b H'
inductive RVals (K : PySem.W.Frag) (C : Fc) (Hs H : Hp) (σ : St) (ρ : DEnv) : List Rv → List V → Prop
  | nil : RVals K C Hs H σ ρ [] []
  | cons {x : Rv} {v : V} {xs : List Rv} {vs : List V} : RVal K C Hs H σ ρ (frz x) v → RVals K C Hs H σ ρ xs vs → RVals K C Hs H σ ρ (frz x :: xs) (v :: vs)
def upA (K : PySem.W.Frag) (F : DA) : TA := fun σ H Q => ∃ C Hs ρ QD, Rel K C Hs H σ ρ ∧ F ρ QD ∧ ∀ xs ρ' vs Hs' H', Rel K C Hs' H' σ ρ' → Same Hs Hs' → RVals K C Hs' H' σ ρ' xs vs → QD xs ρ' → Q vs H'
def upS (K : PySem.W.Frag) (F : DS) : TS := fun D σ H => ∃ C Hs ρ DD, Rel K C Hs H σ ρ ∧ F DD ρ ∧ (∀ σ' ρ' Hs' H', Rel K C Hs' H' σ' ρ' → Same Hs Hs' → DD.nx ρ' → D.nx σ' H') ∧ (∀ σ' ρ' Hs' H', Rel K C Hs' H' σ' ρ' → Same Hs Hs' → DD.bk ρ' → D.bk σ' H') ∧
  (∀ σ' ρ' Hs' H', Rel K C Hs' H' σ' ρ' → Same Hs Hs' → DD.ct ρ' → D.ct σ' H') ∧ ∀ x v σ' ρ' Hs' H', Rel K C Hs' H' σ' ρ' → Same Hs Hs' → RVal K C Hs' H' σ' ρ' x v → DD.rt x ρ' → D.rt v H'
@[irreducible] def QE (K : PySem.W.Frag) (X : Cx) (e : Expr) (F : DE) : Prop := PE X e (up K F)
@[irreducible] def QT (K : PySem.W.Frag) (X : Cx) (e : Expr) (F : DT) : Prop := PT X e (upT K F)
@[irreducible] def QW (K : PySem.W.Frag) (X : Cx) (e : Expr) (F : DT) : Prop := PW X e (upT K F)
@[irreducible] def QA (K : PySem.W.Frag) (X : Cx) (es : List Expr) (F : DA) : Prop := PA X es (upA K F)
@[irreducible] def QS (K : PySem.W.Frag) (X : Cx) (st : Stmt) (F : DS) : Prop := PS X st (upS K F)
@[irreducible] def QSs (K : PySem.W.Frag) (X : Cx) (sts : List Stmt) (F : DS) : Prop := PSs X sts (upS K F)
section
variable {X : Cx} {K : PySem.W.Frag} {e : Expr} {es : List Expr} {st : Stmt} {sts : List Stmt}
theorem PE.imp {t t' : TE} (h : PE X e t) (hi : ∀ σ H Q, t' σ H Q → t σ H Q) : PE X e t' := fun pins s σ H Q I q => h pins s σ H Q I (hi _ _ _ q)
theorem PT.imp {t t' : TT} (h : PT X e t) (hi : ∀ σ H Q, t' σ H Q → t σ H Q) : PT X e t' := fun pins s σ H Q I q => h pins s σ H Q I (hi _ _ _ q)
theorem PW.imp {t t' : TT} (h : PW X e t) (hi : ∀ σ H Q, t' σ H Q → t σ H Q) : PW X e t' := fun whole pins s σ H Q I q => h whole pins s σ H Q I (hi _ _ _ q)
theorem PA.imp {t t' : TA} (h : PA X es t) (hi : ∀ σ H Q, t' σ H Q → t σ H Q) : PA X es t' := fun pos pins s σ H Q I q => h pos pins s σ H Q I (hi _ _ _ q)
theorem PS.imp {t t' : TS} (h : PS X st t) (hi : ∀ D σ H, t' D σ H → t D σ H) : PS X st t' := fun pins s σ H D I q => h pins s σ H D I (hi _ _ _ q)
theorem PSs.imp {t t' : TS} (h : PSs X sts t) (hi : ∀ D σ H, t' D σ H → t D σ H) : PSs X sts t' := fun pins s σ H D I q => h pins s σ H D I (hi _ _ _ q)
/-! names, constants -/
def wi (o : Option PyData) (k : PyData → Prop) : Prop := match o with
  | some d => k d
  | none => False
theorem wi_some {o : Option PyData} {k : PyData → Prop} (h : wi o k) : ∃ d, o = some d ∧ k d := by
  cases o with
  | none => exact h.elim
  | some d => exact ⟨d, rfl, h⟩
def dVar (i : Nat) : DE := fun ρ Q => match ρ[i]? with
  | some (.dat d) => Q (.dat d) ρ
  | some (.own _) => Q (.bor i) ρ
  | some (.par _) => Q (.bor i) ρ
  | _ => False
theorem qv (i : Nat) {x : Str} {pos : Pos} (hN : X.N[i]? = some x := by rfl) (hv : Vis X.env.scope x := by first | exact Or.inl rfl | exact Or.inr (Or.inl rfl) | exact Or.inr (Or.inr rfl)) (hd : (x == ("__debug__" : Str)) = false := by decide)
    (hcd : (x == ("__classdict__" : Str)) = false := by decide) : QE K X (.Name x pos) (dVar i) := by
  with_unfolding_all
    refine PE.imp (pe_var hN hv hd hcd) fun σ H Q ⟨C, Hs, ρ, QD, R, q, k⟩ => ?_
    unfold dVar at q
    split at q
    · rename_i d e
      obtain ⟨v, e1, e2⟩ := R.slot i _ e
      exact ⟨v, e1, k (.dat d) _ _ _ _ R (Same.refl _) e2 q⟩
    · rename_i ds e
      obtain ⟨a, e1, _⟩ := R.slot i _ e
      exact ⟨_, e1, k (.bor i) _ _ _ _ R (Same.refl _) e1 q⟩
    · rename_i ds e
      obtain ⟨a, e1, _⟩ := R.slot i _ e
      exact ⟨_, e1, k (.bor i) _ _ _ _ R (Same.refl _) e1 q⟩
    · exact q.elim
def dC (d : PyData) : DE := fun ρ Q => Q (.dat d) ρ
theorem qc {v : V} {d : PyData} (h : PE X e (tC v)) (hd : ∀ H, Dq K H v d) : QE K X e (dC d) := by
  with_unfolding_all
    exact
      PE.imp h fun σ H Q ⟨C, Hs, ρ, QD, R, q, k⟩ => k (.dat d) _ _ _ _ R (Same.refl _) (hd _) q
theorem q_int {i : Int} {j pos} : QE K X (.Constant (.int i) j pos) (dC (.int i)) := by
  with_unfolding_all
    exact
      qc pe_int fun _ => .int i
theorem q_bl {b : Bool} {j pos} : QE K X (.Constant (.bool b) j pos) (dC (.bool b)) := by
  with_unfolding_all
    exact
      qc pe_bl fun _ => .bl b
theorem q_non {j pos} : QE K X (.Constant .none j pos) (dC .none) := by
  with_unfolding_all
    exact
      qc pe_non fun _ => .non
theorem q_str {x : Str} {j pos} : QE K X (.Constant (.str x) j pos) (dC (.str x)) := by
  with_unfolding_all
    exact
      qc pe_str fun _ => .str x
/-! operators -/
abbrev D2 := PyData → PyData → (Rv → Prop) → Prop
def dOp (f : D2) (a b : DE) : DE := fun ρ Q => a ρ fun x ρ1 => b ρ1 fun y ρ2 => wi (rd ρ2 (frz x)) fun dx => wi (rd ρ2 y) fun dy => f dx dy fun r => Q r ρ2
def OpD (K : PySem.W.Frag) (r : R2) (f : D2) : Prop := ∀ (C : Fc) (Hs H : Hp) (σ : St) (ρ : DEnv) (v u : V) (dx dy : PyData) (Qd : Rv → Prop) (Q : VK), Rel K C Hs H σ ρ → Rdb K Hs H v dx → Rdb K Hs H u dy → f dx dy Qd →
  (∀ z w Hs' H', Rel K C Hs' H' σ ρ → Same Hs Hs' → RVal K C Hs' H' σ ρ z w → Qd z → Q w H') → r v u H Q
theorem two {r : R2} {f : D2} {a b : DE} (hd : OpD K r f) (σ : St) (H : Hp) (Q : VK) (h : up K (dOp f a b) σ H Q) : tOp r (up K a) (up K b) σ H Q := by
  obtain ⟨C, Hs, ρ, QD, R, q, k⟩ := h
  refine ⟨C, Hs, ρ, _, R, q, fun x ρ1 v Hs1 H1 R1 S1 V1 q1 => ?_⟩
  obtain ⟨Hs1', R1', S1', V1'⟩ := V1.frz R1
  refine ⟨C, Hs1', ρ1, _, R1', q1, fun y ρ2 u Hs2 H2 R2 S2 V2 q2 => ?_⟩
  obtain ⟨dx, ex, q2⟩ := wi_some q2
  obtain ⟨dy, ey, q2⟩ := wi_some q2
  have V1'' : RVal K C Hs2 H2 σ ρ2 (DL.frz x) v := V1'.wait S2
  exact hd C Hs2 H2 σ ρ2 v u dx dy _ Q R2 (V1''.rd R2 ex) (V2.rd R2 ey) q2 fun z w Hs3 H3 R3 S3 V3 q3 => k z ρ2 w Hs3 H3 R3 ((S1.trans S1').trans (S2.trans S3)) V3 q3
variable {a b c : Expr} {fa fb fc : DE} {pos : Pos}
theorem q_op {op : Operator} {r : R2} {f : D2} (ho : OpR X (binaryOp op) r) (hd : OpD K r f) (ha : QE K X a fa) (hb : QE K X b fb) : QE K X (.BinOp a op b pos) (dOp f fa fb) := by
  with_unfolding_all
    exact
      PE.imp (pe_op ho ha hb) (two hd)
theorem q_cmp {op : CmpOp} {r : R2} {f : D2} (ho : OpR X (compareOp op) r) (hd : OpD K r f) (ha : QE K X a fa) (hb : QE K X b fb) (hm : behindInMarks op b = false) : QE K X (.Compare a [op] [b] pos) (dOp f fa fb) := by
  with_unfolding_all
    exact
      PE.imp (pe_cmpR ho ha hb hm) (two hd)
theorem q_ix {r : R2} {f : D2} (ho : IxR X r) (hd : OpD K r f) (ha : QE K X a fa) (hb : QE K X b fb) (hs : PlainIx b) : QE K X (.Subscript a b pos) (dOp f fa fb) := by
  with_unfolding_all
    exact
      PE.imp (pe_ix ho ha hb hs) (two hd)
end
end DL
namespace L2
open PySem PySem.Spec PyProof.Rows
section
variable {X : Cx}
theorem Inv.rd {pins : List (Addr × Obj)} {σ : St} {H : Hp} {s : Shared} {l : Addr} {xs : List V} (I : Inv X pins σ H s) (h : Rd H l (.lst xs)) :
    xs.length ≤ sizeLine ∧ ∃ (its : List Value) (n : Nat), Vals xs its ∧ xs.length = its.length ∧ s.heap.get? l = some { cls := .type "list", data := .seq its.toArray n } := by
  obtain ⟨z, its, n, r, e⟩ := h.ok I.hok
  exact ⟨z, its, n, r, r.length, e⟩
/-- two lists that are read, one behind the other -/
def rCat2 : R2 := fun x y H Q => ∃ l b xs zs, x = .ref l ∧ y = .ref b ∧ Rd H l (.lst xs) ∧ Rd H b (.lst zs) ∧ xs.length + zs.length ≤ sizeLine ∧ ∀ p, H p = none → Q (.ref p) (upd H p (.lst (xs ++ zs)))
theorem op_cat2 : OpR X (binaryOp .Add) rCat2 := by
  intro pins s σ H x y v u Q I rx ry h
  obtain ⟨l, b, xs, zs, rfl, rfl, hH, hB, hz, q⟩ := h
  cases rx
  cases ry
  obtain ⟨z, its, n, r, hl, e⟩ := I.rd hH
  obtain ⟨z2, its2, n2, r2, hl2, e2⟩ := I.rd hB
  refine PySem.P.add_list e e2 ?_ (by rw [List.size_toArray, List.size_toArray]; omega)
  have ea : its.toArray ++ its2.toArray = (its ++ its2).toArray := by simp
  rw [ea]
  exact ⟨.ref _, _, I.lnew (t' := s.toks) (r.append r2) (by rw [List.length_append]; omega), rfl, q _ I.fresh⟩
def rRep2 : R2 := fun x y H Q => ∃ l k xs, x = .ref l ∧ y = .int k ∧ Rd H l (.lst xs) ∧ -(2 ^ 63) ≤ k ∧ k < 2 ^ 63 ∧ xs.length * k.toNat ≤ sizeLine ∧
  ∀ p, H p = none → Q (.ref p) (upd H p (.lst (List.replicate k.toNat xs).flatten))
theorem op_rep2 : OpR X (binaryOp .Mult) rRep2 := by
  intro pins s σ H x y v u Q I rx ry h
  obtain ⟨l, k, xs, rfl, rfl, hH, h1, h2, hz, q⟩ := h
  cases rx
  obtain ⟨t, rfl⟩ := ry
  obtain ⟨z, its, n, r, hl, e⟩ := I.rd hH
  have hlen : its.toArray.size * k.toNat ≤ sizeLine := by rw [List.size_toArray, ← hl]; exact hz
  have hcap : ¬ its.toArray.size * k.toNat > (2 ^ 63 - 1) / 8 := by
    have : (sizeLine : Nat) ≤ (2 ^ 63 - 1) / 8 := by decide
    omega
  have hfit : ¬ (!Builtin.List.listFitsIndex k) = true := by
    rw [fitsIndex_both h1 h2]
    exact Bool.false_ne_true
  have hlong : ¬ Builtin.List.listTooLong (its.toArray.size * k.toNat) = true := by
    rw [notLongL hlen]
    exact Bool.false_ne_true
  have hnew : List.foldl (fun x1 x2 => x1 ++ x2) #[] (List.replicate (if its.toArray.isEmpty = true then 0 else k.toNat) its.toArray) = (List.replicate k.toNat its).flatten.toArray := by
    have f0 : ∀ m : Nat, List.foldl (fun x1 x2 => x1 ++ x2) #[] (List.replicate m its.toArray) = (List.replicate m its).flatten.toArray := fun m => by
      have := foldl_rep its m []
      rw [List.nil_append] at this
      exact this
    rw [f0]
    cases its with
    | nil => simp
    | cons a r' => rw [if_neg (by simp)]
  refine wpAny_binaryOp_repeat_ref (T := "list") (U := "int") (by decide) ⟨_, e, rfl⟩ (fun s' => typeIs_int s' k t) noFill_list_mul F.fills_int_mul F.slot_int_rmul repeat_list F.slot_int_index.lookup
    (call_meets F.slot_int_rmul (typeIs_int s k t) F.entry_int_rmul (F.args_int_rmul_2 _ _) (int___rmul___int_list k t l its.toArray n)
      ⟨e, rfl, ⟨_, e, rfl⟩, call_meets F.slot_list_mul ⟨_, e, rfl⟩ F.entry_list_mul (F.args_list_mul_2 _ _) (AutoListH.list___mul___list_int_3 l its.toArray n k t hfit hcap hlong) ⟨e, ?_⟩⟩)
  rw [hnew]
  exact ⟨.ref _, _, I.lnew (t' := s.toks) (r.rep k.toNat) (by rw [len_rep, Nat.mul_comm]; exact hz), rfl, q _ I.fresh⟩
/-- two tuples, one behind the other: an empty one gives the other itself -/
def rCatT2 (K : PySem.W.Frag) : R2 := fun x y H Q => ∃ a b xs ys, x = .ref a ∧ y = .ref b ∧ SqT K H a xs ∧ SqT K H b ys ∧ xs.length + ys.length ≤ sizeLine ∧
  (xs = [] → Q (.ref b) H) ∧ (ys = [] → Q (.ref a) H) ∧ ∀ p, H p = none → Q (.ref p) (upd H p (.tup (xs ++ ys)))
theorem op_catT2 : OpR X (binaryOp .Add) (rCatT2 X.K) := by
  intro pins s σ H x y v u Q I rx ry h
  obtain ⟨a, b, xs, ys, rfl, rfl, ha, hb, hz, q0, q1, q2⟩ := h
  cases rx
  cases ry
  obtain ⟨its, r1, p1, _⟩ := I.tuple ha
  obtain ⟨its2, r2, p2, _⟩ := I.tuple hb
  by_cases hx : its = []
  · obtain ⟨⟨cls, dd, data, sl⟩, ho, hc, n, hd⟩ := id p1
    obtain ⟨⟨cls2, dd2, data2, sl2⟩, ho2, hc2, n2, hd2⟩ := id p2
    simp only at hc hd hc2 hd2
    subst hc hd hc2 hd2
    exact concat_meets ⟨_, ho, rfl⟩ ⟨_, ho2, rfl⟩ noFill_tuple_add seq_tuple_add PySem.F.slot_tuple_add PySem.F.entry_tuple_add (PySem.F.args_tuple_add_2 _ _)
      (tuple_addW0 a b its.toArray its2.toArray n n2 dd dd2 sl sl2 (by simp [hx])) ⟨ho, ho2, ⟨.ref b, H, I, rfl, q0 (r1.nil_iff.mp hx)⟩⟩
  · refine HT.cat_tup p1 p2 hx (fun z => ⟨.ref a, H, I, rfl, q1 (r2.nil_iff.mp z)⟩) (fun z => ?_) (by rw [← r1.length, ← r2.length]; exact hz)
    refine ⟨.ref s.heap.objs.size, _, I.laid (t' := s.toks) (o := .tup (xs ++ ys)) (fun b ob q => Heap.get?_push_of_some _ q) (Nat.le_refl _) ?_, rfl, q2 _ (I.hok.fresh (Nat.le_refl _))⟩
    exact ⟨by rw [List.length_append]; exact hz, _, r1.append r2, IsTup.new _ _⟩
def rAdd2 (K : PySem.W.Frag) : R2 := fun x y H Q => rAddI x y H Q ∨ rAddS x y H Q ∨ rCat2 x y H Q ∨ rCatT2 K x y H Q
theorem op_add2 : OpR X (binaryOp .Add) (rAdd2 X.K) := OpR.or op_add (OpR.or op_add_str (OpR.or op_cat2 op_catT2))
/-- a text many times over, told -/
def rMulS2 : R2 := fun x y H Q => ∃ (z : Str) (n : Int), x = .str z ∧ y = .int n ∧ 0 ≤ n ∧ n ≤ 1000 ∧ z.length ≤ 1000 ∧ Q (.str ⟨(List.replicate n.toNat z.cps.toList).flatten.toArray⟩) H
theorem fold_rep (a : Array Nat) : ∀ n : Nat, ∀ b : Array Nat, (List.replicate n a).foldl (· ++ ·) b = b ++ (List.replicate n a.toList).flatten.toArray
  | 0, b => by simp
  | n + 1, b => by
    rw [List.replicate_succ, List.foldl_cons, fold_rep a n (b ++ a), List.replicate_succ, List.flatten_cons]
    apply Array.toList_inj.mp
    simp
theorem op_mul_str2 : OpR X (binaryOp .Mult) rMulS2 := by
  intro pins s σ H x y v u Q I rx ry h
  obtain ⟨z, n, rfl, rfl, h0, h1, hz, q⟩ := h
  obtain ⟨t, rfl⟩ := rx
  obtain ⟨k, rfl⟩ := ry
  have lz : z.length * n.toNat ≤ 1000000 := Nat.mul_le_mul hz (by omega : n.toNat ≤ 1000)
  refine PySem.P.mul_str (by rw [decide_eq_false (by omega), decide_eq_false (by omega)]; rfl) (fun _ _ => ?_) (fun _ _ => ?_) ?_
  · have e : (2 ^ 63 - 1 : Int) / n ≥ (2 ^ 63 - 1) / 1000 := by
      by_cases hn : n ≤ 0
      · omega
      · refine Int.le_ediv_of_mul_le (by omega) ?_
        have : (2 ^ 63 - 1 : Int) / 1000 * n ≤ (2 ^ 63 - 1 : Int) / 1000 * 1000 := Int.mul_le_mul_of_nonneg_left h1 (by decide)
        have : (2 ^ 63 - 1 : Int) / 1000 * 1000 ≤ 2 ^ 63 - 1 := by decide
        omega
    have : (2 ^ 63 - 1 : Int) / 1000 ≥ 1000 := by decide
    omega
  · unfold Builtin.Str.tooLong sizeLine
    exact decide_eq_false (by omega)
  · by_cases c : n < 1
    · rw [if_pos c]
      have e0 : n.toNat = 0 := by omega
      rw [e0] at q
      exact ⟨by decide, ⟨.str Str.empty, H, I.tok _, ⟨_, rfl⟩, q⟩⟩
    · rw [if_neg c]
      by_cases d : (n == 1 || z.length == 0) = true
      · rw [if_pos d]
        refine ⟨.str z, H, I, ⟨_, rfl⟩, ?_⟩
        have e : (⟨(List.replicate n.toNat z.cps.toList).flatten.toArray⟩ : Str) = z := by
          rcases Bool.or_eq_true_iff.mp d with d | d
          · have : n = 1 := eq_of_beq d
            subst this
            show (⟨(List.replicate 1 z.cps.toList).flatten.toArray⟩ : Str) = z
            simp
          · have : z.cps = #[] := Array.size_eq_zero_iff.mp (eq_of_beq d)
            obtain ⟨cs⟩ := z
            simp only at this
            subst this
            simp
        rw [e] at q
        exact q
      · rw [if_neg d]
        have ee : (⟨(List.replicate n.toNat z.cps).foldl (· ++ ·) #[]⟩ : Str) = ⟨(List.replicate n.toNat z.cps.toList).flatten.toArray⟩ := by
          rw [fold_rep]; simp
        have e : (⟨(List.replicate n.toNat z.cps).foldl (· ++ ·) #[]⟩ : Str).length = z.length * n.toNat := by
          show ((List.replicate n.toNat z.cps).foldl (· ++ ·) #[]).size = z.cps.size * n.toNat
          rw [rep_size]
          simp
        refine ⟨?_, ⟨.str _, H, I.tok _, ⟨_, rfl⟩, ?_⟩⟩
        · rw [e]
          exact Nat.le_trans lz (by decide)
        · rw [ee]; exact q
def rMul2 : R2 := fun x y H Q => rI CMul (fun i j => .int (i * j)) x y H Q ∨ rRep2 x y H Q ∨ rMulS2 x y H Q
theorem op_mul2 : OpR X (binaryOp .Mult) rMul2 := OpR.or op_mul (OpR.or op_rep2 op_mul_str2)
def rNotIn2 (K : PySem.W.Frag) : R2 := fun x y H Q => (∃ (c : Nat) (z : Str), x = .str ⟨#[c]⟩ ∧ y = .str z ∧ Q (.bl (!decide (c ∈ z.cps.toList))) H) ∨ rIn K true x y H Q
end
end L2
namespace DL
open PySem L2 ZG
section
variable {K : PySem.W.Frag}
/-! ### what the operators tell of data -/
def oAdd : D2
  | .int i, .int j, Q => Q (.dat (.int (i + j)))
  | .str a, .str b, Q => a.length + b.length ≤ sizeLine ∧ Q (.dat (.str (a ++ b)))
  | .list a, .list b, Q => a.length + b.length ≤ sizeLine ∧ Q (.new (a ++ b))
  | .tuple a, .tuple b, Q => a.length + b.length ≤ sizeLine ∧ Q (.dat (.tuple (a ++ b)))
  | _, _, _ => False
theorem newL {C : Fc} {Hs H : Hp} {σ : St} {ρ : DEnv} {p : Addr} {vs : List V} {ds : List PyData} (R : Rel K C Hs H σ ρ) (h : H p = none) (a : DqAll K Hs vs ds) : Rel K C Hs (upd H p (.lst vs)) σ ρ ∧ RVal K C Hs (upd H p (.lst vs)) σ ρ (.new ds) (.ref p) := by
  refine ⟨R.laid0 h _, p, rfl, ⟨vs, upd_same, R.sub.free h, a, .inr (R.dom p h)⟩, fun i o => ?_⟩
  obtain ⟨_, x, _⟩ := R.own o
  exact x.ne h rfl
theorem newT {C : Fc} {Hs H : Hp} {σ : St} {ρ : DEnv} {p : Addr} {vs : List V} {ds : List PyData} (R : Rel K C Hs H σ ρ) (h : H p = none) (a : DqAll K Hs vs ds) : Rel K C (upd Hs p (.tup vs)) (upd H p (.tup vs)) σ ρ ∧ Same Hs (upd Hs p (.tup vs)) ∧ RVal K C (upd Hs p (.tup vs)) (upd H p (.tup vs)) σ ρ (.dat (.tuple ds)) (.ref p) := by
  obtain ⟨R', S⟩ := R.laid h (.tup vs)
  exact ⟨R', S, .tup (SqT.of upd_same) (dpa_same S a)⟩
theorem od_add : OpD K (rAdd2 K) oAdd := by
  intro C Hs H σ ρ v u dx dy Qd Q R hv hu h k
  unfold oAdd at h
  split at h
  · cases hv.int; cases hu.int
    exact .inl ⟨_, _, rfl, rfl, k (.dat (.int _)) _ _ _ R (Same.refl _) (.int _) h⟩
  · cases hv.str; cases hu.str
    exact .inr (.inl ⟨_, _, rfl, rfl, h.1, k (.dat (.str _)) _ _ _ R (Same.refl _) (.str _) h.2⟩)
  · obtain ⟨a, vs, rfl, ha, da⟩ := hv.list R.sub
    obtain ⟨b, us, rfl, hb, db⟩ := hu.list R.sub
    refine .inr (.inr (.inl ⟨a, b, vs, us, rfl, rfl, ha, hb, by rw [dpa_len da, dpa_len db]; exact h.1, fun p hp => ?_⟩))
    obtain ⟨R', V'⟩ := newL R hp (dpa_app da db)
    exact k _ _ _ _ R' (Same.refl _) V' h.2
  · obtain ⟨a, vs, rfl, ha, da⟩ := hv.tuple R.sub
    obtain ⟨b, us, rfl, hb, db⟩ := hu.tuple R.sub
    refine .inr (.inr (.inr ⟨a, b, vs, us, rfl, rfl, ha, hb, by rw [dpa_len da, dpa_len db]; exact h.1, fun e => ?_, fun e => ?_, fun p hp => ?_⟩))
    · subst e
      cases da
      refine k (.dat (.tuple _)) _ _ _ R (Same.refl _) ?_ h.2
      cases hu with | st hu => exact hu
    · subst e
      cases db
      have e2 := h.2
      rw [List.append_nil] at e2
      refine k (.dat (.tuple _)) _ _ _ R (Same.refl _) ?_ e2
      cases hv with | st hv => exact hv
    · obtain ⟨R', S, V'⟩ := newT R hp (dpa_app da db)
      exact k _ _ _ _ R' S V' h.2
  · exact h.elim
def oSub : D2
  | .int i, .int j, Q => Q (.dat (.int (i - j)))
  | _, _, _ => False
def oMul : D2
  | .int i, .int j, Q => CMul i j ∧ Q (.dat (.int (i * j)))
  | .list a, .int n, Q => (-(2 ^ 63) ≤ n ∧ n < 2 ^ 63 ∧ a.length * n.toNat ≤ sizeLine) ∧ Q (.new (List.replicate n.toNat a).flatten)
  | .str z, .int n, Q => (0 ≤ n ∧ n ≤ 1000 ∧ z.length ≤ 1000) ∧ Q (.dat (.str ⟨(List.replicate n.toNat z.cps.toList).flatten.toArray⟩))
  | _, _, _ => False
theorem dpa_rep {H : Hp} {vs : List V} {ds : List PyData} (a : DqAll K H vs ds) : ∀ n : Nat, DqAll K H (List.replicate n vs).flatten (List.replicate n ds).flatten
  | 0 => .nil
  | n + 1 => by rw [List.replicate_succ, List.replicate_succ, List.flatten_cons, List.flatten_cons]; exact dpa_app a (dpa_rep a n)
theorem od_mul : OpD K rMul2 oMul := by
  intro C Hs H σ ρ v u dx dy Qd Q R hv hu h k
  unfold oMul at h
  split at h
  · cases hv.int; cases hu.int
    exact .inl ⟨_, _, rfl, rfl, h.1, k (.dat (.int _)) _ _ _ R (Same.refl _) (.int _) h.2⟩
  · obtain ⟨a, vs, rfl, ha, da⟩ := hv.list R.sub
    cases hu.int
    obtain ⟨⟨h1, h2, h3⟩, h4⟩ := h
    refine .inr (.inl ⟨a, _, vs, rfl, rfl, ha, h1, h2, by rw [dpa_len da]; exact h3, fun p hp => ?_⟩)
    obtain ⟨R', V'⟩ := newL R hp (dpa_rep da _)
    exact k _ _ _ _ R' (Same.refl _) V' h4
  · cases hv.str; cases hu.int
    obtain ⟨⟨h1, h2, h3⟩, h4⟩ := h
    exact .inr (.inr ⟨_, _, rfl, rfl, h1, h2, h3, k (.dat (.str _)) _ _ _ R (Same.refl _) (.str _) h4⟩)
  · exact h.elim
def oI (P : Int → Int → Prop) (g : Int → Int → Int) : D2
  | .int i, .int j, Q => P i j ∧ Q (.dat (.int (g i j)))
  | _, _, _ => False
theorem od_I {P : Int → Int → Prop} {g : Int → Int → Int} : OpD K (rI P fun i j => .int (g i j)) (oI P g) := by
  intro C Hs H σ ρ v u dx dy Qd Q R hv hu h k
  unfold oI at h
  split at h
  · cases hv.int; cases hu.int
    exact ⟨_, _, rfl, rfl, h.1, k (.dat (.int _)) _ _ _ R (Same.refl _) (.int _) h.2⟩
  · exact h.elim
/-! comparisons -/
def sc : PyData → Bool
  | .none => true
  | .bool _ => true
  | .int _ => true
  | .str _ => true
  | _ => false
def scStr : PyData → PyData → Bool
  | .str _, y => sc y
  | x, .str _ => sc x
  | _, _ => false
def eqOk (x y : PyData) : Bool := scStr x y || (SeqAt.shaped x && SeqAt.shaped y)
def oEq : D2 := fun x y Q => eqOk x y = true ∧ Q (.dat (.bool (PyData.eqv x y)))
def oNe : D2 := fun x y Q => eqOk x y = true ∧ Q (.dat (.bool (!PyData.eqv x y)))
theorem eq_case {H Hs : Hp} {v u : V} {x y : PyData} (S : Same Hs H) (hv : Rdb K Hs H v x) (hu : Rdb K Hs H u y) (h : eqOk x y = true) : (scal v u = true ∧ decide (v = u) = PyData.eqv x y) ∨ (Dp K H v x ∧ Dp K H u y ∧ SeqAt.shaped x = true ∧ SeqAt.shaped y = true) := by
  unfold eqOk at h
  cases hs : scStr x y with
  | false =>
    rw [hs, Bool.false_or, Bool.and_eq_true] at h
    exact .inr ⟨(hv.dp S).dp (SeqAt.canLay_of_shaped h.1), (hu.dp S).dp (SeqAt.canLay_of_shaped h.2), h.1, h.2⟩
  | true =>
    refine .inl ?_
    cases x with
    | str a =>
      cases hv.str
      cases y with
      | str b => cases hu.str; exact ⟨rfl, dec_str⟩
      | none => cases hu.none; exact ⟨rfl, decide_eq_false (by intro h; cases h)⟩
      | bool b => cases hu.bool; exact ⟨rfl, decide_eq_false (by intro h; cases h)⟩
      | int b => cases hu.int; exact ⟨rfl, decide_eq_false (by intro h; cases h)⟩
      | list l => cases hs
      | tuple l => cases hs
      | dict l => cases hs
    | none =>
      cases hv.none
      cases y with
      | str b => cases hu.str; exact ⟨rfl, decide_eq_false (by intro h; cases h)⟩
      | _ => cases hs
    | bool a =>
      cases hv.bool
      cases y with
      | str b => cases hu.str; exact ⟨rfl, decide_eq_false (by intro h; cases h)⟩
      | _ => cases hs
    | int a =>
      cases hv.int
      cases y with
      | str b => cases hu.str; exact ⟨rfl, decide_eq_false (by intro h; cases h)⟩
      | _ => cases hs
    | list l => cases y <;> cases hs
    | tuple l => cases y <;> cases hs
    | dict l => cases y <;> cases hs
theorem od_eq : OpD K (rEqA K) oEq := by
  intro C Hs H σ ρ v u dx dy Qd Q R hv hu h k
  rcases eq_case R.sub hv hu h.1 with ⟨h1, h2⟩ | ⟨h1, h2, h3, h4⟩
  · refine .inl ⟨h1, k (.dat (.bool _)) _ _ _ R (Same.refl _) (.bl _) ?_⟩
    rw [h2]; exact h.2
  · exact .inr ⟨_, _, h1, h2, h3, h4, k (.dat (.bool _)) _ _ _ R (Same.refl _) (.bl _) h.2⟩
theorem od_ne : OpD K (rNeA K) oNe := by
  intro C Hs H σ ρ v u dx dy Qd Q R hv hu h k
  rcases eq_case R.sub hv hu h.1 with ⟨h1, h2⟩ | ⟨h1, h2, h3, h4⟩
  · refine .inl ⟨h1, k (.dat (.bool _)) _ _ _ R (Same.refl _) (.bl _) ?_⟩
    rw [h2]; exact h.2
  · exact .inr ⟨_, _, h1, h2, h3, h4, k (.dat (.bool _)) _ _ _ R (Same.refl _) (.bl _) h.2⟩
def oOrd (f : Int → Int → Bool) (g : List Nat → List Nat → Bool) : D2
  | .int i, .int j, Q => Q (.dat (.bool (f i j)))
  | .str a, .str b, Q => Q (.dat (.bool (g a.cps.toList b.cps.toList)))
  | _, _, _ => False
theorem od_ord {f : Int → Int → Bool} {g : List Nat → List Nat → Bool} : OpD K (fun x y H Q => rI0 (fun i j => .bl (f i j)) x y H Q ∨ ∃ i j, x = .str i ∧ y = .str j ∧ Q (.bl (g i.cps.toList j.cps.toList)) H) (oOrd f g) := by
  intro C Hs H σ ρ v u dx dy Qd Q R hv hu h k
  unfold oOrd at h
  split at h
  · cases hv.int; cases hu.int
    exact .inl ⟨_, _, rfl, rfl, k (.dat (.bool _)) _ _ _ R (Same.refl _) (.bl _) h⟩
  · cases hv.str; cases hu.str
    exact .inr ⟨_, _, rfl, rfl, k (.dat (.bool _)) _ _ _ R (Same.refl _) (.bl _) h⟩
  · exact h.elim
abbrev oLt : D2 := oOrd (fun i j => decide (i < j)) fun a b => decide (a < b)
abbrev oLe : D2 := oOrd (fun i j => decide (i ≤ j)) fun a b => !decide (b < a)
abbrev oGt : D2 := oOrd (fun i j => decide (j < i)) fun a b => decide (b < a)
abbrev oGe : D2 := oOrd (fun i j => decide (j ≤ i)) fun a b => !decide (a < b)
def oIs (neg : Bool) : D2
  | x, .none, Q => Q (.dat (.bool (match x with | .none => !neg | _ => neg)))
  | _, _, _ => False
theorem od_is : OpD K (fun x y H Q => y = .non ∧ Q (.bl (decide (x = .non))) H) (oIs false) := by
  intro C Hs H σ ρ v u dx dy Qd Q R hv hu h k
  unfold oIs at h
  split at h
  · cases hu.none
    refine ⟨rfl, k (.dat (.bool _)) _ _ _ R (Same.refl _) ?_ h⟩
    cases hv with
    | st hv => cases hv <;> exact .bl _
    | ow _ _ => exact .bl _
  · exact h.elim
def oIn (neg : Bool) : D2
  | .str u, .str z, Q => u.cps.size = 1 ∧ Q (.dat (.bool (xor neg (decide (u.cps.getD 0 0 ∈ z.cps.toList)))))
  | x, .list ds, Q => (sc x = true ∧ ds.all sc = true) ∧ Q (.dat (.bool (xor neg (ds.any fun d => PyData.eqv d x))))
  | x, .tuple ds, Q => (sc x = true ∧ ds.all sc = true) ∧ Q (.dat (.bool (xor neg (ds.any fun d => PyData.eqv d x))))
  | _, _, _ => False
theorem Rdb.scal {Hs H : Hp} {v : V} {d : PyData} (h : Rdb K Hs H v d) (s : sc d = true) : Dq K Hs v d := by
  cases h with
  | st h => exact h
  | ow _ _ => cases s
/-! places -/
def oIx : D2
  | .list ds, .int i, Q => wi (atI ds i) fun d => Q (.dat d)
  | .tuple ds, .int i, Q => wi (atI ds i) fun d => Q (.dat d)
  | .str z, .int i, Q => z.length ≤ sizeLine ∧ match atI z.cps.toList i with
    | some c => Q (.dat (.str ⟨#[c]⟩))
    | none => False
  | _, _, _ => False
theorem atI_dq {H : Hp} {vs : List V} {ds : List PyData} {i : Int} {d : PyData} (a : DqAll K H vs ds) (h : atI ds i = some d) : ∃ v, atI vs i = some v ∧ Dq K H v d := by
  unfold atI at h ⊢
  rw [dpa_len a]
  cases e : ixN ds.length i with
  | none => rw [e] at h; cases h
  | some j =>
    rw [e] at h
    exact dpa_get' a h
theorem od_ix : OpD K (rIx K) oIx := by
  intro C Hs H σ ρ v u dx dy Qd Q R hv hu h k
  unfold oIx at h
  split at h
  · obtain ⟨a, vs, rfl, ha, da⟩ := hv.list R.sub
    cases hu.int
    obtain ⟨d, e, q⟩ := wi_some h
    obtain ⟨w, e1, e2⟩ := atI_dq da e
    exact .inl ⟨a, vs, _, w, rfl, rfl, .inl ha, e1, k (.dat d) _ _ _ R (Same.refl _) e2 q⟩
  · obtain ⟨a, vs, rfl, ha, da⟩ := hv.tuple R.sub
    cases hu.int
    obtain ⟨d, e, q⟩ := wi_some h
    obtain ⟨w, e1, e2⟩ := atI_dq da e
    exact .inr (.inl ⟨a, vs, _, w, rfl, rfl, ha, e1, k (.dat d) _ _ _ R (Same.refl _) e2 q⟩)
  · cases hv.str; cases hu.int
    obtain ⟨h1, h2⟩ := h
    split at h2
    · rename_i c e
      exact .inr (.inr ⟨_, _, c, rfl, rfl, h1, e, k (.dat (.str _)) _ _ _ R (Same.refl _) (.str _) h2⟩)
    · exact h2.elim
  · exact h.elim
end
end DL
namespace DL
open PySem L2 ZG
def asB (d : PyData) (k : Bool → Prop) : Prop := match d with
  | .bool b => k b
  | _ => False
theorem asB_of {d : PyData} {k : Bool → Prop} (h : asB d k) : ∃ b, d = .bool b ∧ k b := by
  unfold asB at h
  split at h
  · exact ⟨_, rfl, h⟩
  · exact h.elim
def asI (d : PyData) (k : Int → Prop) : Prop := match d with
  | .int i => k i
  | _ => False
theorem asI_of {d : PyData} {k : Int → Prop} (h : asI d k) : ∃ i, d = .int i ∧ k i := by
  unfold asI at h
  split at h
  · exact ⟨_, rfl, h⟩
  · exact h.elim
def ifB (b : Bool) (p q : Prop) : Prop := match b with
  | true => p
  | false => q
theorem ifB_of {b : Bool} {p q : Prop} (h1 : b = true → p) (h2 : b = false → q) : ifB b p q := by
  cases b with
  | true => exact h1 rfl
  | false => exact h2 rfl
theorem ifB_t {b : Bool} {p q : Prop} (h : b = true) (hp : p) : ifB b p q := by subst h; exact hp
theorem ifB_f {b : Bool} {p q : Prop} (h : b = false) (hq : q) : ifB b p q := by subst h; exact hq
/-! ### tests -/
def dTest (a : DE) : DT := fun ρ Q => a ρ fun x ρ1 => wi (rd ρ1 x) fun d => asB d fun b => Q b ρ1
def dAnd (t u : DT) : DT := fun ρ Q => t ρ fun c ρ1 => ifB c (u ρ1 Q) (Q false ρ1)
def dOr (t u : DT) : DT := fun ρ Q => t ρ fun c ρ1 => ifB c (Q true ρ1) (u ρ1 Q)
def dNot (t : DT) : DT := fun ρ Q => t ρ fun c ρ1 => Q (!c) ρ1
def dAndV (a b : DE) : DE := fun ρ Q => a ρ fun x ρ1 => wi (rd ρ1 x) fun d => asB d fun c => ifB c (b ρ1 Q) (Q (.dat (.bool false)) ρ1)
def dOrV (a b : DE) : DE := fun ρ Q => a ρ fun x ρ1 => wi (rd ρ1 x) fun d => asB d fun c => ifB c (Q (.dat (.bool true)) ρ1) (b ρ1 Q)
def dNotV (a : DE) : DE := fun ρ Q => a ρ fun x ρ1 => wi (rd ρ1 x) fun d => asB d fun c => Q (.dat (.bool (!c))) ρ1
def dIf (t : DT) (a b : DE) : DE := fun ρ Q => t ρ fun c ρ1 => ifB c (a ρ1 Q) (b ρ1 Q)
section
variable {X : Cx} {K : PySem.W.Frag} {e a b c : Expr} {es rest : List Expr} {fa fb fc : DE} {ft fu : DT} {pos : Pos}
theorem test_up {F : DE} {σ : St} {H : Hp} {Q : Bool → Hp → Prop} (h : upT K (dTest F) σ H Q) : up K F σ H (fun x H' => ∃ k, x = .bl k ∧ Q k H') := by
  obtain ⟨C, Hs, ρ, QD, R, q, k⟩ := h
  refine ⟨C, Hs, ρ, _, R, q, fun x ρ1 v Hs1 H1 R1 S1 V1 q1 => ?_⟩
  obtain ⟨d, e, q1⟩ := wi_some q1
  obtain ⟨b, rfl, q1⟩ := asB_of q1
  cases (V1.rd R1 e).bool
  exact ⟨b, rfl, k b ρ1 Hs1 H1 R1 S1 q1⟩
theorem qt_val (h : QE K X e fa) (he : ∀ whole, isTrue e X.env whole = (do let v ← whole; standAt e.pos; holding [v] (truthy v)) := by intro _; rfl) : QT K X e (dTest fa) := by
  with_unfolding_all
    exact
      PT.imp (pt_val h he) fun σ H Q h => test_up h
theorem qt_cmp {op : CmpOp} {r : R2} {f : D2} (ho : OpR X (compareOp op) r) (hd : OpD K r f) (ha : QE K X a fa) (hb : QE K X b fb) (hm : behindInMarks op b = false) : QT K X (.Compare a [op] [b] pos) (dTest (dOp f fa fb)) := by
  with_unfolding_all
    exact
      PT.imp (pt_cmpR ho ha hb hm) fun σ H Q h => two hd σ H _ (test_up h)
theorem qw_or1 (ha : QT K X a ft) : QW K X (.BoolOp .Or [a] pos) ft := by
  with_unfolding_all
    exact
      pw_or1 ha
theorem qw_or (ha : QT K X a ft) (hb : QW K X (.BoolOp .Or (b :: rest) pos) fu) : QW K X (.BoolOp .Or (a :: b :: rest) pos) (dOr ft fu) := by
  with_unfolding_all
    refine PW.imp (pw_or ha hb) fun σ H Q ⟨C, Hs, ρ, QD, R, q, k⟩ => ?_
    refine ⟨C, Hs, ρ, _, R, q, fun c ρ1 Hs1 H1 R1 S1 q1 => ?_⟩
    cases c with
    | true => exact iteT (k true ρ1 Hs1 H1 R1 S1 q1)
    | false => exact iteF ⟨C, Hs1, ρ1, QD, R1, q1, fun b ρ2 Hs2 H2 R2 S2 q2 => k b ρ2 Hs2 H2 R2 (S1.trans S2) q2⟩
theorem QW.qt (h : QW K X e ft) : QT K X e ft := by
  with_unfolding_all
    exact
      h.pt
theorem qt_not (ha : QT K X a ft) : QT K X (.UnaryOp .Not a pos) (dNot ft) := by
  with_unfolding_all
    refine PT.imp (pt_not ha) fun σ H Q ⟨C, Hs, ρ, QD, R, q, k⟩ => ?_
    exact ⟨C, Hs, ρ, _, R, q, fun c ρ1 Hs1 H1 R1 S1 q1 => k _ ρ1 Hs1 H1 R1 S1 q1⟩
theorem q_one {op} (h : QE K X a fa) : QE K X (.BoolOp op [a] pos) fa := by
  with_unfolding_all
    exact
      pe_one h
theorem q_and (ha : QE K X a fa) (hb : QE K X (.BoolOp .And (b :: rest) pos) fb) : QE K X (.BoolOp .And (a :: b :: rest) pos) (dAndV fa fb) := by
  with_unfolding_all
    refine PE.imp (pe_and ha hb) fun σ H Q ⟨C, Hs, ρ, QD, R, q, k⟩ => ?_
    refine ⟨C, Hs, ρ, _, R, q, fun x ρ1 v Hs1 H1 R1 S1 V1 q1 => ?_⟩
    obtain ⟨d, e, q1⟩ := wi_some q1
    obtain ⟨c, rfl, q1⟩ := asB_of q1
    cases (V1.rd R1 e).bool
    refine ⟨c, rfl, ?_⟩
    cases c with
    | true => exact iteT ⟨C, Hs1, ρ1, QD, R1, q1, fun x ρ2 v Hs2 H2 R2 S2 V2 q2 => k x ρ2 v Hs2 H2 R2 (S1.trans S2) V2 q2⟩
    | false => exact iteF (k (.dat (.bool false)) ρ1 _ Hs1 H1 R1 S1 (.bl _) q1)
theorem q_not (ha : QE K X a fa) : QE K X (.UnaryOp .Not a pos) (dNotV fa) := by
  with_unfolding_all
    refine PE.imp (pe_not ha) fun σ H Q ⟨C, Hs, ρ, QD, R, q, k⟩ => ?_
    refine ⟨C, Hs, ρ, _, R, q, fun x ρ1 v Hs1 H1 R1 S1 V1 q1 => ?_⟩
    obtain ⟨d, e, q1⟩ := wi_some q1
    obtain ⟨c, rfl, q1⟩ := asB_of q1
    cases (V1.rd R1 e).bool
    exact ⟨c, rfl, k (.dat (.bool _)) ρ1 _ Hs1 H1 R1 S1 (.bl _) q1⟩
theorem q_ifExp (hc : QT K X c ft) (ha : QE K X a fa) (hb : QE K X b fb) : QE K X (.IfExp c a b pos) (dIf ft fa fb) := by
  with_unfolding_all
    refine PE.imp (pe_ifExp hc ha hb) fun σ H Q ⟨C, Hs, ρ, QD, R, q, k⟩ => ?_
    refine ⟨C, Hs, ρ, _, R, q, fun c ρ1 Hs1 H1 R1 S1 q1 => ?_⟩
    cases c with
    | true => exact iteT ⟨C, Hs1, ρ1, QD, R1, q1, fun x ρ2 v Hs2 H2 R2 S2 V2 q2 => k x ρ2 v Hs2 H2 R2 (S1.trans S2) V2 q2⟩
    | false => exact iteF ⟨C, Hs1, ρ1, QD, R1, q1, fun x ρ2 v Hs2 H2 R2 S2 V2 q2 => k x ρ2 v Hs2 H2 R2 (S1.trans S2) V2 q2⟩
/-! ### a op b op c -/
def asBR (r : Rv) (k : Bool → Prop) : Prop := match r with
  | .dat (.bool b) => k b
  | _ => False
def dChain (f g : D2) (a b c : DE) : DE := fun ρ Q => a ρ fun x ρ1 => b ρ1 fun y ρ2 => wi (rd ρ2 (frz x)) fun dx => wi (rd ρ2 (frz y)) fun dy => f dx dy fun z => asBR z fun t => ifB t (c ρ2 fun w ρ3 => wi (rd ρ3 (frz y)) fun dy' => wi (rd ρ3 w) fun dw => g dy' dw fun r => Q r ρ3) (Q (.dat (.bool false)) ρ2)
/-! ### arguments, displays -/
def dNil : DA := fun ρ Q => Q [] ρ
def dCons (a : DE) (r : DA) : DA := fun ρ Q => a ρ fun x ρ1 => r ρ1 fun xs ρ2 => Q (frz x :: xs) ρ2
variable {fr : DA}
theorem qa_nil : QA K X [] dNil := by
  with_unfolding_all
    exact
      PA.imp pa_nil fun σ H Q ⟨C, Hs, ρ, QD, R, q, k⟩ => k _ _ _ _ _ R (Same.refl _) .nil q
theorem qa_cons (ha : QE K X e fa) (hr : QA K X es fr) (hs : starEach (e :: es) X.env = (false, eval e X.env) :: starEach es X.env := by rfl) : QA K X (e :: es) (dCons fa fr) := by
  with_unfolding_all
    refine PA.imp (pa_cons ha hr hs) fun σ H Q ⟨C, Hs, ρ, QD, R, q, k⟩ => ?_
    refine ⟨C, Hs, ρ, _, R, q, fun x ρ1 v Hs1 H1 R1 S1 V1 q1 => ?_⟩
    obtain ⟨Hs1', R1', S1', V1'⟩ := V1.frz R1
    exact ⟨C, Hs1', ρ1, _, R1', q1, fun xs ρ2 vs Hs2 H2 R2 S2 V2 q2 => k _ ρ2 _ Hs2 H2 R2 ((S1.trans S1').trans S2) (.cons (V1'.wait S2) V2) q2⟩
/-- a slot's list becomes data -/
theorem Rel.freeze {C : Fc} {Hs H : Hp} {σ : St} {ρ : DEnv} {i : Nat} {ds : List PyData} (R : Rel K C Hs H σ ρ) (h : ρ[i]? = some (.own ds)) : ∃ Hs', Rel K C Hs' H σ (ρ.set i (.dat (.list ds))) ∧ Same Hs Hs' ∧ ∃ v, σ[i]? = some (some v) ∧ Dq K Hs' v (.list ds) := by
  obtain ⟨a, e1, vs, e2, e3, e4, e5⟩ := R.slot i _ h
  have oa : OwnAt σ ρ i a := ⟨e1, ds, .inl h⟩
  have hi : i < ρ.length := by
    rcases Nat.lt_or_ge i ρ.length with z | z
    · exact z
    · rw [List.getElem?_eq_none z] at h; cases h
  have S : Same Hs (upd Hs a (.lst vs)) := same_new e3 _
  have dq : Dq K (upd Hs a (.lst vs)) (.ref a) (.list ds) := .lst (.inl upd_same) (dpa_same S e4)
  have other : ∀ {j : Nat} {b : Addr}, j ≠ i → OwnAt σ ρ j b → b ≠ a := fun {j b} nj o z => nj (R.dis j i a (z ▸ o) oa)
  have ow : ∀ {j : Nat} {b : Addr}, OwnAt σ (ρ.set i (.dat (.list ds))) j b → j ≠ i ∧ OwnAt σ ρ j b := fun {j b} ⟨x1, es, x2⟩ => by
    by_cases hj : j = i
    · subst hj
      rw [List.getElem?_set_self hi] at x2
      rcases x2 with x2 | x2 <;> cases x2
    · rw [List.getElem?_set_ne (Ne.symm hj)] at x2
      exact ⟨hj, x1, es, x2⟩
  refine ⟨upd Hs a (.lst vs), ⟨fun b u q => ?_, by rw [List.length_set]; exact R.len, fun j r e => ?_, fun j l b x y => R.dis j l b (ow x).2 (ow y).2, R.fr, R.dom, fun b x1 x2 x3 => ?_⟩, S, .ref a, e1, dq⟩
  · by_cases hb : b = a
    · subst hb; rw [upd_same] at q; rw [e2]; exact q
    · rw [upd_ne hb] at q; exact R.sub _ _ q
  · by_cases hj : j = i
    · subst hj
      rw [List.getElem?_set_self hi] at e
      cases e
      exact ⟨.ref a, e1, dq⟩
    · rw [List.getElem?_set_ne (Ne.symm hj)] at e
      have x := R.slot j r e
      cases r with
      | no => exact x
      | dat d => obtain ⟨v, y1, y2⟩ := x; exact ⟨v, y1, dp_same S y2⟩
      | own es =>
        obtain ⟨b, y1, us, y2, y3, y4, y5⟩ := x
        exact ⟨b, y1, us, y2, by rw [upd_ne (other hj ⟨y1, es, .inl e⟩)]; exact y3, dpa_same S y4, y5⟩
      | fn _ => exact x
      | par es =>
        obtain ⟨b, y1, y', us, y2, y3, y4, y5⟩ := x
        exact ⟨b, y1, y', us, y2, by rw [upd_ne (other hj ⟨y1, es, .inr e⟩)]; exact y3, dpa_same S y4, y5⟩
  · by_cases hb : b = a
    · subst hb
      rcases e5 with e5 | e5
      · exact absurd e5 x3
      · exact absurd e5 x1
    · rw [upd_ne hb]; exact R.gr b x1 x2 x3
def frzs : DEnv → List Rv → Option (List PyData × DEnv)
  | ρ, [] => some ([], ρ)
  | ρ, .dat d :: xs => (frzs ρ xs).map fun p => (d :: p.1, p.2)
  | ρ, .bor i :: xs => match ρ[i]? with
    | some (.own ds) => (frzs (ρ.set i (.dat (.list ds))) xs).map fun p => (.list ds :: p.1, p.2)
    | some (.dat d) => (frzs ρ xs).map fun p => (d :: p.1, p.2)
    | _ => none
  | _, .new _ :: _ => none
theorem frzs_ok {C : Fc} {H : Hp} {σ : St} : ∀ {xs : List Rv} {vs : List V} {Hs : Hp} {ρ ρ' : DEnv} {ρ0 : DEnv} {ds : List PyData}, Rel K C Hs H σ ρ → RVals K C Hs H σ ρ0 xs vs → frzs ρ xs = some (ds, ρ') → ∃ Hs', Rel K C Hs' H σ ρ' ∧ Same Hs Hs' ∧ DqAll K Hs' vs ds := by
  intro xs
  induction xs with
  | nil =>
    intro vs Hs ρ ρ' ρ0 ds R h e
    cases h
    cases e
    exact ⟨Hs, R, Same.refl _, .nil⟩
  | cons x xs ih =>
    intro vs Hs ρ ρ' ρ0 ds R h e
    cases h with
    | @cons x' v _ vs hx hs =>
    have mono : ∀ {Hs' : Hp}, Same Hs Hs' → ∀ {xs : List Rv} {vs : List V}, RVals K C Hs H σ ρ0 xs vs → RVals K C Hs' H σ ρ0 xs vs := fun {Hs'} S => by
      intro xs vs hs
      induction hs with
      | nil => exact .nil
      | cons h _ ih => exact .cons (h.wait S) ih
    cases x' with
    | dat d =>
      obtain ⟨⟨es, ρ2⟩, e1, e2⟩ := Option.map_eq_some_iff.mp (show (frzs ρ xs).map (fun p => (d :: p.1, p.2)) = some (ds, ρ') from e)
      cases e2
      obtain ⟨Hs', R', S', a'⟩ := ih R hs e1
      exact ⟨Hs', R', S', .cons (dp_same S' hx) a'⟩
    | new es =>
      obtain ⟨⟨es', ρ2⟩, e1, e2⟩ := Option.map_eq_some_iff.mp (show (frzs ρ xs).map (fun p => (.list es :: p.1, p.2)) = some (ds, ρ') from e)
      cases e2
      obtain ⟨Hs', R', S', a'⟩ := ih R hs e1
      exact ⟨Hs', R', S', .cons (dp_same S' hx) a'⟩
    | bor i =>
      have hx : σ[i]? = some (some v) := hx
      have e : (match ρ[i]? with
        | some (Slot.own ds) => (frzs (ρ.set i (.dat (.list ds))) xs).map fun p => (PyData.list ds :: p.1, p.2)
        | some (Slot.dat d) => (frzs ρ xs).map fun p => (d :: p.1, p.2)
        | _ => none) = some (ds, ρ') := e
      split at e
      · rename_i os q
        obtain ⟨⟨es', ρ2⟩, e1, e2⟩ := Option.map_eq_some_iff.mp e
        cases e2
        obtain ⟨Hs1, R1, S1, w, ew, dq⟩ := R.freeze q
        rw [hx] at ew
        cases ew
        obtain ⟨Hs', R', S', a'⟩ := ih R1 (mono S1 hs) e1
        exact ⟨Hs', R', S1.trans S', .cons (dp_same S' dq) a'⟩
      · rename_i d q
        obtain ⟨⟨es', ρ2⟩, e1, e2⟩ := Option.map_eq_some_iff.mp e
        cases e2
        obtain ⟨w, ew, dq⟩ := R.slot i _ q
        rw [hx] at ew
        cases ew
        obtain ⟨Hs', R', S', a'⟩ := ih R hs e1
        exact ⟨Hs', R', S', .cons (dp_same S' dq) a'⟩
      · cases e
def wf (o : Option (List PyData × DEnv)) (k : List PyData → DEnv → Prop) : Prop := match o with
  | some p => k p.1 p.2
  | none => False
theorem wf_some {o : Option (List PyData × DEnv)} {k : List PyData → DEnv → Prop} (h : wf o k) : ∃ ds ρ, o = some (ds, ρ) ∧ k ds ρ := by
  cases o with
  | none => exact h.elim
  | some d => exact ⟨d.1, d.2, rfl, h⟩
def dTup (r : DA) : DE := fun ρ Q => r ρ fun xs ρ1 => wf (frzs ρ1 xs) fun ds ρ2 => ds.length ≤ sizeLine ∧ Q (.dat (.tuple ds)) ρ2
def dLst (r : DA) : DE := fun ρ Q => r ρ fun xs ρ1 => wf (frzs ρ1 xs) fun ds ρ2 => ds.length ≤ sizeLine ∧ Q (.new ds) ρ2
theorem q_tup {x1} (h : QA K X es fr) : QE K X (.Tuple es x1 pos) (dTup fr) := by
  with_unfolding_all
    refine PE.imp (pe_tup h) fun σ H Q ⟨C, Hs, ρ, QD, R, q, k⟩ => ?_
    refine ⟨C, Hs, ρ, _, R, q, fun xs ρ1 vs Hs1 H1 R1 S1 V1 q1 => ?_⟩
    obtain ⟨ds, ρ2, e, h1, h2⟩ := wf_some q1
    obtain ⟨Hs2, R2, S2, a2⟩ := frzs_ok R1 V1 e
    refine ⟨by rw [dpa_len a2]; exact h1, fun p hp => ?_⟩
    obtain ⟨R3, S3, V3⟩ := newT R2 hp a2
    exact k _ ρ2 _ _ _ R3 (S1.trans (S2.trans S3)) V3 h2
theorem q_lst (h : QA K X es fr) : QE K X (.List es pos) (dLst fr) := by
  with_unfolding_all
    refine PE.imp (pe_lst h) fun σ H Q ⟨C, Hs, ρ, QD, R, q, k⟩ => ?_
    refine ⟨C, Hs, ρ, _, R, q, fun xs ρ1 vs Hs1 H1 R1 S1 V1 q1 => ?_⟩
    obtain ⟨ds, ρ2, e, h1, h2⟩ := wf_some q1
    obtain ⟨Hs2, R2, S2, a2⟩ := frzs_ok R1 V1 e
    refine ⟨by rw [dpa_len a2]; exact h1, fun p hp => ?_⟩
    obtain ⟨R3, V3⟩ := newL R2 hp a2
    exact k _ ρ2 _ _ _ R3 (S1.trans S2) V3 h2
/-! ### slices -/
abbrev DO := DEnv → (Option Int → DEnv → Prop) → Prop
def upO (K : PySem.W.Frag) (F : DO) : TO := fun σ H Q => ∃ C Hs ρ QD, Rel K C Hs H σ ρ ∧ F ρ QD ∧ ∀ b ρ' Hs' H', Rel K C Hs' H' σ ρ' → Same Hs Hs' → QD b ρ' → Q b H'
@[irreducible] def QO (K : PySem.W.Frag) (X : Cx) (e : Option Expr) (F : DO) : Prop := PO X e (upO K F)
theorem PO.imp {e : Option Expr} {t t' : TO} (h : PO X e t) (hi : ∀ σ H Q, t' σ H Q → t σ H Q) : PO X e t' := fun pins s σ H Q I q => h pins s σ H Q I (hi _ _ _ q)
def dNoPart : DO := fun ρ Q => Q none ρ
def dPart (a : DE) : DO := fun ρ Q => a ρ fun x ρ1 => wi (rd ρ1 x) fun d => asI d fun i => Q (some i) ρ1
def cutD (xs : List PyData) (lo hi : Option Int) : List PyData := (xs.drop (HT.sIx xs.length 0 lo)).take (HT.sIx xs.length xs.length hi - HT.sIx xs.length 0 lo)
def oSl : PyData → Option Int → Option Int → (Rv → Prop) → Prop
  | .str z, lo, hi, Q => z.length ≤ sizeLine ∧ Q (.dat (.str (cutS z lo hi)))
  | .list ds, lo, hi, Q => Q (.new (cutD ds lo hi))
  | .tuple ds, lo, hi, Q => ¬ (HT.sIx ds.length 0 lo = 0 ∧ HT.sIx ds.length ds.length hi = ds.length) ∧ Q (.dat (.tuple (cutD ds lo hi)))
  | _, _, _, _ => False
def rSl2 (K : PySem.W.Frag) : V → Option Int → Option Int → Hp → VK → Prop := fun x lo hi H Q => rSlL K x lo hi H Q ∨ rSlS x lo hi H Q ∨ rSlT K x lo hi H Q
def dSl (a : DE) (lo hi : DO) : DE := fun ρ Q => a ρ fun x ρ1 => lo ρ1 fun l ρ2 => hi ρ2 fun u ρ3 => wi (rd ρ3 (frz x)) fun d => oSl d l u fun r => Q r ρ3
end
end DL
namespace DL
open PySem L2 ZG
/-! ### defs -/
def toPar : Slot → Slot
  | .own ds => .par ds
  | x => x
def C0 (vs : List V) (ss : List Slot) (Hs H : Hp) : Fc := ⟨H, Hs, fun a => ∃ (i : Nat) (ds : List PyData), vs[i]? = some (.ref a) ∧ ss[i]? = some (.own ds), vs⟩
abbrev DSp := List Slot → (Slot → List Slot → Prop) → Prop
def RetR (K : PySem.W.Frag) (Hs' H' H : Hp) (v : V) : Slot → Prop
  | .dat d => Dq K Hs' v d
  | .own ds => ∃ a us, v = .ref a ∧ H' a = some (.lst us) ∧ Hs' a = none ∧ DqAll K Hs' us ds ∧ H a = none
  | _ => False
def upSp (K : PySem.W.Frag) (sp : DSp) : Sp := fun vs H Q _ => ∃ Hs ss QD, Rel K (C0 vs ss Hs H) Hs H (vs.map some) (ss.map toPar) ∧ sp ss QD ∧
  ∀ r ss' v Hs' H', Rel K (C0 vs ss Hs H) Hs' H' (vs.map some) (ss'.map toPar) → Same Hs Hs' → RetR K Hs' H' H v r → QD r ss' → Q v H'
def finS : List Slot → DEnv → Option (List Slot)
  | [], _ => some []
  | .own _ :: ss, .par ds :: ρ => (finS ss ρ).map (.own ds :: ·)
  | .dat d :: ss, _ :: ρ => (finS ss ρ).map (.dat d :: ·)
  | .no :: ss, _ :: ρ => (finS ss ρ).map (.no :: ·)
  | .fn _ :: ss, _ :: ρ => (finS ss ρ).map (.no :: ·)
  | _, _ => none
def retS (ρ : DEnv) : Rv → Option Slot
  | .dat d => some (.dat d)
  | .new ds => some (.own ds)
  | .bor i => match ρ[i]? with
    | some (.own ds) => some (.own ds)
    | _ => none
def ws {α : Type} (o : Option α) (k : α → Prop) : Prop := match o with
  | some d => k d
  | none => False
theorem ws_some {α : Type} {o : Option α} {k : α → Prop} (h : ws o k) : ∃ d, o = some d ∧ k d := by
  cases o with
  | none => exact h.elim
  | some d => exact ⟨d, rfl, h⟩
def retW (ss : List Slot) (Q : Slot → List Slot → Prop) (x : Rv) (ρ : DEnv) : Prop := ws (finS ss ρ) fun ss' => ws (retS ρ x) fun r => Q r ss'
def endsD (ss : List Slot) (Q : Slot → List Slot → Prop) : DEnds := { nx := retW ss Q (.dat .none), rt := retW ss Q }
theorem finS_spec : ∀ {ss : List Slot} {ρ : DEnv} {ss' : List Slot}, finS ss ρ = some ss' → ss'.length = ss.length ∧ ∀ (i : Nat) (s' : Slot), ss'[i]? = some s' → ∃ s : Slot, ss[i]? = some s ∧ ((∃ ds0 ds, s = .own ds0 ∧ ρ[i]? = some (.par ds) ∧ s' = .own ds) ∨ (∃ d, s = .dat d ∧ s' = .dat d) ∨ ((∀ es, s ≠ .own es) ∧ s' = .no)) := by
  intro ss
  induction ss with
  | nil =>
    intro ρ ss' h
    have h : some [] = some ss' := by cases ρ <;> exact h
    cases h
    exact ⟨rfl, fun i s' e => by simp at e⟩
  | cons s ss ih =>
    intro ρ ss' h
    cases ρ with
    | nil => cases s <;> cases h
    | cons r ρ =>
      have go : ∀ {t : Slot} {u : List Slot}, (finS ss ρ).map (t :: ·) = some u → ((∃ ds0 ds, s = .own ds0 ∧ r = .par ds ∧ t = .own ds) ∨ (∃ d, s = .dat d ∧ t = .dat d) ∨ ((∀ es, s ≠ .own es) ∧ t = .no)) →
          u.length = (s :: ss).length ∧ ∀ (i : Nat) (s' : Slot), u[i]? = some s' → ∃ s0 : Slot, (s :: ss)[i]? = some s0 ∧ ((∃ ds0 ds, s0 = .own ds0 ∧ (r :: ρ)[i]? = some (.par ds) ∧ s' = .own ds) ∨ (∃ d, s0 = .dat d ∧ s' = .dat d) ∨ ((∀ es, s0 ≠ .own es) ∧ s' = .no)) := fun {t u} e c => by
        obtain ⟨u', e1, rfl⟩ := Option.map_eq_some_iff.mp e
        obtain ⟨l, w⟩ := ih e1
        refine ⟨by simp [l], fun i s' q => ?_⟩
        cases i with
        | zero =>
          have q : t = s' := by simpa using q
          subst q
          refine ⟨s, rfl, ?_⟩
          rcases c with ⟨a, b, c1, c2, c3⟩ | c | c
          · exact .inl ⟨a, b, c1, by rw [c2]; rfl, c3⟩
          · exact .inr (.inl c)
          · exact .inr (.inr c)
        | succ i =>
          obtain ⟨s0, w1, w2⟩ := w i s' (by simpa using q)
          exact ⟨s0, by simpa using w1, by simpa using w2⟩
      cases s with
      | no => exact go h (.inr (.inr ⟨fun _ z => (by cases z), rfl⟩))
      | fn _ => exact go h (.inr (.inr ⟨fun _ z => (by cases z), rfl⟩))
      | dat d => exact go h (.inr (.inl ⟨d, rfl, rfl⟩))
      | own ds0 =>
        cases r with
        | par ds => exact go h (.inl ⟨ds0, ds, rfl, rfl, rfl⟩)
        | fn _ => cases h
        | no => cases h
        | dat d => cases h
        | own d => cases h
      | par ds => cases h
section
variable {K : PySem.W.Frag}
theorem map_get {α β : Type} {f : α → β} {l : List α} {i : Nat} {y : β} (h : (l.map f)[i]? = some y) : ∃ x, l[i]? = some x ∧ y = f x := by
  rw [List.getElem?_map] at h
  obtain ⟨x, e1, e2⟩ := Option.map_eq_some_iff.mp h
  exact ⟨x, e1, e2.symm⟩
theorem ret_ok {vs : List V} {ss ss' : List Slot} {Hs H Hs' H' : Hp} {σ' : St} {ρ' : DEnv} {x : Rv} {v : V} {r : Slot} (R : Rel K (C0 vs ss Hs H) Hs H (vs.map some) (ss.map toPar)) (R' : Rel K (C0 vs ss Hs H) Hs' H' σ' ρ') (S : Same Hs Hs')
    (V : RVal K (C0 vs ss Hs H) Hs' H' σ' ρ' x v) (e1 : finS ss ρ' = some ss') (e2 : retS ρ' x = some r) : Rel K (C0 vs ss Hs H) Hs' H' (vs.map some) (ss'.map toPar) ∧ RetR K Hs' H' H v r := by
  obtain ⟨l, w⟩ := finS_spec e1
  have isown : ∀ {i : Nat} {ds : List PyData}, ss[i]? = some (.own ds) → ∃ ds' a, ρ'[i]? = some (.par ds') ∧ σ'[i]? = some (some (.ref a)) ∧ vs[i]? = some (.ref a) := fun {i ds} e => by
    have hi : i < ss.length := by
      rcases Nat.lt_or_ge i ss.length with z | z
      · exact z
      · rw [List.getElem?_eq_none z] at e; cases e
    have hi' : i < ss'.length := by rw [l]; exact hi
    obtain ⟨s0, q1, q2⟩ := w i _ (List.getElem?_eq_getElem hi')
    rw [e] at q1
    cases q1
    rcases q2 with ⟨_, ds', _, q3, _⟩ | ⟨_, q3, _⟩ | ⟨q3, _⟩
    · obtain ⟨a, y1, y2, _⟩ := R'.slot i _ q3
      exact ⟨ds', a, q3, y1, y2⟩
    · cases q3
    · exact absurd rfl (q3 _)
  have noO : ∀ {a : Addr}, (∀ i, ¬ OwnAt σ' ρ' i a) → ¬ (C0 vs ss Hs H).O a := fun {a} n ⟨i, ds, y1, y2⟩ => by
    obtain ⟨ds', b, z1, z2, z3⟩ := isown y2
    rw [y1] at z3
    cases z3
    exact n i ⟨z2, ds', .inr z1⟩
  refine ⟨⟨R'.sub, ?_, fun i r' e => ?_, fun i j a x y => R.dis i j a ?_ ?_, R'.fr, R'.dom, R'.gr⟩, ?_⟩
  · have := R.len
    rw [List.length_map, List.length_map] at this ⊢
    omega
  · obtain ⟨s', e3, rfl⟩ := map_get e
    obtain ⟨s, q1, q2⟩ := w i s' e3
    rcases q2 with ⟨ds0, ds, rfl, q3, rfl⟩ | ⟨d, rfl, rfl⟩ | ⟨_, rfl⟩
    · obtain ⟨a, y1, y2, y3⟩ := R'.slot i _ q3
      exact ⟨a, by rw [List.getElem?_map]; rw [show vs[i]? = some (.ref a) from y2]; rfl, y2, y3⟩
    · obtain ⟨u, y1, y2⟩ := R.slot i (.dat d) (by rw [List.getElem?_map, q1]; rfl)
      exact ⟨u, y1, dp_same S y2⟩
    · exact True.intro
  · obtain ⟨x1, ds, x2⟩ := x
    refine ⟨x1, ?_⟩
    rcases x2 with x2 | x2
    · obtain ⟨s', e3, e4⟩ := map_get x2
      obtain ⟨s, q1, q2⟩ := w i s' e3
      rcases q2 with ⟨ds0, ds, rfl, q3, rfl⟩ | ⟨d, rfl, rfl⟩ | ⟨_, rfl⟩ <;> cases e4
    · obtain ⟨s', e3, e4⟩ := map_get x2
      obtain ⟨s, q1, q2⟩ := w i s' e3
      rcases q2 with ⟨ds0, ds, rfl, q3, rfl⟩ | ⟨d, rfl, rfl⟩ | ⟨_, rfl⟩
      · exact ⟨ds0, .inr (by rw [List.getElem?_map, q1]; rfl)⟩
      · cases e4
      · cases e4
  · obtain ⟨x1, ds, x2⟩ := y
    refine ⟨x1, ?_⟩
    rcases x2 with x2 | x2
    · obtain ⟨s', e3, e4⟩ := map_get x2
      obtain ⟨s, q1, q2⟩ := w j s' e3
      rcases q2 with ⟨ds0, ds, rfl, q3, rfl⟩ | ⟨d, rfl, rfl⟩ | ⟨_, rfl⟩ <;> cases e4
    · obtain ⟨s', e3, e4⟩ := map_get x2
      obtain ⟨s, q1, q2⟩ := w j s' e3
      rcases q2 with ⟨ds0, ds, rfl, q3, rfl⟩ | ⟨d, rfl, rfl⟩ | ⟨_, rfl⟩
      · exact ⟨ds0, .inr (by rw [List.getElem?_map, q1]; rfl)⟩
      · cases e4
      · cases e4
  · cases x with
    | dat d => cases e2; exact V
    | new ds =>
      cases e2
      obtain ⟨a, rfl, ⟨us, y1, y2, y3, y4⟩, n⟩ := V
      exact ⟨a, us, rfl, y1, y2, y3, y4.resolve_left (noO n)⟩
    | bor i =>
      have e2 : (match ρ'[i]? with
        | some (Slot.own ds) => some (Slot.own ds)
        | _ => none) = some r := e2
      split at e2
      · rename_i ds q
        cases e2
        obtain ⟨a, y0, us, y1, y2, y3, y4⟩ := R'.slot i _ q
        have V : σ'[i]? = some (some v) := V
        rw [V] at y0
        cases y0
        refine ⟨a, us, rfl, y1, y2, y3, y4.resolve_left fun ⟨j, ds0, z1, z2⟩ => ?_⟩
        obtain ⟨ds', b, z3, z4, z5⟩ := isown z2
        rw [z1] at z5
        cases z5
        have := R'.dis i j a ⟨V, ds, .inl q⟩ ⟨z4, ds', .inr z3⟩
        subst this
        rw [q] at z3
        cases z3
      · cases e2
/-- THE RULE for a def, over data -/
theorem fn_d {P : Program} {w : World} {mg : Str → Option Value} {base : Heap} {x qual : Str} {st : Stmt} {f : Addr} {fd : FuncData} {N ps : List Str} {k : Nat} {sp : DSp} (F : Fun K x qual st f fd) (S : FnScope N ps (defScope st)) (len : ∀ ss Q, sp ss Q → ss.length = ps.length)
    (hbody : ∀ (cdv : Value) (A : Around) (outer : List Env) (s : Shared) (H : Hp) (E : XK), Room k (A.deeper (PyProof.Rows.envOfC qual (defScope st) s.heap.objs.size f cdv)) →
      ∃ FS, QSs K (cxOf CX0 1 P w K mg base N qual (defScope st) f cdv A outer s H E).nox (defBody st) FS ∧ ∀ ss Q, sp ss Q → FS (endsD ss Q) (ss.map toPar ++ List.replicate (N.length - ss.length) .no)) : FnOk P w K mg base CX0 1 (k + 1) f fd ps (upSp K sp) := by
  with_unfolding_all
    refine F.ok S (fun vs H Q E h => ?_) (fun cdv A outer s H vs Q E hr h => ?_)
    · obtain ⟨Hs, ss, QD, R, q, _⟩ := h
      have := R.len
      rw [List.length_map, List.length_map] at this
      rw [this]
      exact len ss QD q
    · obtain ⟨Hs, ss, QD, R, q, k⟩ := h
      obtain ⟨FS, hS, hF⟩ := hbody cdv A outer s H E hr
      refine ⟨_, hS, ?_⟩
      have le := R.len
      rw [List.length_map, List.length_map] at le
      have fin : ∀ x v σ' ρ' Hs' H', Rel K (C0 vs ss Hs H) Hs' H' σ' ρ' → Same Hs Hs' → RVal K (C0 vs ss Hs H) Hs' H' σ' ρ' x v → retW ss QD x ρ' → Q v H' := fun x v σ' ρ' Hs' H' R' S' V' q' => by
        obtain ⟨ss', e1, q'⟩ := ws_some q'
        obtain ⟨r, e2, q'⟩ := ws_some q'
        obtain ⟨R2, V2⟩ := ret_ok R R' S' V' e1 e2
        exact k r ss' v Hs' H' R2 S' V2 q'
      refine ⟨C0 vs ss Hs H, Hs, ss.map toPar ++ List.replicate (N.length - ss.length) .no, endsD ss QD, ?_, hF ss QD q, fun σ' ρ' Hs' H' R' S' q' => fin (.dat .none) .non σ' ρ' Hs' H' R' S' .non q', fun _ _ _ _ _ _ z => z.elim, fun _ _ _ _ _ _ z => z.elim, fin⟩
      have low : ∀ {i : Nat} {r : Slot}, (ss.map toPar ++ List.replicate (N.length - ss.length) Slot.no)[i]? = some r → (i < ss.length ∧ (ss.map toPar)[i]? = some r) ∨ (ss.length ≤ i ∧ r = .no) := fun {i r} e => by
        rcases Nat.lt_or_ge i ss.length with z | z
        · rw [List.getElem?_append_left (by rw [List.length_map]; exact z)] at e
          exact .inl ⟨z, e⟩
        · rw [List.getElem?_append_right (by rw [List.length_map]; exact z)] at e
          exact .inr ⟨z, (List.mem_replicate.mp (List.mem_of_getElem? e)).2⟩
      have st1 : ∀ {i : Nat}, i < ss.length → (L2.start N vs)[i]? = (vs.map some)[i]? := fun {i} z => List.getElem?_append_left (by rw [List.length_map]; omega)
      have ow : ∀ {i : Nat} {a : Addr}, OwnAt (L2.start N vs) (ss.map toPar ++ List.replicate (N.length - ss.length) Slot.no) i a → OwnAt (vs.map some) (ss.map toPar) i a := fun {i a} ⟨y1, ds, y2⟩ => by
        rcases y2 with y2 | y2
        · rcases low y2 with ⟨z, y3⟩ | ⟨_, y3⟩
          · exact ⟨by rw [← st1 z]; exact y1, ds, .inl y3⟩
          · cases y3
        · rcases low y2 with ⟨z, y3⟩ | ⟨_, y3⟩
          · exact ⟨by rw [← st1 z]; exact y1, ds, .inr y3⟩
          · cases y3
      refine ⟨R.sub, ?_, fun i r e => ?_, fun i j a x y => R.dis i j a (ow x) (ow y), R.fr, R.dom, R.gr⟩
      · unfold L2.start
        rw [List.length_append, List.length_append, List.length_map, List.length_map, List.length_replicate, List.length_replicate, le]
      · rcases low e with ⟨z, e⟩ | ⟨_, rfl⟩
        · have y := R.slot i r e
          cases r with
          | no => exact True.intro
          | dat d => obtain ⟨u, y1, y2⟩ := y; exact ⟨u, by rw [st1 z]; exact y1, y2⟩
          | own ds => obtain ⟨u, y1, y2⟩ := y; exact ⟨u, by rw [st1 z]; exact y1, y2⟩
          | par ds => obtain ⟨u, y1, y2⟩ := y; exact ⟨u, by rw [st1 z]; exact y1, y2⟩
          | fn _ => obtain ⟨u, y1, y2⟩ := y; exact ⟨u, by rw [st1 z]; exact y1, y2⟩
        · exact True.intro
/-! ### behind a call -/
theorem Rel.after {C : Fc} {Hs H Hs' H' : Hp} {σ : St} {ρ : DEnv} {O : Addr → Prop} (R : Rel K C Hs H σ ρ) (sub : Same Hs' H') (S : Same Hs Hs') (fr : ∀ c o, H c = some o → ¬ O c → H' c = some o) (dom : ∀ c, H' c = none → H c = none)
    (gr : ∀ a, H a ≠ none → Hs a = none → ¬ O a → Hs' a = none) (hO : ∀ a, O a → C.O a ∨ C.H0 a = none) (nO : ∀ i a, OwnAt σ ρ i a → ¬ O a) : Rel K C Hs' H' σ ρ := by
  have ol : ∀ {i : Nat} {a : Addr} {ds : List PyData}, OwnAt σ ρ i a → OL K C Hs H a ds → OL K C Hs' H' a ds := fun {i a ds} o ⟨us, y1, y2, y3, y4⟩ =>
    ⟨us, fr _ _ y1 (nO i a o), gr a (by rw [y1]; exact fun z => by cases z) y2 (nO i a o), dpa_same S y3, y4⟩
  refine ⟨sub, R.len, fun i r e => ?_, R.dis, fun c o e n => fr c o (R.fr c o e n) fun z => ?_, fun c e => R.dom c (dom c e), fun a e1 e2 e3 => gr a (fun z => e1 (R.dom a z)) (R.gr a e1 e2 e3) fun z => ?_⟩
  · have x := R.slot i r e
    cases r with
    | no => exact x
    | dat d => obtain ⟨v, y1, y2⟩ := x; exact ⟨v, y1, dp_same S y2⟩
    | own ds => obtain ⟨a, y1, y2⟩ := x; exact ⟨a, y1, ol ⟨y1, ds, .inl e⟩ y2⟩
    | par ds => obtain ⟨a, y1, y2, y3⟩ := x; exact ⟨a, y1, y2, ol ⟨y1, ds, .inr e⟩ y3⟩
    | fn _ => exact x
  · rcases hO c z with h | h
    · exact n h
    · rw [h] at e; cases e
  · rcases hO a z with h | h
    · exact e3 h
    · exact e1 h
def reS (ρ : DEnv) (i : Nat) (ds : List PyData) : DEnv := match ρ[i]? with
  | some (.own _) => ρ.set i (.own ds)
  | some (.par _) => ρ.set i (.par ds)
  | _ => ρ
/-- one slot's list has another content now -/
theorem Rel.renew {C : Fc} {Hs H Hs' H' : Hp} {σ : St} {ρ : DEnv} {i0 : Nat} {a0 : Addr} {us : List V} {ds' : List PyData} (R : Rel K C Hs H σ ρ) (ow : OwnAt σ ρ i0 a0) (sub : Same Hs' H') (S : Same Hs Hs') (fr : ∀ c o, H c = some o → c ≠ a0 → H' c = some o) (dom : ∀ c, H' c = none → H c = none)
    (gr : ∀ a, H a ≠ none → Hs a = none → a ≠ a0 → Hs' a = none) (h1 : H' a0 = some (.lst us)) (h2 : Hs' a0 = none) (h3 : DqAll K Hs' us ds') : Rel K C Hs' H' σ (reS ρ i0 ds') := by
  have hi : i0 < ρ.length := by
    obtain ⟨_, _, z | z⟩ := ow <;> (rcases Nat.lt_or_ge i0 ρ.length with y | y; exact y; rw [List.getElem?_eq_none y] at z; cases z)
  have own0 : C.O a0 ∨ C.H0 a0 = none := R.owned ow
  have at' : ∀ {j : Nat}, j ≠ i0 → (reS ρ i0 ds')[j]? = ρ[j]? := fun {j} nj => by
    unfold reS
    split
    · exact List.getElem?_set_ne (Ne.symm nj)
    · exact List.getElem?_set_ne (Ne.symm nj)
    · rfl
  have len' : (reS ρ i0 ds').length = ρ.length := by
    unfold reS
    split
    · exact List.length_set
    · exact List.length_set
    · rfl
  have here : (∃ ds, ρ[i0]? = some (.own ds) ∧ (reS ρ i0 ds')[i0]? = some (.own ds')) ∨ (∃ ds, ρ[i0]? = some (.par ds) ∧ (reS ρ i0 ds')[i0]? = some (.par ds')) := by
    obtain ⟨_, ds, z | z⟩ := ow
    · refine .inl ⟨ds, z, ?_⟩
      unfold reS
      rw [z]
      exact List.getElem?_set_self hi
    · refine .inr ⟨ds, z, ?_⟩
      unfold reS
      rw [z]
      exact List.getElem?_set_self hi
  have other : ∀ {j : Nat} {b : Addr}, j ≠ i0 → OwnAt σ ρ j b → b ≠ a0 := fun {j b} nj o z => nj (R.dis j i0 a0 (z ▸ o) ow)
  have ow' : ∀ {j : Nat} {b : Addr}, OwnAt σ (reS ρ i0 ds') j b → OwnAt σ ρ j b := fun {j b} ⟨x1, es, x2⟩ => by
    by_cases hj : j = i0
    · subst hj
      obtain ⟨_, ds, z⟩ := ow
      exact ⟨x1, ds, z⟩
    · rw [at' hj] at x2
      exact ⟨x1, es, x2⟩
  refine ⟨sub, by rw [len']; exact R.len, fun j r e => ?_, fun i j a x y => R.dis i j a (ow' x) (ow' y), fun c o e n => fr c o (R.fr c o e n) fun z => ?_, fun c e => R.dom c (dom c e), fun a e1 e2 e3 => gr a (fun z => e1 (R.dom a z)) (R.gr a e1 e2 e3) fun z => ?_⟩
  · by_cases hj : j = i0
    · subst hj
      rcases here with ⟨ds, z1, z2⟩ | ⟨ds, z1, z2⟩
      · rw [z2] at e
        cases e
        exact ⟨a0, ow.1, us, h1, h2, h3, own0⟩
      · rw [z2] at e
        cases e
        obtain ⟨b, y1, y2, _⟩ := R.slot j _ z1
        have := ow.1
        rw [this] at y1
        cases y1
        exact ⟨a0, this, y2, us, h1, h2, h3, own0⟩
    · rw [at' hj] at e
      have x := R.slot j r e
      have ol : ∀ {a : Addr} {ds : List PyData}, OwnAt σ ρ j a → OL K C Hs H a ds → OL K C Hs' H' a ds := fun {a ds} o ⟨us, y1, y2, y3, y4⟩ =>
        ⟨us, fr _ _ y1 (other hj o), gr a (by rw [y1]; exact fun z => by cases z) y2 (other hj o), dpa_same S y3, y4⟩
      cases r with
      | no => exact x
      | dat d => obtain ⟨v, y1, y2⟩ := x; exact ⟨v, y1, dp_same S y2⟩
      | own ds => obtain ⟨a, y1, y2⟩ := x; exact ⟨a, y1, ol ⟨y1, ds, .inl e⟩ y2⟩
      | par ds => obtain ⟨a, y1, y2, y3⟩ := x; exact ⟨a, y1, y2, ol ⟨y1, ds, .inr e⟩ y3⟩
      | fn _ => exact x
  · subst z
    rcases own0 with h | h
    · exact n h
    · rw [h] at e; cases e
  · subst z
    rcases own0 with h | h
    · exact e3 h
    · exact e1 h
end
end DL
namespace DL
open PySem L2 ZG
section
variable {X : Cx} {K : PySem.W.Frag} {x : Str} {k : Nat} {ps : List Str} {sp : DSp} {p pos kpos : Pos} {e o : Expr} {es : List Expr} {fr : DA} {fa fo : DE}
/-! ### own defs, called -/
def rvOf : Slot → Option Rv
  | .dat d => some (.dat d)
  | .own ds => some (.new ds)
  | _ => none
def dCall (sp : DSp) (r : DA) : DE := fun ρ Q => r ρ fun xs ρ1 => wf (frzs ρ1 xs) fun ds ρ2 => sp (ds.map .dat) fun s _ => ws (rvOf s) fun y => Q y ρ2
theorem dats_slot {vs : List V} {ds : List PyData} {Hs : Hp} (a : DqAll K Hs vs ds) {C : Fc} {H : Hp} {i : Nat} {r : Slot} (e : ((ds.map Slot.dat).map toPar)[i]? = some r) : ∃ d v, r = .dat d ∧ (vs.map some)[i]? = some (some v) ∧ Dq K Hs v d := by
  obtain ⟨s, e1, rfl⟩ := map_get e
  obtain ⟨d, e2, rfl⟩ := map_get e1
  obtain ⟨v, e3, dq⟩ := dpa_get' a e2
  exact ⟨d, v, rfl, by rw [List.getElem?_map, e3]; rfl, dq⟩
theorem rel_dats {vs : List V} {ds : List PyData} {Hs H : Hp} (S : Same Hs H) (a : DqAll K Hs vs ds) : Rel K (C0 vs (ds.map .dat) Hs H) Hs H (vs.map some) ((ds.map .dat).map toPar) := by
  have no : ∀ {i : Nat} {b : Addr}, OwnAt (vs.map some) ((ds.map Slot.dat).map toPar) i b → False := fun {i b} ⟨_, es, y⟩ => by
    rcases y with y | y
    · obtain ⟨d, v, y1, _⟩ := dats_slot (C := C0 vs [] Hs H) (H := H) a y; cases y1
    · obtain ⟨d, v, y1, _⟩ := dats_slot (C := C0 vs [] Hs H) (H := H) a y; cases y1
  refine ⟨S, by simp [dpa_len a], fun i r e => ?_, fun i j b x => (no x).elim, fun c o e _ => e, fun c e => e, fun a _ e _ => e⟩
  obtain ⟨d, v, rfl, y1, y2⟩ := dats_slot (C := C0 vs [] Hs H) (H := H) a e
  exact ⟨v, y1, y2⟩
theorem no_own {vs : List V} {ds : List PyData} {Hs H : Hp} {a : Addr} : ¬ (C0 vs (ds.map .dat) Hs H).O a := fun ⟨i, es, _, y⟩ => by
  obtain ⟨d, _, y⟩ := map_get y
  cases y
theorem q_call (h : Has X.prog X.w X.K X.mg X.base x k ps (upSp K sp)) (hr : Room k X.A) (hg : Gl X x) (ha : QA K X (e :: es) fr) (hdb : (x == ("__debug__" : Str)) = false := by decide)
    (he : starEach (e :: es) X.env = (false, eval e X.env) :: starEach es X.env := by rfl) (hpl : (backTo pos (starEach es X.env)).any (·.1) = false := by rfl) (hn : 1 ≤ X.tk := by first | exact Nat.le_refl _ | assumption) : QE K X (.Call (.Name x p) (e :: es) [] pos) (dCall sp fr) := by
  with_unfolding_all
    refine PE.imp (pe_own h hr hg ha hdb he hpl hn) fun σ H Q ⟨C, Hs, ρ, QD, R, q, k⟩ => ?_
    refine ⟨C, Hs, ρ, _, R, q, fun xs ρ1 vs Hs1 H1 R1 S1 V1 q1 => ?_⟩
    obtain ⟨ds, ρ2, e, q1⟩ := wf_some q1
    obtain ⟨Hs2, R2, S2, a2⟩ := frzs_ok R1 V1 e
    rw [List.append_nil]
    refine ⟨Hs2, ds.map .dat, _, rel_dats R2.sub a2, q1, fun r ss' v Hs3 H3 R3 S3 V3 q3 => ?_⟩
    obtain ⟨y, ey, q3⟩ := ws_some q3
    have R4 : Rel K C Hs3 H3 σ ρ2 := R2.after (O := (C0 vs (ds.map .dat) Hs2 H1).O) R3.sub S3 R3.fr R3.dom R3.gr (fun a z => (no_own z).elim) (fun _ _ _ => no_own)
    refine k y ρ2 v Hs3 H3 R4 (S1.trans (S2.trans S3)) ?_ q3
    cases r with
    | dat d => cases ey; exact V3
    | own ds =>
      cases ey
      obtain ⟨a, us, rfl, y1, y2, y3, y4⟩ := V3
      refine ⟨a, rfl, ⟨us, y1, y2, y3, .inr (R2.dom a y4)⟩, fun i ow => ?_⟩
      obtain ⟨_, z, _⟩ := R2.own ow
      exact z.ne y4 rfl
    | no => cases ey
    | par ds => cases ey
    | fn _ => cases ey
/-! lent as data: what comes back hangs on no list -/
def rds (ρ : DEnv) : List Rv → Option (List PyData)
  | [] => some []
  | x :: xs => match rd ρ x with
    | some d => (rds ρ xs).map (d :: ·)
    | none => none
inductive RdbAll (K : PySem.W.Frag) (Hs H : Hp) : List V → List PyData → Prop
  | nil : RdbAll K Hs H [] []
  | cons {v : V} {vs : List V} {d : PyData} {ds : List PyData} : Rdb K Hs H v d → RdbAll K Hs H vs ds → RdbAll K Hs H (v :: vs) (d :: ds)
theorem rds_ok {C : Fc} {Hs H : Hp} {σ : St} {ρ : DEnv} (R : Rel K C Hs H σ ρ) : ∀ {xs : List Rv} {vs : List V} {ds : List PyData}, RVals K C Hs H σ ρ xs vs → rds ρ xs = some ds → RdbAll K Hs H vs ds := by
  intro xs vs ds h
  induction h generalizing ds with
  | nil => intro e; cases e; exact .nil
  | @cons x v xs vs hx hs ih =>
    intro e
    have e : (match DL.rd ρ (DL.frz x) with
      | some d => (rds ρ xs).map (d :: ·)
      | none => none) = some ds := e
    split at e
    · rename_i d q
      obtain ⟨ds', e1, rfl⟩ := Option.map_eq_some_iff.mp e
      exact .cons (hx.rd R q) (ih e1)
    · cases e
theorem RdbAll.dp {Hs H : Hp} (S : Same Hs H) : ∀ {vs : List V} {ds : List PyData}, RdbAll K Hs H vs ds → DqAll K H vs ds
  | _, _, .nil => .nil
  | _, _, .cons h a => .cons (h.dp S) (a.dp S)
def flatRv : Slot → Option Rv
  | .dat d => if sc d = true then some (.dat d) else none
  | .own ds => if ds.all sc = true then some (.new ds) else none
  | _ => none
def dCallB (sp : DSp) (r : DA) : DE := fun ρ Q => r ρ fun xs ρ1 => ws (rds ρ1 xs) fun ds => sp (ds.map .dat) fun s _ => ws (flatRv s) fun y => Q y ρ1
/-! the first argument's list may be changed -/
def lst? (ρ : DEnv) (i : Nat) : Option (List PyData) := match ρ[i]? with
  | some (.own ds) => some ds
  | some (.par ds) => some ds
  | _ => none
theorem lst_own {C : Fc} {Hs H : Hp} {σ : St} {ρ : DEnv} (R : Rel K C Hs H σ ρ) {i : Nat} {ds : List PyData} (h : lst? ρ i = some ds) : ∃ a, OwnAt σ ρ i a ∧ OL K C Hs H a ds := by
  unfold lst? at h
  split at h
  · rename_i es q
    cases h
    obtain ⟨a, y1, y2⟩ := R.slot i _ q
    exact ⟨a, ⟨y1, _, .inl q⟩, y2⟩
  · rename_i es q
    cases h
    obtain ⟨a, y1, _, y2⟩ := R.slot i _ q
    exact ⟨a, ⟨y1, _, .inr q⟩, y2⟩
  · cases h
def bor? : List Rv → Option (Nat × List Rv)
  | .bor i :: xs => some (i, xs)
  | _ => none
def own? : List Slot → Option (List PyData)
  | .own ds :: _ => some ds
  | _ => none
def dCallX (sp : DSp) (r : DA) : DE := fun ρ Q => r ρ fun xs ρ1 => ws (bor? xs) fun b => wf (frzs ρ1 b.2) fun ds ρ2 => ws (lst? ρ2 b.1) fun cs => sp (.own cs :: ds.map .dat) fun s ss' => ws (own? ss') fun cs' => ws (rvOf s) fun y => Q y (reS ρ2 b.1 cs')
/-! ### built-ins -/
abbrev D1 := List PyData → (Rv → Prop) → Prop
def CallD (K : PySem.W.Frag) (r : List V → Hp → VK → Prop) (f : D1) : Prop := ∀ (C : Fc) (Hs H : Hp) (σ : St) (ρ : DEnv) (vs : List V) (ds : List PyData) (Qd : Rv → Prop) (Q : VK), Rel K C Hs H σ ρ → RdbAll K Hs H vs ds → f ds Qd →
  (∀ z w Hs' H', Rel K C Hs' H' σ ρ → Same Hs Hs' → RVal K C Hs' H' σ ρ z w → Qd z → Q w H') → r vs H Q
def dCB (f : D1) (r : DA) : DE := fun ρ Q => r ρ fun xs ρ1 => ws (rds ρ1 xs) fun ds => f ds fun y => Q y ρ1
theorem cb_up {r : List V → Hp → VK → Prop} {f : D1} (hd : CallD K r f) (σ : St) (H : Hp) (Q : VK) (h : up K (dCB f fr) σ H Q) : tCB r (upA K fr) σ H Q := by
  obtain ⟨C, Hs, ρ, QD, R, q, k⟩ := h
  refine ⟨C, Hs, ρ, _, R, q, fun xs ρ1 vs Hs1 H1 R1 S1 V1 q1 => ?_⟩
  obtain ⟨ds, e, q1⟩ := ws_some q1
  exact hd C Hs1 H1 σ ρ1 vs ds _ Q R1 (rds_ok R1 V1 e) q1 fun z w Hs2 H2 R2 S2 V2 q2 => k z ρ1 w Hs2 H2 R2 (S1.trans S2) V2 q2
theorem q_bi {id : String} {r : List V → Hp → VK → Prop} {f : D1} (hc : CallR X (.builtin id) r) (hd : CallD K r f) (hg : Gl X x) (hm : X.mg x = none) (hv : bootBuiltins x = some (.builtin id)) (ha : QA K X (e :: es) fr) (hn : x ≠ "__name__" := by decide) (hdb : (x == ("__debug__" : Str)) = false := by decide)
    (he : starEach (e :: es) X.env = (false, eval e X.env) :: starEach es X.env := by rfl) (hpl : (backTo pos (starEach es X.env)).any (·.1) = false := by rfl) : QE K X (.Call (.Name x p) (e :: es) [] pos) (dCB f fr) := by
  with_unfolding_all
    exact
      PE.imp (pe_callB hc hg hm hv ha hn hdb he hpl) (cb_up hd)
theorem q_ty {T : String} {r : List V → Hp → VK → Prop} {f : D1} (hc : CallR X (.type T) r) (hd : CallD K r f) (hg : Gl X x) (hm : X.mg x = none) (hv : bootBuiltins x = some (.type T)) (ha : QA K X (e :: es) fr) (hn : x ≠ "__name__" := by decide) (hdb : (x == ("__debug__" : Str)) = false := by decide)
    (he : starEach (e :: es) X.env = (false, eval e X.env) :: starEach es X.env := by rfl) (hpl : (backTo pos (starEach es X.env)).any (·.1) = false := by rfl) : QE K X (.Call (.Name x p) (e :: es) [] pos) (dCB f fr) := by
  with_unfolding_all
    exact
      PE.imp (pe_callTy hc hg hm hv ha hn hdb he hpl) (cb_up hd)
theorem RdbAll.one {Hs H : Hp} {vs : List V} {d : PyData} (h : RdbAll K Hs H vs [d]) : ∃ v, vs = [v] ∧ Rdb K Hs H v d := by
  cases h with
  | cons a b => cases b; exact ⟨_, rfl, a⟩
theorem RdbAll.two {Hs H : Hp} {vs : List V} {d e : PyData} (h : RdbAll K Hs H vs [d, e]) : ∃ v u, vs = [v, u] ∧ Rdb K Hs H v d ∧ Rdb K Hs H u e := by
  cases h with
  | cons a b => cases b with | cons b c => cases c; exact ⟨_, _, rfl, a, b⟩
def bLen : D1
  | [.str z], Q => z.length ≤ sizeLine ∧ Q (.dat (.int z.length))
  | [.list ds], Q => Q (.dat (.int ds.length))
  | [.tuple ds], Q => Q (.dat (.int ds.length))
  | _, _ => False
theorem cd_len : CallD K (rLen K) bLen := by
  intro C Hs H σ ρ vs ds Qd Q R a h k
  unfold bLen at h
  split at h
  · obtain ⟨v, rfl, hv⟩ := a.one
    cases hv.str
    exact ⟨_, _, rfl, ⟨h.1, rfl⟩, k (.dat (.int _)) _ _ _ R (Same.refl _) (.int _) h.2⟩
  · obtain ⟨v, rfl, hv⟩ := a.one
    obtain ⟨b, us, rfl, hb, db⟩ := hv.list R.sub
    refine ⟨_, _, rfl, .inl ⟨us, .inl hb, rfl⟩, k (.dat (.int _)) _ _ _ R (Same.refl _) (.int _) ?_⟩
    rw [dpa_len db]; exact h
  · obtain ⟨v, rfl, hv⟩ := a.one
    obtain ⟨b, us, rfl, hb, db⟩ := hv.tuple R.sub
    refine ⟨_, _, rfl, .inr ⟨us, hb, rfl⟩, k (.dat (.int _)) _ _ _ R (Same.refl _) (.int _) ?_⟩
    rw [dpa_len db]; exact h
  · exact h.elim
def bAbs : D1
  | [.int i], Q => Q (.dat (.int (if i < 0 then -i else i)))
  | _, _ => False
theorem cd_abs : CallD K (fun xs H Q => ∃ i, xs = [.int i] ∧ Q (.int (if i < 0 then -i else i)) H) bAbs := by
  intro C Hs H σ ρ vs ds Qd Q R a h k
  unfold bAbs at h
  split at h
  · obtain ⟨v, rfl, hv⟩ := a.one
    cases hv.int
    exact ⟨_, rfl, k (.dat (.int _)) _ _ _ R (Same.refl _) (.int _) h⟩
  · exact h.elim
def bInt : D1
  | [.int i], Q => Q (.dat (.int i))
  | [.bool b], Q => Q (.dat (.int (if b then 1 else 0)))
  | [.str z], Q => z.length ≤ 640 ∧ match PySem.intText? z with
    | some n => Q (.dat (.int n))
    | none => False
  | _, _ => False
def rInt2 : List V → Hp → VK → Prop := fun xs H Q => ((∃ i, xs = [.int i] ∧ Q (.int i) H) ∨ ∃ k, xs = [.bl k] ∧ Q (.int (if k then 1 else 0)) H) ∨ ∃ a n, xs = [.str a] ∧ PySem.intText? a = some n ∧ a.length ≤ 640 ∧ Q (.int n) H
theorem CallR.or {f : Value} {r r' : List V → Hp → VK → Prop} (h : CallR X f r) (h' : CallR X f r') : CallR X f (fun xs H Q => r xs H Q ∨ r' xs H Q) := fun pins s σ H xs us Q I rs q => q.elim (h pins s σ H xs us Q I rs) (h' pins s σ H xs us Q I rs)
theorem c_int : CallR X (.type "int") rInt2 := CallR.or call_int1 call_int_str
theorem cd_int : CallD K rInt2 bInt := by
  intro C Hs H σ ρ vs ds Qd Q R a h k
  unfold bInt at h
  split at h
  · obtain ⟨v, rfl, hv⟩ := a.one
    cases hv.int
    exact .inl (.inl ⟨_, rfl, k (.dat (.int _)) _ _ _ R (Same.refl _) (.int _) h⟩)
  · obtain ⟨v, rfl, hv⟩ := a.one
    cases hv.bool
    exact .inl (.inr ⟨_, rfl, k (.dat (.int _)) _ _ _ R (Same.refl _) (.int _) h⟩)
  · obtain ⟨v, rfl, hv⟩ := a.one
    cases hv.str
    obtain ⟨h1, h2⟩ := h
    split at h2
    · rename_i n e
      exact .inr ⟨_, n, rfl, e, h1, k (.dat (.int _)) _ _ _ R (Same.refl _) (.int _) h2⟩
    · exact h2.elim
  · exact h.elim
def bStr : D1
  | [.int i], Q => i.natAbs.log2 < 1920 ∧ Q (.dat (.str (toString i)))
  | _, _ => False
def bMax : D1
  | [.int i, .int j], Q => Q (.dat (.int (if j > i then j else i)))
  | _, _ => False
def bMin : D1
  | [.int i, .int j], Q => Q (.dat (.int (if j < i then j else i)))
  | _, _ => False
def bList : D1
  | [.list ds], Q => Q (.new ds)
  | [.tuple ds], Q => Q (.new ds)
  | _, _ => False
def bTuple : D1
  | [.list ds], Q => Q (.dat (.tuple ds))
  | [.tuple ds], Q => Q (.dat (.tuple ds))
  | _, _ => False
def bools : List PyData → Option (List Bool)
  | [] => some []
  | .bool b :: ds => (bools ds).map (b :: ·)
  | _ => none
theorem bools_ok {H : Hp} : ∀ {vs : List V} {ds : List PyData} {bs : List Bool}, DqAll K H vs ds → bools ds = some bs → vs = bs.map V.bl
  | _, _, _, .nil, e => by cases e; rfl
  | _, _, bs, .cons h a, e => by
    cases h with
    | bl b =>
      obtain ⟨bs', e1, rfl⟩ := Option.map_eq_some_iff.mp (show (bools _).map (b :: ·) = some bs from e)
      rw [bools_ok a e1]; rfl
    | _ => cases e
def bAll (f : List Bool → Bool) : D1
  | [.list ds], Q => ws (bools ds) fun bs => Q (.dat (.bool (f bs)))
  | _, _ => False
theorem cd_all : CallD K (rAll K) (bAll fun bs => bs.all id) := by
  intro C Hs H σ ρ vs ds Qd Q R a h k
  unfold bAll at h
  split at h
  · obtain ⟨v, rfl, hv⟩ := a.one
    obtain ⟨b, us, rfl, hb, db⟩ := hv.list R.sub
    obtain ⟨bs, e, h⟩ := ws_some h
    have := bools_ok db e
    subst this
    exact ⟨b, bs, rfl, .inl hb, k (.dat (.bool _)) _ _ _ R (Same.refl _) (.bl _) h⟩
  · exact h.elim
/-! isinstance -/
def tyD : PyData → String
  | .none => "NoneType"
  | .bool _ => "bool"
  | .int _ => "int"
  | .str _ => "str"
  | .list _ => "list"
  | .tuple _ => "tuple"
  | .dict _ => "dict"
def isT (T c : String) : Bool := T == c || (T == "bool" && c == "int")
theorem tyO {Hs H : Hp} (S : Same Hs H) {v : V} {d : PyData} (h : Rdb K Hs H v d) : ∃ T, TyO K H v T ∧ (∀ c ∈ kinds, PySem.W.kitOne K T (.type c) = some (isT (tyD d) c)) ∧ ∀ c ∈ kinds, ∀ c' ∈ kinds, PySem.W.kitAny K T [.type c, .type c'] = some (isT (tyD d) c || isT (tyD d) c') := by
  have k1 : ∀ {d : PyData}, ∀ c ∈ kinds, PySem.W.kitOne K (.type (tyD d)) (.type c) = some (isT (tyD d) c) := fun {d} c hc => by
    simp only [kinds, List.mem_cons, List.not_mem_nil, or_false] at hc
    cases d with
    | _ => rcases hc with rfl | rfl | rfl | rfl | rfl <;> rfl
  have k2 : ∀ {d : PyData}, ∀ c ∈ kinds, ∀ c' ∈ kinds, PySem.W.kitAny K (.type (tyD d)) [.type c, .type c'] = some (isT (tyD d) c || isT (tyD d) c') := fun {d} c hc c' hc' => by
    simp only [kinds, List.mem_cons, List.not_mem_nil, or_false] at hc hc'
    cases d with
    | _ => rcases hc with rfl | rfl | rfl | rfl | rfl <;> rcases hc' with rfl | rfl | rfl | rfl | rfl <;> rfl
  cases h.dp S with
  | non => exact ⟨_, .non, k1 (d := .none), k2 (d := .none)⟩
  | bl b => exact ⟨_, .bl b, k1 (d := .bool b), k2 (d := .bool b)⟩
  | int i => exact ⟨_, .int i, k1 (d := .int i), k2 (d := .int i)⟩
  | str x => exact ⟨_, .str x, k1 (d := .str x), k2 (d := .str x)⟩
  | @lst _ _ ds h' _ => exact ⟨_, .lst (.inl h'), k1 (d := .list ds), k2 (d := .list ds)⟩
  | @tup _ _ ds h' _ => exact ⟨_, .tup h', k1 (d := .tuple ds), k2 (d := .tuple ds)⟩
  | @dct _ _ _ ds h' _ => exact ⟨_, .dct h', k1 (d := .dict ds), k2 (d := .dict ds)⟩
  | exc c _ h1 h2 _ =>
    refine ⟨_, .exc h1 h2 c.xc, fun k hk => (c.kd k hk).trans ?_, fun k hk k' hk' => (c.kd2 k hk k' hk').trans ?_⟩
    · simp only [kinds, List.mem_cons, List.not_mem_nil, or_false] at hk
      rcases hk with rfl | rfl | rfl | rfl | rfl <;> rfl
    · simp only [kinds, List.mem_cons, List.not_mem_nil, or_false] at hk hk'
      rcases hk with rfl | rfl | rfl | rfl | rfl <;> rcases hk' with rfl | rfl | rfl | rfl | rfl <;> rfl
def dIsi (c : String) (a : DE) : DE := fun ρ Q => a ρ fun x ρ1 => wi (rd ρ1 (frz x)) fun d => Q (.dat (.bool (isT (tyD d) c))) ρ1
def dIsi2 (c c' : String) (a : DE) : DE := fun ρ Q => a ρ fun x ρ1 => wi (rd ρ1 (frz x)) fun d => Q (.dat (.bool (isT (tyD d) c || isT (tyD d) c'))) ρ1
theorem q_isi {e2 : Expr} {c : String} (hm : X.mg "isinstance" = none) (hg : Gl X "isinstance") (ha : QE K X e fa) (hb : PE X e2 (tC (.ty c))) (hc : c ∈ kinds := by decide) (hK : X.K = K := by rfl)
    (hs : starEach [e, e2] X.env = (false, eval e X.env) :: starEach [e2] X.env := by rfl) (hs2 : starEach [e2] X.env = (false, eval e2 X.env) :: starEach [] X.env := by rfl) (hpl : (backTo pos (starEach [e2] X.env)).any (·.1) = false := by rfl) : QE K X (.Call (.Name "isinstance" p) [e, e2] [] pos) (dIsi c fa) := by
  with_unfolding_all
    refine PE.imp (pe_callB (isiK hK) hg hm bt_isinstance (pa_cons ha (pa_cons hb pa_nil hs2) hs) (by decide) (by decide) hs hpl) fun σ H Q ⟨C, Hs, ρ, QD, R, q, k⟩ => ?_
    refine ⟨C, Hs, ρ, _, R, q, fun x ρ1 v Hs1 H1 R1 S1 V1 q1 => ?_⟩
    obtain ⟨Hs1', R1', S1', V1'⟩ := V1.frz R1
    obtain ⟨d, e, q1⟩ := wi_some q1
    have rv := V1'.rd R1' e
    obtain ⟨T, ty, k1, _⟩ := tyO R1'.sub rv
    exact .inl ⟨v, T, .ty c, .type c, _, rfl, fun u hu => hu, ty, k1 c hc, k (.dat (.bool _)) ρ1 _ Hs1' H1 R1' (S1.trans S1') (.bl _) q1⟩
theorem q_isi2 {e2 e3 : Expr} {c c' : String} {k2 : Nat} {p3 : Pos} (hm : X.mg "isinstance" = none) (hg : Gl X "isinstance") (ha : QE K X e fa) (hb : PE X (.Tuple [e2, e3] k2 p3) (tTup (tCons (tC (.ty c)) (tCons (tC (.ty c')) tNil)))) (hc : c ∈ kinds := by decide) (hc' : c' ∈ kinds := by decide) (hK : X.K = K := by rfl)
    (hs : starEach [e, .Tuple [e2, e3] k2 p3] X.env = (false, eval e X.env) :: starEach [.Tuple [e2, e3] k2 p3] X.env := by rfl) (hs2 : starEach [.Tuple [e2, e3] k2 p3] X.env = (false, eval (.Tuple [e2, e3] k2 p3) X.env) :: starEach [] X.env := by rfl) (hpl : (backTo pos (starEach [.Tuple [e2, e3] k2 p3] X.env)).any (·.1) = false := by rfl) : QE K X (.Call (.Name "isinstance" p) [e, .Tuple [e2, e3] k2 p3] [] pos) (dIsi2 c c' fa) := by
  with_unfolding_all
    refine PE.imp (pe_callB (isiK hK) hg hm bt_isinstance (pa_cons ha (pa_cons hb pa_nil hs2) hs) (by decide) (by decide) hs hpl) fun σ H Q ⟨C, Hs, ρ, QD, R, q, k⟩ => ?_
    refine ⟨C, Hs, ρ, _, R, q, fun x ρ1 v Hs1 H1 R1 S1 V1 q1 => ?_⟩
    obtain ⟨Hs1', R1', S1', V1'⟩ := V1.frz R1
    obtain ⟨d, e, q1⟩ := wi_some q1
    refine ⟨(by show 2 ≤ sizeLine; decide), fun t ht => ?_⟩
    obtain ⟨R2, S2⟩ := R1'.laid ht (.tup [.ty c, .ty c'])
    have V2 : RVal K C (upd Hs1' t (.tup [.ty c, .ty c'])) (upd H1 t (.tup [.ty c, .ty c'])) σ ρ1 (DL.frz x) v := V1'.wait S2
    have rv := V2.rd R2 e
    obtain ⟨T, ty, _, k2⟩ := tyO R2.sub rv
    exact .inr ⟨v, T, t, [.ty c, .ty c'], [.type c, .type c'], _, rfl, ty, upd_same, fun us hu => by cases hu with | cons a r => cases r with | cons b r => cases r; cases a; cases b; rfl, k2 c hc c' hc', k (.dat (.bool _)) ρ1 _ _ _ R2 (S1.trans (S1'.trans S2)) (.bl _) q1⟩
end
end DL
namespace DL
open PySem L2 ZG
/-! ### stores -/
section
variable {X : Cx} {K : PySem.W.Frag} {C : Fc} {Hs H : Hp} {σ : St} {ρ : DEnv}
theorem set_lt {α : Type} {l : List α} {i : Nat} {s r : α} (e : (l.set i s)[i]? = some r) : i < l.length ∧ r = s := by
  rcases Nat.lt_or_ge i l.length with h | h
  · rw [List.getElem?_set_self h] at e
    exact ⟨h, (Option.some.inj e).symm⟩
  · rw [List.getElem?_eq_none (by rw [List.length_set]; exact h)] at e
    cases e
theorem ownAt_set {i j : Nat} {v : Option V} {s : Slot} {a : Addr} (hj : j ≠ i) : OwnAt (σ.set i v) (ρ.set i s) j a ↔ OwnAt σ ρ j a := by
  unfold OwnAt
  rw [List.getElem?_set_ne (Ne.symm hj), List.getElem?_set_ne (Ne.symm hj)]
theorem Rel.setD (R : Rel K C Hs H σ ρ) {i : Nat} {v : V} {d : PyData} (dq : Dq K Hs v d) : Rel K C Hs H (σ.set i (some v)) (ρ.set i (.dat d)) := by
  have ow : ∀ {j : Nat} {b : Addr}, OwnAt (σ.set i (some v)) (ρ.set i (.dat d)) j b → j ≠ i ∧ OwnAt σ ρ j b := fun {j b} o => by
    by_cases hj : j = i
    · subst hj
      obtain ⟨_, es, x | x⟩ := o <;> cases (set_lt x).2
    · exact ⟨hj, (ownAt_set hj).mp o⟩
  refine ⟨R.sub, by rw [List.length_set, List.length_set]; exact R.len, fun j r e => ?_, fun j l b x y => R.dis j l b (ow x).2 (ow y).2, R.fr, R.dom, R.gr⟩
  by_cases hj : j = i
  · subst hj
    obtain ⟨h1, rfl⟩ := set_lt e
    exact ⟨v, List.getElem?_set_self (by rw [R.len]; exact h1), dq⟩
  · rw [List.getElem?_set_ne (Ne.symm hj)] at e
    have x := R.slot j r e
    cases r with
    | no => exact x
    | dat d' => obtain ⟨w, y1, y2⟩ := x; exact ⟨w, by rw [List.getElem?_set_ne (Ne.symm hj)]; exact y1, y2⟩
    | own ds => obtain ⟨w, y1, y2⟩ := x; exact ⟨w, by rw [List.getElem?_set_ne (Ne.symm hj)]; exact y1, y2⟩
    | par ds => obtain ⟨w, y1, y2⟩ := x; exact ⟨w, by rw [List.getElem?_set_ne (Ne.symm hj)]; exact y1, y2⟩
    | fn _ => obtain ⟨w, y1, y2⟩ := x; exact ⟨w, by rw [List.getElem?_set_ne (Ne.symm hj)]; exact y1, y2⟩
theorem Rel.setO (R : Rel K C Hs H σ ρ) {i : Nat} {a : Addr} {ds : List PyData} (ol : OL K C Hs H a ds) (no : ∀ j, ¬ OwnAt σ ρ j a) : Rel K C Hs H (σ.set i (some (.ref a))) (ρ.set i (.own ds)) := by
  have ow : ∀ {j : Nat} {b : Addr}, OwnAt (σ.set i (some (.ref a))) (ρ.set i (.own ds)) j b → (j = i ∧ b = a) ∨ (j ≠ i ∧ b ≠ a ∧ OwnAt σ ρ j b) := fun {j b} o => by
    by_cases hj : j = i
    · subst hj
      have := (set_lt o.1).2
      cases this
      exact .inl ⟨rfl, rfl⟩
    · have o' := (ownAt_set hj).mp o
      exact .inr ⟨hj, fun z => no j (z ▸ o'), o'⟩
  refine ⟨R.sub, by rw [List.length_set, List.length_set]; exact R.len, fun j r e => ?_, fun j l b x y => ?_, R.fr, R.dom, R.gr⟩
  · by_cases hj : j = i
    · subst hj
      obtain ⟨h1, rfl⟩ := set_lt e
      exact ⟨a, List.getElem?_set_self (by rw [R.len]; exact h1), ol⟩
    · rw [List.getElem?_set_ne (Ne.symm hj)] at e
      have x := R.slot j r e
      cases r with
      | no => exact x
      | dat d' => obtain ⟨w, y1, y2⟩ := x; exact ⟨w, by rw [List.getElem?_set_ne (Ne.symm hj)]; exact y1, y2⟩
      | own ds => obtain ⟨w, y1, y2⟩ := x; exact ⟨w, by rw [List.getElem?_set_ne (Ne.symm hj)]; exact y1, y2⟩
      | par ds => obtain ⟨w, y1, y2⟩ := x; exact ⟨w, by rw [List.getElem?_set_ne (Ne.symm hj)]; exact y1, y2⟩
      | fn _ => obtain ⟨w, y1, y2⟩ := x; exact ⟨w, by rw [List.getElem?_set_ne (Ne.symm hj)]; exact y1, y2⟩
  · rcases ow x with ⟨rfl, h1⟩ | ⟨x1, x2, x3⟩ <;> rcases ow y with ⟨rfl, h2⟩ | ⟨y1, y2, y3⟩
    · rfl
    · exact absurd h1 y2
    · exact absurd h2 x2
    · exact R.dis j l b x3 y3
def stS (ρ : DEnv) (i : Nat) : Rv → Option DEnv
  | .dat d => some (ρ.set i (.dat d))
  | .new ds => some (ρ.set i (.own ds))
  | .bor j => match ρ[j]? with
    | some (.own ds) => some ((ρ.set j (.dat (.list ds))).set i (.dat (.list ds)))
    | some (.dat d) => some (ρ.set i (.dat d))
    | _ => none
theorem Rel.store (R : Rel K C Hs H σ ρ) {i : Nat} {x : Rv} {v : V} {ρ' : DEnv} (h : RVal K C Hs H σ ρ x v) (e : stS ρ i x = some ρ') : ∃ Hs', Rel K C Hs' H (σ.set i (some v)) ρ' ∧ Same Hs Hs' := by
  cases x with
  | dat d => cases e; exact ⟨Hs, R.setD h, Same.refl _⟩
  | new ds =>
    cases e
    obtain ⟨a, rfl, ol, no⟩ := h
    exact ⟨Hs, R.setO ol no, Same.refl _⟩
  | bor j =>
    have h : σ[j]? = some (some v) := h
    have e : (match ρ[j]? with
      | some (Slot.own ds) => some ((ρ.set j (.dat (.list ds))).set i (.dat (.list ds)))
      | some (Slot.dat d) => some (ρ.set i (.dat d))
      | _ => none) = some ρ' := e
    split at e
    · rename_i ds q
      cases e
      obtain ⟨Hs', R', S', w, ew, dq⟩ := R.freeze q
      rw [h] at ew
      cases ew
      exact ⟨Hs', R'.setD dq, S'⟩
    · rename_i d q
      cases e
      obtain ⟨w, ew, dq⟩ := R.slot j _ q
      rw [h] at ew
      cases ew
      exact ⟨Hs, R.setD dq, Same.refl _⟩
    · cases e
/-! ### statements -/
variable {e : Expr} {es : List Expr} {st : Stmt} {sts : List Stmt} {fa fb fo fi : DE} {ft : DT} {fs fu : DS} {pos : Pos}
def dNextS : DS := fun D ρ => D.nx ρ
def dBrk : DS := fun D ρ => D.bk ρ
def dCnt : DS := fun D ρ => D.ct ρ
def dSeq (t u : DS) : DS := fun D ρ => t { D with nx := u D } ρ
def dDrop (a : DE) : DS := fun D ρ => a ρ fun _ ρ1 => D.nx ρ1
def dRet (a : DE) : DS := fun D ρ => a ρ D.rt
def dRetN : DS := fun D ρ => D.rt (.dat .none) ρ
def dIfS (c : DT) (t u : DS) : DS := fun D ρ => c ρ fun b ρ1 => ifB b (t D ρ1) (u D ρ1)
def dSet (i : Nat) (a : DE) : DS := fun D ρ => a ρ fun x ρ1 => ws (stS ρ1 i x) D.nx
theorem qss_nil : QSs K X [] dNextS := by
  with_unfolding_all
    exact
      PSs.imp pss_nil fun D σ H ⟨C, Hs, ρ, DD, R, q, n, b, c, r⟩ => n σ ρ Hs H R (Same.refl _) q
theorem qss_one (h : QS K X st fs) : QSs K X [st] fs := by
  with_unfolding_all
    exact
      pss_one h
theorem qss_cons (h1 : QS K X st fs) (h2 : QSs K X sts fu) : QSs K X (st :: sts) (dSeq fs fu) := by
  with_unfolding_all
    refine PSs.imp (pss_cons h1 h2) fun D σ H ⟨C, Hs, ρ, DD, R, q, n, b, c, r⟩ => ?_
    refine ⟨C, Hs, ρ, _, R, q, fun σ' ρ' Hs' H' R' S' q' => ?_, b, c, r⟩
    exact ⟨C, Hs', ρ', DD, R', q', fun σ2 ρ2 Hs2 H2 R2 S2 => n σ2 ρ2 Hs2 H2 R2 (S'.trans S2), fun σ2 ρ2 Hs2 H2 R2 S2 => b σ2 ρ2 Hs2 H2 R2 (S'.trans S2), fun σ2 ρ2 Hs2 H2 R2 S2 => c σ2 ρ2 Hs2 H2 R2 (S'.trans S2), fun x v σ2 ρ2 Hs2 H2 R2 S2 => r x v σ2 ρ2 Hs2 H2 R2 (S'.trans S2)⟩
theorem qs_expr (h : QE K X e fa) (hs : swapsWith e none pos.line X.env = pure false := by rfl) : QS K X (.Expr e pos) (dDrop fa) := by
  with_unfolding_all
    refine PS.imp (ps_expr h hs) fun D σ H ⟨C, Hs, ρ, DD, R, q, n, b, c, r⟩ => ?_
    exact ⟨C, Hs, ρ, _, R, q, fun x ρ1 v Hs1 H1 R1 S1 V1 q1 => n σ ρ1 Hs1 H1 R1 S1 q1⟩
theorem qs_ret (h : QE K X e fa) : QS K X (.Return (some e) pos) (dRet fa) := by
  with_unfolding_all
    refine PS.imp (ps_ret h) fun D σ H ⟨C, Hs, ρ, DD, R, q, n, b, c, r⟩ => ?_
    exact ⟨C, Hs, ρ, _, R, q, fun x ρ1 v Hs1 H1 R1 S1 V1 q1 => r x v σ ρ1 Hs1 H1 R1 S1 V1 q1⟩
/-- what stands behind an upS, later -/
theorem upS_go {F : DS} {D : Ends} {DD : DEnds} {Hs1 H1 : Hp} {ρ1 : DEnv} (S : Same Hs Hs1) (R1 : Rel K C Hs1 H1 σ ρ1) (q : F DD ρ1) (n : ∀ σ' ρ' Hs' H', Rel K C Hs' H' σ' ρ' → Same Hs Hs' → DD.nx ρ' → D.nx σ' H') (b : ∀ σ' ρ' Hs' H', Rel K C Hs' H' σ' ρ' → Same Hs Hs' → DD.bk ρ' → D.bk σ' H')
    (c : ∀ σ' ρ' Hs' H', Rel K C Hs' H' σ' ρ' → Same Hs Hs' → DD.ct ρ' → D.ct σ' H') (r : ∀ x v σ' ρ' Hs' H', Rel K C Hs' H' σ' ρ' → Same Hs Hs' → RVal K C Hs' H' σ' ρ' x v → DD.rt x ρ' → D.rt v H') : upS K F D σ H1 :=
  ⟨C, Hs1, ρ1, DD, R1, q, fun σ2 ρ2 Hs2 H2 R2 S2 => n σ2 ρ2 Hs2 H2 R2 (S.trans S2), fun σ2 ρ2 Hs2 H2 R2 S2 => b σ2 ρ2 Hs2 H2 R2 (S.trans S2), fun σ2 ρ2 Hs2 H2 R2 S2 => c σ2 ρ2 Hs2 H2 R2 (S.trans S2), fun x v σ2 ρ2 Hs2 H2 R2 S2 => r x v σ2 ρ2 Hs2 H2 R2 (S.trans S2)⟩
theorem qs_if {c : Expr} {a b : List Stmt} (hc : QT K X c ft) (ha : QSs K X a fs) (hb : QSs K X b fu) : QS K X (.If c a b pos) (dIfS ft fs fu) := by
  with_unfolding_all
    refine PS.imp (ps_if hc ha hb) fun D σ H ⟨C, Hs, ρ, DD, R, q, n, b, c, r⟩ => ?_
    refine ⟨C, Hs, ρ, _, R, q, fun t ρ1 Hs1 H1 R1 S1 q1 => ?_⟩
    cases t with
    | true => exact iteT (upS_go S1 R1 q1 n b c r)
    | false => exact iteF (upS_go S1 R1 q1 n b c r)
theorem set_up {i : Nat} {D : Ends} (h : upS K (dSet i fa) D σ H) : tAsg (up K fa) (gName i) D σ H := by
  obtain ⟨C, Hs, ρ, DD, R, q, n, b, c, r⟩ := h
  refine ⟨C, Hs, ρ, _, R, q, fun x ρ1 v Hs1 H1 R1 S1 V1 q1 => ?_⟩
  obtain ⟨ρ2, e, q2⟩ := ws_some q1
  obtain ⟨Hs2, R2, S2⟩ := R1.store V1 e
  exact n _ ρ2 Hs2 H1 R2 (S1.trans S2) q2
theorem qs_set {i : Nat} {x : Str} {pos' : Pos} (hN : X.N.Nodup) (hi : X.N[i]? = some x) (hx : Loc X.env.scope x) (he : QE K X e fa) (hs : swapsWith e (some (.Name x pos')) pos.line X.env = pure false := by rfl) (hf : X.fn x = true ∨ X.env.scope.names.lookup x = some .local := by first | exact .inl rfl | exact .inr rfl | assumption) :
    QS K X (.Assign [.Name x pos'] e pos) (dSet i fa) := by
  with_unfolding_all
    exact
      PS.imp (ps_set hN hi hx he hs hf) fun D σ H h => set_up h
/-! targets -/
abbrev DG := PyData → DEnv → (DEnv → Prop) → Prop
abbrev DGs := List PyData → DEnv → (DEnv → Prop) → Prop
def upG (K : PySem.W.Frag) (g : DG) (t : TG) : Prop := ∀ (C : Fc) (Hs H : Hp) (σ : St) (ρ : DEnv) (v : V) (d : PyData) (QD : DEnv → Prop) (Q : St → Hp → Prop), Rel K C Hs H σ ρ → Dq K Hs v d → g d ρ QD → (∀ σ' ρ' Hs' H', Rel K C Hs' H' σ' ρ' → Same Hs Hs' → QD ρ' → Q σ' H') → t v σ H Q
def upGs (K : PySem.W.Frag) (g : DGs) (t : TGs) : Prop := ∀ (C : Fc) (Hs H : Hp) (σ : St) (ρ : DEnv) (vs : List V) (ds : List PyData) (QD : DEnv → Prop) (Q : St → Hp → Prop), Rel K C Hs H σ ρ → DqAll K Hs vs ds → g ds ρ QD → (∀ σ' ρ' Hs' H', Rel K C Hs' H' σ' ρ' → Same Hs Hs' → QD ρ' → Q σ' H') → t vs σ H Q
def gdName (i : Nat) : DG := fun d ρ Q => Q (ρ.set i (.dat d))
def gdNil : DGs := fun ds ρ Q => ds = [] ∧ Q ρ
def gdCons (g : DG) (u : DGs) : DGs := fun ds ρ Q => match ds with
  | d :: r => g d ρ fun ρ1 => u r ρ1 Q
  | [] => False
def gdTup (n : Nat) (u : DGs) : DG := fun d ρ Q => match d with
  | .tuple ds => ds.length = n ∧ u ds ρ Q
  | _ => False
theorem ug_name {i : Nat} : upG K (gdName i) (gName i) := fun C Hs H σ ρ v d QD Q R dq h k => k _ _ Hs H (R.setD dq) (Same.refl _) h
theorem ugs_nil : upGs K gdNil gNil := fun C Hs H σ ρ vs ds QD Q R dq h k => by
  obtain ⟨rfl, h⟩ := h
  cases dq
  exact ⟨rfl, k _ _ Hs H R (Same.refl _) h⟩
theorem ugs_cons {g : DG} {u : DGs} {t : TG} {w : TGs} (hg : upG K g t) (hu : upGs K u w) : upGs K (gdCons g u) (gCons t w) := fun C Hs H σ ρ vs ds QD Q R dq h k => by
  cases dq with
  | nil => exact h.elim
  | cons x xs =>
    refine ⟨_, _, rfl, hg C Hs H σ ρ _ _ _ _ R x h fun σ1 ρ1 Hs1 H1 R1 S1 q1 => ?_⟩
    exact hu C Hs1 H1 σ1 ρ1 _ _ _ _ R1 (dpa_same S1 xs) q1 fun σ2 ρ2 Hs2 H2 R2 S2 q2 => k σ2 ρ2 Hs2 H2 R2 (S1.trans S2) q2
theorem ug_tup {n : Nat} {u : DGs} {w : TGs} (hu : upGs K u w) : upG K (gdTup n u) (gTup K n w) := fun C Hs H σ ρ v d QD Q R dq h k => by
  cases dq with
  | tup sq xs =>
    obtain ⟨h1, h2⟩ := h
    exact ⟨_, _, rfl, seqT R.sub sq, by rw [dpa_len xs]; exact h1, hu C Hs H σ ρ _ _ _ _ R xs h2 k⟩
  | _ => exact h.elim
/-- target = e, the value as data -/
def dAsgG (a : DE) (g : DG) : DS := fun D ρ => a ρ fun x ρ1 => wf (frzs ρ1 [frz x]) fun ds ρ2 => match ds with
  | [d] => g d ρ2 D.nx
  | _ => False
theorem frz1 {x : Rv} {v : V} {ds : List PyData} {ρ' : DEnv} (R : Rel K C Hs H σ ρ) (h : RVal K C Hs H σ ρ x v) (e : frzs ρ [frz x] = some (ds, ρ')) : ∃ Hs' d, ds = [d] ∧ Rel K C Hs' H σ ρ' ∧ Same Hs Hs' ∧ Dq K Hs' v d := by
  obtain ⟨Hs1, R1, S1, V1⟩ := h.frz R
  obtain ⟨Hs2, R2, S2, a2⟩ := frzs_ok R1 (.cons (x := x) V1 .nil) e
  cases a2 with
  | cons y ys => cases ys; exact ⟨Hs2, _, rfl, R2, S1.trans S2, y⟩
theorem asg_up {g : DG} {t : TG} {D : Ends} (hg : upG K g t) (h : upS K (dAsgG fa g) D σ H) : tAsg (up K fa) t D σ H := by
  obtain ⟨C, Hs, ρ, DD, R, q, n, b, c, r⟩ := h
  refine ⟨C, Hs, ρ, _, R, q, fun x ρ1 v Hs1 H1 R1 S1 V1 q1 => ?_⟩
  obtain ⟨ds, ρ2, e, q2⟩ := wf_some q1
  obtain ⟨Hs2, d, rfl, R2, S2, dq⟩ := frz1 R1 V1 e
  exact hg C Hs2 H1 σ ρ2 v d _ _ R2 dq q2 fun σ3 ρ3 Hs3 H3 R3 S3 q3 => n σ3 ρ3 Hs3 H3 R3 (S1.trans (S2.trans S3)) q3
theorem qs_asg {tg : Expr} {g : DG} {t : TG} (he : QE K X e fa) (hp : PG X tg t) (hg : upG K g t) (hs : swapsWithSole [tg] e pos.line X.env = pure false := by rfl) (hw : swappedStores [tg] e X.env = pure none := by rfl)
    (h1 : (assignEach [tg] X.env).map (·.2) = [assign tg X.env] := by rfl) : QS K X (.Assign [tg] e pos) (dAsgG fa g) := by
  with_unfolding_all
    exact
      PS.imp (ps_asg he hp hs hw h1) fun D σ H h => asg_up hg h
/-- o[i] = e -/
def dPut (a o i : DE) : DS := fun D ρ => a ρ fun x ρ1 => wf (frzs ρ1 [frz x]) fun ds ρ2 => match ds with
  | [d] => o ρ2 fun y ρ3 => match y with
    | .bor j => i ρ3 fun z ρ4 => wi (rd ρ4 z) fun dz => asI dz fun k => ws (lst? ρ4 j) fun cs => ws (ixN cs.length k) fun n => D.nx (reS ρ4 j (cs.set n d))
    | _ => False
  | _ => False
theorem reS_set {i : Nat} {a : Addr} {ds ds' : List PyData} {us : List V} (R : Rel K C Hs H σ ρ) (ow : OwnAt σ ρ i a) (ol : OL K C Hs H a ds) (dq : DqAll K Hs us ds') : Rel K C Hs (upd H a (.lst us)) σ (reS ρ i ds') := by
  obtain ⟨vs, e1, e2, e3, e4⟩ := ol
  refine R.renew ow (fun b u q => ?_) (Same.refl _) (fun c o e ne => by rw [upd_ne ne]; exact e) (fun c e => ?_) (fun a' _ z _ => z) upd_same e2 dq
  · by_cases hb : b = a
    · subst hb; rw [e2] at q; cases q
    · rw [upd_ne hb]; exact R.sub _ _ q
  · by_cases hb : c = a
    · subst hb; rw [upd_same] at e; cases e
    · rw [upd_ne hb] at e; exact e
theorem put_up {D : Ends} (h : upS K (dPut fa fo fi) D σ H) : tAsg (up K fa) (gSub (up K fo) (up K fi) rSetL) D σ H := by
  obtain ⟨C, Hs, ρ, DD, R, q, n, b, c, r⟩ := h
  refine ⟨C, Hs, ρ, _, R, q, fun x ρ1 v Hs1 H1 R1 S1 V1 q1 => ?_⟩
  obtain ⟨ds, ρ2, e, q2⟩ := wf_some q1
  obtain ⟨Hs2, d, rfl, R2, S2, dq⟩ := frz1 R1 V1 e
  refine ⟨C, Hs2, ρ2, _, R2, q2, fun y ρ3 w Hs3 H3 R3 S3 V3 q3 => ?_⟩
  cases y with
  | bor j =>
    refine ⟨C, Hs3, ρ3, _, R3, q3, fun z ρ4 u Hs4 H4 R4 S4 V4 q4 => ?_⟩
    obtain ⟨dz, ez, q5⟩ := wi_some q4
    obtain ⟨k, rfl, q6⟩ := asI_of q5
    obtain ⟨cs, ec, q7⟩ := ws_some q6
    obtain ⟨m, em, q8⟩ := ws_some q7
    cases (V4.rd R4 ez).int
    obtain ⟨a, ow, ol⟩ := lst_own R4 ec
    have hw : σ[j]? = some (some w) := V3
    have := ow.1
    rw [hw] at this
    cases this
    obtain ⟨us, e1, e2, e3, e4⟩ := id ol
    refine ⟨a, us, k, m, rfl, rfl, e1, by rw [dpa_len e3]; exact em, ?_⟩
    exact n _ _ Hs4 _ (reS_set R4 ow ol (dpa_set (dp_same (S3.trans S4) dq) m e3)) (S1.trans (S2.trans (S3.trans S4))) q8
  | dat d' => exact q3.elim
  | new ds' => exact q3.elim
theorem qs_put {o i : Expr} {tpos : Pos} (he : QE K X e fa) (ho : QE K X o fo) (hi : QE K X i fi) (ha : ∀ v, assign (.Subscript o i tpos) X.env v = (do
      let ov ← holding [v] (eval o X.env)
      let iv ← holding [v, ov] (eval i X.env)
      standAt tpos
      holding [v, ov, iv] (setItem ov iv v)
      release [v, ov, iv] []) := by intro _; rfl) (hs : swapsWithSole [.Subscript o i tpos] e pos.line X.env = pure false := by rfl) (hw : swappedStores [.Subscript o i tpos] e X.env = pure none := by rfl)
    (h1 : (assignEach [.Subscript o i tpos] X.env).map (·.2) = [assign (.Subscript o i tpos) X.env] := by rfl) : QS K X (.Assign [.Subscript o i tpos] e pos) (dPut fa fo fi) := by
  with_unfolding_all
    exact
      PS.imp (ps_asg he (pg_sub ho hi set_list ha) hs hw h1) fun D σ H h => put_up h
/-- x += e, of ints -/
def dAugI (i : Nat) (a : DE) : DS := fun D ρ => match ρ[i]? with
  | some (.dat (.int j)) => a ρ fun x ρ1 => wi (rd ρ1 x) fun d => asI d fun k => D.nx (ρ1.set i (.dat (.int (j + k))))
  | _ => False
/-! while -/
def dWhile (c : DT) (b : DS) : DS := fun D ρ => ∃ W : Nat → DEnv → Prop, (∃ m, W m ρ) ∧ ∀ m ρ, W m ρ → c ρ fun t ρ1 => ifB t (∃ N : DEnv → Prop, (∀ ρ', N ρ' → ∃ m', m' < m ∧ W m' ρ') ∧ b { D with nx := N, ct := N, bk := D.nx } ρ1) (D.nx ρ1)
end
end DL
namespace DL
open PySem L2 ZG
/-! ### what is walked -/
abbrev DI := DEnv → (List PyData → DEnv → Prop) → Prop
def ItOk (K : PySem.W.Frag) (Hs0 : Hp) (J : It) (L : List PyData) : Prop := ∀ Hs H, Same Hs0 Hs → Same Hs H →
  (∀ k d, L[k]? = some d → J.go k H ∧ ∀ x H', J.yld k H x H' → (H' = H ∧ Dq K Hs x d) ∨ ∃ p vs ds, x = .ref p ∧ H p = none ∧ H' = upd H p (.tup vs) ∧ d = .tuple ds ∧ DqAll K Hs vs ds) ∧ J.stop L.length H
def upI (K : PySem.W.Frag) (F : DI) : TI := fun σ H R => ∃ C Hs ρ QD, Rel K C Hs H σ ρ ∧ F ρ QD ∧ ∀ L ρ' J Hs' H', Rel K C Hs' H' σ ρ' → Same Hs Hs' → ItOk K Hs' J L → QD L ρ' → R J H'
@[irreducible] def QI (K : PySem.W.Frag) (X : Cx) (tg e : Expr) (F : DI) : Prop := PI X tg e (upI K F)
section
variable {X : Cx} {K : PySem.W.Frag} {C : Fc} {Hs H : Hp} {σ : St} {ρ : DEnv} {e tg : Expr} {es : List Expr} {fa : DE} {fr : DA} {fs : DS} {ft : DT}
theorem PI.imp {t t' : TI} (h : PI X tg e t) (hi : ∀ σ H R, t' σ H R → t σ H R) : PI X tg e t' := fun pins s σ H R I q => h pins s σ H R I (hi _ _ _ q)
def iAny2 (K : PySem.W.Frag) (te : TE) : TI := fun σ H R => te σ H fun x H1 => (∃ a xs, x = .ref a ∧ SqL K H1 a xs ∧ R (Itl K a) H1) ∨ (∃ a xs, x = .ref a ∧ SqT K H1 a xs ∧ R (Itt K a) H1) ∨ (∃ z, x = .str z ∧ R (Its z) H1) ∨ ∃ d o kvs, x = .ref d ∧ H1 d = some (.frz o (.dK kvs)) ∧ R (Itk d o kvs) H1
theorem pi_any2 {te : TE} (he : PE X e te) (hK : X.K = K := by rfl) : PI X tg e (iAny2 K te) := by
  subst hK
  intro pins s σ H R I h
  refine thn (he pins s σ H _ I h) fun v s1 ⟨x, H1, I1, r1, q1⟩ => ?_
  rcases q1 with ⟨a, xs, rfl, hq, q⟩ | ⟨a, xs, rfl, hq, q⟩ | ⟨z, rfl, q⟩ | ⟨d, o, kvs, rfl, hd, q⟩
  · cases r1
    obtain ⟨its, rv, p, hz⟩ := I1.list hq
    refine wpAny_pyIter_list p.isList ?_
    refine ⟨s1.heap.objs.size, [s1.heap.objs.size], _, _, H1, rfl, I1.kept (t' := s1.toks) fun b o e => Heap.get?_push_of_some _ e, turn_list a _, ⟨_, Heap.get?_push_size _ rfl, rfl, rfl⟩, fun b hb => ?_, q⟩
    have e : b = s1.heap.objs.size := by simpa using hb
    subst e
    exact I1.fpOk (Nat.le_refl _) (I1.hok.fresh (Nat.le_refl _))
  · cases r1
    obtain ⟨its, rv, p, hz⟩ := I1.tuple hq
    refine wpAny_pyIter_tuple (show s1.heap.IsTuple a its.toArray from p) ?_
    refine ⟨s1.heap.objs.size, [s1.heap.objs.size], _, _, H1, rfl, I1.kept (t' := s1.toks) fun b o e => Heap.get?_push_of_some _ e, turn_tuple a _, ⟨_, Heap.get?_push_size _ rfl, rfl, rfl⟩, fun b hb => ?_, q⟩
    have e : b = s1.heap.objs.size := by simpa using hb
    subst e
    exact I1.fpOk (Nat.le_refl _) (I1.hok.fresh (Nat.le_refl _))
  · obtain ⟨t, rfl⟩ := r1
    cases ha : z.cps.all (· < 128)
    · exact wpAny_pyIter_wide ha (pi_one (tk := s1.toks) I1 _ (turn_str _ z t "str_iterator" (.inr rfl)) ⟨_, Heap.get?_push_size _ rfl, rfl, rfl⟩ q)
    · exact wpAny_pyIter_ascii ha (pi_one (tk := s1.toks) I1 _ (turn_str _ z t "str_ascii_iterator" (.inl rfl)) ⟨_, Heap.get?_push_size _ rfl, rfl, rfl⟩ q)
  · obtain rfl : v = Value.ref d := r1
    obtain ⟨hs, hgd, hx, es, ep, vs, hdt, hsz, kv, hm⟩ := I1.frzK hd
    refine iter_keys hs hgd hx hdt (pi_one (tk := s1.toks) I1 _ (turn_keys _ hdt) ⟨_, Heap.get?_push_size _ rfl, rfl, ?_⟩ q)
    rw [hsz] <;> rfl
def chD (c : Nat) : PyData := .str ⟨#[c]⟩
def itemsD : PyData → Option (List PyData)
  | .list ds => some ds
  | .tuple ds => some ds
  | .str z => some (z.cps.toList.map chD)
  | .dict kvs => if plD kvs = true then some (kvs.map (·.1)) else none
  | _ => none
theorem dpk_get : ∀ {kvs : List (Key × V)} {ds : List (PyData × PyData)} {i : Nat} {d : PyData}, DqKv K H kvs ds → (ds.map (·.1))[i]? = some d → ∃ x v, kvs[i]? = some (.inr x, v) ∧ d = .str x
  | _, _, _, _, .nil, e => by simp at e
  | _, _, 0, _, .cons h _, e => by simp at e; subst e; exact ⟨_, _, rfl, rfl⟩
  | _, _, i + 1, d, .cons _ t, e => by
    obtain ⟨x, v, h1, h2⟩ := dpk_get (i := i) (d := d) t (by simpa using e)
    exact ⟨x, v, by simpa using h1, h2⟩
theorem dpk_len : ∀ {kvs : List (Key × V)} {ds : List (PyData × PyData)}, DqKv K H kvs ds → kvs.length = ds.length
  | _, _, .nil => rfl
  | _, _, .cons _ t => by rw [List.length_cons, List.length_cons, dpk_len t]
def one? (ds : List PyData) (k : PyData → Prop) : Prop := match ds with
  | [d] => k d
  | _ => False
theorem one_of {ds : List PyData} {k : PyData → Prop} (h : one? ds k) : ∃ d, ds = [d] ∧ k d := by
  unfold one? at h
  split at h
  · exact ⟨_, rfl, h⟩
  · exact h.elim
def dWalk (a : DE) : DI := fun ρ Q => a ρ fun x ρ1 => wf (frzs ρ1 [frz x]) fun ds ρ2 => one? ds fun d => ws (itemsD d) fun L => Q L ρ2
theorem qi_walk (h : QE K X e fa) (hK : X.K = K := by rfl) : QI K X tg e (dWalk fa) := by
  with_unfolding_all
    refine PI.imp (pi_any2 h hK) fun σ H R ⟨C, Hs, ρ, QD, R0, q, k⟩ => ?_
    refine ⟨C, Hs, ρ, _, R0, q, fun x ρ1 v Hs1 H1 R1 S1 V1 q1 => ?_⟩
    obtain ⟨ds, ρ2, e, q2⟩ := wf_some q1
    obtain ⟨Hs2, d, rfl, R2, S2, dq⟩ := frz1 R1 V1 e
    obtain ⟨d', e', q3⟩ := one_of q2
    cases e'
    obtain ⟨L, eL, q4⟩ := ws_some q3
    have S02 := S1.trans S2
    cases dq with
    | @lst a vs ds hr da =>
      cases eL
      refine .inl ⟨a, vs, rfl, .inl (rd_same R2.sub hr), k _ ρ2 _ Hs2 H1 R2 S02 ?_ q4⟩
      intro Hs' H' S S'
      have sq : SqL K H' a vs := .inl (rd_same (S.trans S') hr)
      refine ⟨fun i d e => ?_, ⟨vs, sq, Nat.le_of_eq (dpa_len da)⟩⟩
      obtain ⟨w, e1, e2⟩ := dpa_get' da e
      refine ⟨⟨vs, w, sq, e1⟩, fun x H2 ⟨y1, y2⟩ => .inl ⟨y1, ?_⟩⟩
      have := y2 vs sq
      rw [e1] at this
      cases this
      exact dp_same S e2
    | @tup a vs ds hr da =>
      cases eL
      refine .inr (.inl ⟨a, vs, rfl, seqT R2.sub hr, k _ ρ2 _ Hs2 H1 R2 S02 ?_ q4⟩)
      intro Hs' H' S S'
      have sq : SqT K H' a vs := seqT (S.trans S') hr
      refine ⟨fun i d e => ?_, ⟨vs, sq, Nat.le_of_eq (dpa_len da)⟩⟩
      obtain ⟨w, e1, e2⟩ := dpa_get' da e
      refine ⟨⟨vs, w, sq, e1⟩, fun x H2 ⟨y1, y2⟩ => .inl ⟨y1, ?_⟩⟩
      have := y2 vs sq
      rw [e1] at this
      cases this
      exact dp_same S e2
    | str z =>
      cases eL
      refine .inr (.inr (.inl ⟨z, rfl, k _ ρ2 _ Hs2 H1 R2 S02 ?_ q4⟩))
      intro Hs' H' S S'
      refine ⟨fun i d e => ?_, by show z.cps.size ≤ _; simp⟩
      rw [List.getElem?_map] at e
      obtain ⟨c, e1, rfl⟩ := Option.map_eq_some_iff.mp e
      have e2 : z.cps[i]? = some c := by rw [← e1]; simp
      refine ⟨?_, fun x H2 ⟨y1, c', y2, y3⟩ => .inl ⟨y1, ?_⟩⟩
      · show i < z.cps.size
        rcases Nat.lt_or_ge i z.cps.size with h | h
        · exact h
        · rw [Array.getElem?_eq_none h] at e2; cases e2
      · rw [e2] at y2
        cases y2
        rw [y3]
        exact .str _
    | exc _ _ _ _ _ => cases eL
    | @dct a od kvs ds hr da =>
      obtain rfl : ds.map (·.1) = L := by
        have hp : plD ds = true := by cases da <;> rfl
        unfold itemsD at eL
        simp only [hp, if_true, Option.some.injEq] at eL
        exact eL
      refine .inr (.inr (.inr ⟨a, od, kvs, rfl, R2.sub _ _ hr, k _ ρ2 _ Hs2 H1 R2 S02 ?_ q4⟩))
      intro Hs' H' S S'
      have hH : H' a = some (.frz od (.dK kvs)) := S' _ _ (S _ _ hr)
      refine ⟨fun i d e => ?_, ⟨hH, by rw [List.length_map, dpk_len da]; exact Nat.le_refl _⟩⟩
      obtain ⟨x, v, e1, rfl⟩ := dpk_get da e
      refine ⟨⟨hH, ?_⟩, fun x' H2 ⟨y1, k', v', y2, y3⟩ => .inl ⟨y1, ?_⟩⟩
      · rcases Nat.lt_or_ge i kvs.length with h | h
        · exact h
        · rw [List.getElem?_eq_none h] at e1; cases e1
      · rw [e1] at y2
        cases y2
        rw [y3]
        exact .str _
    | non => cases eL
    | bl b => cases eL
    | int i => cases eL
def intsD (lo : Int) (n : Nat) : List PyData := (List.range n).map fun k : Nat => .int (lo + (k : Int))
theorem it_range {lo : Int} {n : Nat} : ItOk K Hs (Itr lo n) (intsD lo n) := by
  intro Hs' H' S S'
  have l : (intsD lo n).length = n := by unfold intsD; simp
  refine ⟨fun k d e => ?_, by show n ≤ _; rw [l]; exact Nat.le_refl _⟩
  have hk : k < n := by
    rcases Nat.lt_or_ge k n with h | h
    · exact h
    · rw [List.getElem?_eq_none (by rw [l]; exact h)] at e; cases e
  refine ⟨hk, fun x H2 ⟨y1, y2⟩ => .inl ⟨y1, ?_⟩⟩
  unfold intsD at e
  rw [List.getElem?_map, List.getElem?_range hk] at e
  cases e
  rw [y2]
  exact .int _
def asInts (ds : List PyData) : Option (List Int) := match ds with
  | [] => some []
  | .int i :: r => (asInts r).map (i :: ·)
  | _ => none
def dRange1 (r : DA) : DI := fun ρ Q => r ρ fun xs ρ1 => ws (rds ρ1 xs) fun ds => one? ds fun d => asI d fun j => (-(2 ^ 62) ≤ j ∧ j < 2 ^ 62) ∧ Q (intsD 0 j.toNat) ρ1
def two? (ds : List PyData) (k : PyData → PyData → Prop) : Prop := match ds with
  | [d, e] => k d e
  | _ => False
theorem two_of {ds : List PyData} {k : PyData → PyData → Prop} (h : two? ds k) : ∃ d e, ds = [d, e] ∧ k d e := by
  unfold two? at h
  split at h
  · exact ⟨_, _, rfl, h⟩
  · exact h.elim
def dRange2 (r : DA) : DI := fun ρ Q => r ρ fun xs ρ1 => ws (rds ρ1 xs) fun ds => two? ds fun d e => asI d fun i => asI e fun j => (-(2 ^ 62) ≤ i ∧ i < 2 ^ 62 ∧ -(2 ^ 62) ≤ j ∧ j < 2 ^ 62) ∧ Q (intsD i (j - i).toNat) ρ1
theorem qi_range1 {a : Expr} {p pos : Pos} (hg : Gl X "range") (hm : X.mg "range" = none) (ha : QA K X [a] fr) (hs : starEach [a] X.env = [(false, eval a X.env)] := by rfl) : QI K X tg (.Call (.Name "range" p) [a] [] pos) (dRange1 fr) := by
  with_unfolding_all
    refine PI.imp (pi_range1 hg hm ha hs) fun σ H R ⟨C, Hs, ρ, QD, R0, q, k⟩ => ?_
    refine ⟨C, Hs, ρ, _, R0, q, fun xs ρ1 vs Hs1 H1 R1 S1 V1 q1 => ?_⟩
    obtain ⟨ds, e, q2⟩ := ws_some q1
    obtain ⟨d, rfl, q3⟩ := one_of q2
    obtain ⟨j, rfl, q4, q5⟩ := asI_of q3
    obtain ⟨v, rfl, hv⟩ := (rds_ok R1 V1 e).one
    cases hv.int
    exact ⟨j, rfl, q4.1, q4.2, k _ ρ1 _ Hs1 H1 R1 S1 it_range q5⟩
def enumD (ds : List PyData) : List PyData := ds.zipIdx.map fun p => .tuple [.int (p.2 : Nat), p.1]
def dEnum (r : DA) : DI := fun ρ Q => r ρ fun xs ρ1 => wf (frzs ρ1 xs) fun ds ρ2 => one? ds fun d => match d with
  | .list cs => Q (enumD cs) ρ2
  | _ => False
theorem qi_enum {a : Expr} {p pos tpos : Pos} {elts : List Expr} {kk : Nat} (hg : Gl X "enumerate") (hm : X.mg "enumerate" = none) (ha : QA K X [a] fr) (hK : X.K = K := by rfl) (hs : starEach [a] X.env = [(false, eval a X.env)] := by rfl) : QI K X (.Tuple elts kk tpos) (.Call (.Name "enumerate" p) [a] [] pos) (dEnum fr) := by
  with_unfolding_all
    subst hK
    refine PI.imp (pi_enum hg hm ha hs) fun σ H R ⟨C, Hs, ρ, QD, R0, q, k⟩ => ?_
    refine ⟨C, Hs, ρ, _, R0, q, fun xs ρ1 vs Hs1 H1 R1 S1 V1 q1 => ?_⟩
    obtain ⟨ds, ρ2, e, q2⟩ := wf_some q1
    obtain ⟨Hs2, R2, S2, a2⟩ := frzs_ok R1 V1 e
    obtain ⟨d, rfl, q3⟩ := one_of q2
    cases a2 with
    | cons dq rest =>
      cases rest
      cases dq with
      | @lst a vs ds hr da =>
        refine ⟨a, vs, rfl, .inl (rd_same R2.sub hr), k _ ρ2 _ Hs2 H1 R2 (S1.trans S2) ?_ q3⟩
        intro Hs' H' S S'
        have sq : SqL X.K H' a vs := .inl (rd_same (S.trans S') hr)
        refine ⟨fun i d e => ?_, ⟨vs, sq, by unfold enumD; simp [dpa_len da]⟩⟩
        unfold enumD at e
        rw [List.getElem?_map, List.getElem?_zipIdx] at e
        obtain ⟨p', e1, rfl⟩ := Option.map_eq_some_iff.mp e
        obtain ⟨x, e2, rfl⟩ := Option.map_eq_some_iff.mp e1
        obtain ⟨w, e3, e4⟩ := dpa_get' da e2
        refine ⟨⟨vs, w, sq, e3⟩, fun y H2 ⟨T, z, y1, y2, y3, y4⟩ => .inr ⟨T, _, _, y1, y2, y3, rfl, ?_⟩⟩
        have := y4 vs sq
        rw [e3] at this
        cases this
        refine .cons ?_ (.cons (dp_same S e4) .nil)
        show Dq X.K Hs' (.int (i : Nat)) (.int ((0 + i : Nat) : Int))
        rw [Nat.zero_add]
        exact .int _
      | _ => exact q3.elim
def zipD (xs ys : List PyData) : List PyData := (xs.zip ys).map fun p => .tuple [p.1, p.2]
def seq? : PyData → Option (List PyData)
  | .list ds => some ds
  | .tuple ds => some ds
  | _ => none
def dZip (r : DA) : DI := fun ρ Q => r ρ fun xs ρ1 => wf (frzs ρ1 xs) fun ds ρ2 => two? ds fun d e => ws (seq? d) fun cs => ws (seq? e) fun es => Q (zipD cs es) ρ2
theorem seq_ok {v : V} {d : PyData} {ds : List PyData} (h : Dq K Hs v d) (e : seq? d = some ds) : ∃ a c vs, v = .ref a ∧ (∀ H, Same Hs H → SqA K H a c vs) ∧ DqAll K Hs vs ds := by
  cases h with
  | lst hr da => cases e; exact ⟨_, false, _, rfl, fun H S => .inl (rd_same S hr), da⟩
  | tup hr da => cases e; exact ⟨_, true, _, rfl, fun H S => seqT S hr, da⟩
  | _ => cases e
theorem qi_zip {a b : Expr} {p pos tpos : Pos} {elts : List Expr} {kk : Nat} (hg : Gl X "zip") (hm : X.mg "zip" = none) (ha : QA K X [a, b] fr) (hK : X.K = K := by rfl) (hs : starEach [a, b] X.env = (false, eval a X.env) :: starEach [b] X.env := by rfl) (hpl : (backTo pos (starEach [b] X.env)).any (·.1) = false := by rfl) :
    QI K X (.Tuple elts kk tpos) (.Call (.Name "zip" p) [a, b] [] pos) (dZip fr) := by
  with_unfolding_all
    subst hK
    refine PI.imp (pi_zipA hg hm ha hs hpl) fun σ H R ⟨C, Hs, ρ, QD, R0, q, k⟩ => ?_
    refine ⟨C, Hs, ρ, _, R0, q, fun xs ρ1 vs Hs1 H1 R1 S1 V1 q1 => ?_⟩
    obtain ⟨ds, ρ2, e, q2⟩ := wf_some q1
    obtain ⟨Hs2, R2, S2, a2⟩ := frzs_ok R1 V1 e
    obtain ⟨d, d', rfl, q3⟩ := two_of q2
    obtain ⟨cs, ec, q4⟩ := ws_some q3
    obtain ⟨es, ee, q5⟩ := ws_some q4
    cases a2 with
    | cons dq rest =>
      cases rest with
      | cons dq2 rest =>
        cases rest
        obtain ⟨a, c, us, rfl, sa, da⟩ := seq_ok dq ec
        obtain ⟨b, c2, ws, rfl, sb, db⟩ := seq_ok dq2 ee
        refine ⟨a, b, c, c2, us, ws, rfl, sa _ R2.sub, sb _ R2.sub, k _ ρ2 _ Hs2 H1 R2 (S1.trans S2) ?_ q5⟩
        intro Hs' H' S S'
        have l1 := dpa_len da
        have l2 := dpa_len db
        refine ⟨fun i d e => ?_, ⟨sa _ (S.trans S'), sb _ (S.trans S'), ?_⟩⟩
        · unfold zipD at e
          rw [List.getElem?_map] at e
          obtain ⟨p', e1, rfl⟩ := Option.map_eq_some_iff.mp e
          obtain ⟨e2, e3⟩ := List.getElem?_zip_eq_some.mp e1
          obtain ⟨w1, e4, e5⟩ := dpa_get' da e2
          obtain ⟨w2, e6, e7⟩ := dpa_get' db e3
          have i1 : i < us.length := by
            rcases Nat.lt_or_ge i us.length with h | h
            · exact h
            · rw [List.getElem?_eq_none h] at e4; cases e4
          have i2 : i < ws.length := by
            rcases Nat.lt_or_ge i ws.length with h | h
            · exact h
            · rw [List.getElem?_eq_none h] at e6; cases e6
          refine ⟨⟨sa _ (S.trans S'), sb _ (S.trans S'), i1, i2⟩, fun y H2 ⟨T, x, z, y1, y2, y3, y4, y5⟩ => .inr ⟨T, _, _, y1, y2, y3, rfl, ?_⟩⟩
          rw [e4] at y4
          rw [e6] at y5
          cases y4
          cases y5
          exact .cons (dp_same S e5) (.cons (dp_same S e7) .nil)
        · unfold zipD
          rw [List.length_map, List.length_zip]
          omega
/-! ### for -/
def forL (g : DG) (b : DS) : List PyData → DEnds → DEnv → Prop
  | [], D, ρ => D.nx ρ
  | d :: L, D, ρ => g d ρ fun ρ2 => b { D with nx := forL g b L D, ct := forL g b L D, bk := D.nx } ρ2
def dFor (it : DI) (g : DG) (b : DS) : DS := fun D ρ => it ρ fun L ρ1 => forL g b L D ρ1
theorem drop_at {α : Type} {L : List α} {i : Nat} (h : i < L.length) : ∃ d, L[i]? = some d ∧ L.drop i = d :: L.drop (i + 1) := ⟨L[i], List.getElem?_eq_getElem h, List.drop_eq_getElem_cons h⟩
/-- one item has come -/
theorem item_ok {J : It} {L : List PyData} {Hs0 Hs H : Hp} {k : Nat} {d : PyData} {x : V} {H' : Hp} (ok : ItOk K Hs0 J L) (R : Rel K C Hs H σ ρ) (S : Same Hs0 Hs) (e : L[k]? = some d) (y : J.yld k H x H') : ∃ Hs', Rel K C Hs' H' σ ρ ∧ Same Hs Hs' ∧ Dq K Hs' x d := by
  rcases ((ok Hs H S R.sub).1 k d e).2 x H' y with ⟨rfl, dq⟩ | ⟨p, vs, ds, rfl, hp, rfl, rfl, dq⟩
  · exact ⟨Hs, R, Same.refl _, dq⟩
  · obtain ⟨R', S', V'⟩ := newT R hp dq
    exact ⟨_, R', S', V'⟩
theorem qs_for {iter : Expr} {body : List Stmt} {pos : Pos} {fi : DI} {g : DG} {t : TG} (hp : PassesOwn (model X.prog X.w) X.A X.env X.xe) (hc : X.calm = true) (hi : QI K X tg iter fi) (hg : PG X tg t) (ug : upG K g t) (hb : QSs K X body fs)
    (hs : ∀ x, foldedSetIterable iter X.env x = pure x := by intro _; rfl) : QS K X (.For tg iter body [] pos) (dFor fi g fs) := by
  with_unfolding_all
    refine PS.imp (ps_for hp hc hi hg hb hs) fun D σ H ⟨C, Hs, ρ, DD, R, q, n, b, ct, r⟩ => ?_
    refine ⟨C, Hs, ρ, _, R, q, fun L ρ1 J Hs1 H1 R1 S1 ok q1 => ?_⟩
    refine ⟨fun i m σ' H' => m = L.length - i ∧ i ≤ L.length ∧ ∃ ρ' Hs', Rel K C Hs' H' σ' ρ' ∧ Same Hs1 Hs' ∧ forL g fs (L.drop i) DD ρ', ⟨_, rfl, Nat.zero_le _, ρ1, Hs1, R1, Same.refl _, q1⟩, ?_⟩
    rintro i m σ2 H2 ⟨rfl, hle, ρ2, Hs2, R2, S2, q2⟩
    by_cases hi : i < L.length
    · obtain ⟨d, ed, el⟩ := drop_at hi
      rw [el] at q2
      refine .inr ⟨((ok Hs2 H2 S2 R2.sub).1 i d ed).1, fun σ' H' => ∃ ρ' Hs', Rel K C Hs' H' σ' ρ' ∧ Same Hs1 Hs' ∧ forL g fs (L.drop (i + 1)) DD ρ', fun σ' H' z => ⟨L.length - (i + 1), by omega, rfl, hi, z⟩, fun x H' y => ?_⟩
      obtain ⟨Hs3, R3, S3, dq⟩ := item_ok ok R2 S2 ed y
      refine ug C Hs3 H' σ2 ρ2 x d _ _ R3 dq q2 fun σ4 ρ4 Hs4 H4 R4 S4 q4 => ?_
      have S14 := S2.trans (S3.trans S4)
      have S04 := S1.trans S14
      exact ⟨C, Hs4, ρ4, _, R4, q4, fun σ5 ρ5 Hs5 H5 R5 S5 q5 => ⟨ρ5, Hs5, R5, S14.trans S5, q5⟩, fun σ5 ρ5 Hs5 H5 R5 S5 q5 => n σ5 ρ5 Hs5 H5 R5 (S04.trans S5) q5, fun σ5 ρ5 Hs5 H5 R5 S5 q5 => ⟨ρ5, Hs5, R5, S14.trans S5, q5⟩, fun x v σ5 ρ5 Hs5 H5 R5 S5 V5 q5 => r x v σ5 ρ5 Hs5 H5 R5 (S04.trans S5) V5 q5⟩
    · have e : i = L.length := by omega
      subst e
      rw [List.drop_length] at q2
      exact .inl ⟨(ok Hs2 H2 S2 R2.sub).2, n σ2 ρ2 Hs2 H2 R2 (S1.trans S2) q2⟩
/-- a loop by an invariant over what is left -/
theorem forL_inv {g : DG} {b : DS} {D : DEnds} (Pv : List PyData → DEnv → Prop) (hs : ∀ d L ρ, Pv (d :: L) ρ → (∀ ρ', Pv L ρ' → forL g b L D ρ') → g d ρ fun ρ2 => b { D with nx := forL g b L D, ct := forL g b L D, bk := D.nx } ρ2) (hd : ∀ ρ, Pv [] ρ → D.nx ρ) : ∀ (L : List PyData) (ρ : DEnv), Pv L ρ → forL g b L D ρ
  | [], ρ, h => hd ρ h
  | d :: L, ρ, h => hs d L ρ h fun ρ' h' => forL_inv Pv hs hd L ρ' h'
end
end DL
namespace DL
open PySem L2 ZG
/-! ### comprehensions -/
section
variable {X : Cx} {K : PySem.W.Frag} {C : Fc} {Hs H : Hp} {σ : St} {ρ : DEnv} {e tg : Expr} {fa : DE} {fs : DS} {ft : DT}
def dWipe (ρ : DEnv) : List Nat → DEnv
  | [] => ρ
  | v :: vs => (dWipe ρ vs).set v .no
def dBack (ρ0 ρ : DEnv) : List Nat → DEnv
  | [] => ρ
  | v :: vs => (dBack ρ0 ρ vs).set v (ρ0.getD v .no)
def keepable (ρ : DEnv) (vs : List Nat) : Bool := vs.all fun v => match ρ[v]? with
  | some (.own _) => false
  | some (.par _) => false
  | some (.fn _) => false
  | _ => true
theorem wipe_out {vs : List Nat} {j : Nat} (h : j ∉ vs) : (wipe σ vs)[j]? = σ[j]? := by
  induction vs with
  | nil => rfl
  | cons v vs ih =>
    simp only [List.mem_cons, not_or] at h
    unfold wipe
    rw [List.getElem?_set_ne (Ne.symm h.1), ih h.2]
theorem wipe_in {vs : List Nat} {j : Nat} (h : j ∈ vs) (hl : j < σ.length) : (wipe σ vs)[j]? = some none := by
  induction vs with
  | nil => cases h
  | cons v vs ih =>
    unfold wipe
    by_cases hv : v = j
    · subst hv
      exact List.getElem?_set_self (by rw [wipe_length]; exact hl)
    · rw [List.getElem?_set_ne hv]
      exact ih ((List.mem_cons.mp h).resolve_left fun z => hv z.symm)
theorem dWipe_len {vs : List Nat} : (dWipe ρ vs).length = ρ.length := by
  induction vs with
  | nil => rfl
  | cons v vs ih => unfold dWipe; rw [List.length_set, ih]
theorem dWipe_out {vs : List Nat} {j : Nat} (h : j ∉ vs) : (dWipe ρ vs)[j]? = ρ[j]? := by
  induction vs with
  | nil => rfl
  | cons v vs ih =>
    simp only [List.mem_cons, not_or] at h
    unfold dWipe
    rw [List.getElem?_set_ne (Ne.symm h.1), ih h.2]
theorem dWipe_in {vs : List Nat} {j : Nat} {r : Slot} (h : j ∈ vs) (hr : (dWipe ρ vs)[j]? = some r) : r = .no := by
  induction vs with
  | nil => cases h
  | cons v vs ih =>
    unfold dWipe at hr
    by_cases hv : v = j
    · subst hv
      exact (set_lt hr).2
    · rw [List.getElem?_set_ne hv] at hr
      exact ih ((List.mem_cons.mp h).resolve_left fun z => hv z.symm) hr
theorem dBack_len {ρ0 : DEnv} {vs : List Nat} : (dBack ρ0 ρ vs).length = ρ.length := by
  induction vs with
  | nil => rfl
  | cons v vs ih => unfold dBack; rw [List.length_set, ih]
theorem dBack_out {ρ0 : DEnv} {vs : List Nat} {j : Nat} (h : j ∉ vs) : (dBack ρ0 ρ vs)[j]? = ρ[j]? := by
  induction vs with
  | nil => rfl
  | cons v vs ih =>
    simp only [List.mem_cons, not_or] at h
    unfold dBack
    rw [List.getElem?_set_ne (Ne.symm h.1), ih h.2]
theorem dBack_in {ρ0 : DEnv} {vs : List Nat} {j : Nat} {r : Slot} (h : j ∈ vs) (hr : (dBack ρ0 ρ vs)[j]? = some r) : r = ρ0.getD j .no := by
  induction vs with
  | nil => cases h
  | cons v vs ih =>
    unfold dBack at hr
    by_cases hv : v = j
    · subst hv
      exact (set_lt hr).2
    · rw [List.getElem?_set_ne hv] at hr
      exact ih ((List.mem_cons.mp h).resolve_left fun z => hv z.symm) hr
theorem keep_at {ρ0 : DEnv} {vs : List Nat} {j : Nat} (k : keepable ρ0 vs = true) (h : j ∈ vs) : ρ0.getD j .no = .no ∨ ∃ d, ρ0.getD j .no = .dat d ∧ ρ0[j]? = some (.dat d) := by
  have := List.all_eq_true.mp k j h
  rw [List.getD_eq_getElem?_getD]
  cases e : ρ0[j]? with
  | none => exact .inl rfl
  | some r =>
    rw [e] at this
    cases r with
    | no => exact .inl rfl
    | dat d => exact .inr ⟨d, rfl, rfl⟩
    | own _ => cases this
    | par _ => cases this
    | fn _ => cases this
theorem Rel.wiped (R : Rel K C Hs H σ ρ) (vs : List Nat) : Rel K C Hs H (wipe σ vs) (dWipe ρ vs) := by
  have ow : ∀ {j : Nat} {a : Addr}, OwnAt (wipe σ vs) (dWipe ρ vs) j a → OwnAt σ ρ j a := fun {j a} ⟨x1, ds, x2⟩ => by
    by_cases hj : j ∈ vs
    · rcases x2 with x2 | x2 <;> cases dWipe_in hj x2
    · rw [wipe_out hj] at x1
      rw [dWipe_out hj] at x2
      exact ⟨x1, ds, x2⟩
  refine ⟨R.sub, by rw [wipe_length, dWipe_len]; exact R.len, fun j r e => ?_, fun i j a x y => R.dis i j a (ow x) (ow y), R.fr, R.dom, R.gr⟩
  by_cases hj : j ∈ vs
  · cases dWipe_in hj e
    exact True.intro
  · rw [dWipe_out hj] at e
    have x := R.slot j r e
    cases r with
    | no => exact x
    | dat d => obtain ⟨v, y1, y2⟩ := x; exact ⟨v, by rw [wipe_out hj]; exact y1, y2⟩
    | own ds => obtain ⟨v, y1, y2⟩ := x; exact ⟨v, by rw [wipe_out hj]; exact y1, y2⟩
    | par ds => obtain ⟨v, y1, y2⟩ := x; exact ⟨v, by rw [wipe_out hj]; exact y1, y2⟩
    | fn _ => obtain ⟨v, y1, y2⟩ := x; exact ⟨v, by rw [wipe_out hj]; exact y1, y2⟩
theorem own_unwiped {σ2 : St} {ρ0 ρ5 : DEnv} {vs : List Nat} {j : Nat} {a : Addr} (hw : wipe σ2 vs = wipe σ vs) (k : keepable ρ0 vs = true) (o : OwnAt σ (dBack ρ0 ρ5 vs) j a) : OwnAt σ2 ρ5 j a := by
  have out : ∀ {j : Nat}, j ∉ vs → σ2[j]? = σ[j]? := fun {j} h => by rw [← wipe_out (σ := σ2) h, hw, wipe_out h]
  obtain ⟨x1, ds, x2⟩ := o
  by_cases hj : j ∈ vs
  · rcases x2 with x2 | x2
    · have := dBack_in hj x2
      rcases keep_at k hj with z | ⟨d, z, _⟩ <;> rw [z] at this <;> cases this
    · have := dBack_in hj x2
      rcases keep_at k hj with z | ⟨d, z, _⟩ <;> rw [z] at this <;> cases this
  · rw [← out hj] at x1
    rw [dBack_out hj] at x2
    exact ⟨x1, ds, x2⟩
theorem Rel.unwiped {σ2 : St} {ρ0 ρ5 : DEnv} {vs : List Nat} (R : Rel K C Hs H σ2 ρ5) (hw : wipe σ2 vs = wipe σ vs) (k : keepable ρ0 vs = true) (hd : ∀ (j : Nat) (d : PyData), ρ0[j]? = some (Slot.dat d) → ∃ v, σ[j]? = some (some v) ∧ Dq K Hs v d) : Rel K C Hs H σ (dBack ρ0 ρ5 vs) := by
  have hl : σ2.length = σ.length := by rw [← wipe_length σ2 vs, hw, wipe_length]
  have out : ∀ {j : Nat}, j ∉ vs → σ2[j]? = σ[j]? := fun {j} h => by rw [← wipe_out (σ := σ2) h, hw, wipe_out h]
  have ow : ∀ {j : Nat} {a : Addr}, OwnAt σ (dBack ρ0 ρ5 vs) j a → OwnAt σ2 ρ5 j a := fun {j a} o => own_unwiped hw k o
  refine ⟨R.sub, by rw [dBack_len, ← R.len, hl], fun j r e => ?_, fun i j a x y => R.dis i j a (ow x) (ow y), R.fr, R.dom, R.gr⟩
  by_cases hj : j ∈ vs
  · have := dBack_in hj e
    rcases keep_at k hj with z | ⟨d, z, z'⟩
    · rw [z] at this; subst this; exact True.intro
    · rw [z] at this
      subst this
      exact hd j d z'
  · rw [dBack_out hj] at e
    have x := R.slot j r e
    cases r with
    | no => exact x
    | dat d => obtain ⟨v, y1, y2⟩ := x; exact ⟨v, by rw [← out hj]; exact y1, y2⟩
    | own ds => obtain ⟨v, y1, y2⟩ := x; exact ⟨v, by rw [← out hj]; exact y1, y2⟩
    | par ds => obtain ⟨v, y1, y2⟩ := x; exact ⟨v, by rw [← out hj]; exact y1, y2⟩
    | fn _ => obtain ⟨v, y1, y2⟩ := x; exact ⟨v, by rw [← out hj]; exact y1, y2⟩
/-- an object that no slot and no data has, changed -/
theorem Rel.poke (R : Rel K C Hs H σ ρ) {D : Addr} (o : HO) (h0 : C.H0 D = none) (hs : Hs D = none) (hn : ∀ j, ¬ OwnAt σ ρ j D) : Rel K C Hs (upd H D o) σ ρ := by
  have ol : ∀ {i : Nat} {a : Addr} {ds : List PyData}, OwnAt σ ρ i a → OL K C Hs H a ds → OL K C Hs (upd H D o) a ds := fun {i a ds} ow ⟨vs, e1, e2, e3, e4⟩ =>
    ⟨vs, by rw [upd_ne (show a ≠ D from fun z => hn i (z ▸ ow))]; exact e1, e2, e3, e4⟩
  refine ⟨fun b u q => ?_, R.len, fun i r e => ?_, R.dis, fun c u e n => ?_, fun c e => ?_, R.gr⟩
  · by_cases hb : b = D
    · subst hb; rw [hs] at q; cases q
    · rw [upd_ne hb]; exact R.sub _ _ q
  · have x := R.slot i r e
    cases r with
    | no => exact x
    | dat d => exact x
    | own ds => obtain ⟨a, y1, y2⟩ := x; exact ⟨a, y1, ol ⟨y1, ds, .inl e⟩ y2⟩
    | par ds => obtain ⟨a, y1, y', y2⟩ := x; exact ⟨a, y1, y', ol ⟨y1, ds, .inr e⟩ y2⟩
    | fn _ => exact x
  · by_cases hb : c = D
    · subst hb; rw [h0] at e; cases e
    · rw [upd_ne hb]; exact R.fr c u e n
  · by_cases hb : c = D
    · subst hb; rw [upd_same] at e; cases e
    · rw [upd_ne hb] at e; exact R.dom c e
/-- a target's stores stay within the block's own names -/
def GLoc (t : TG) (vs : List Nat) : Prop := ∀ v σ H Q, t v σ H Q → t v σ H (fun σ' H' => wipe σ' vs = wipe σ vs ∧ Q σ' H')
def GsLoc (t : TGs) (vs : List Nat) : Prop := ∀ v σ H Q, t v σ H Q → t v σ H (fun σ' H' => wipe σ' vs = wipe σ vs ∧ Q σ' H')
def GMon (t : TG) : Prop := ∀ v σ H (Q Q' : St → Hp → Prop), (∀ σ' H', Q σ' H' → Q' σ' H') → t v σ H Q → t v σ H Q'
def GsMon (t : TGs) : Prop := ∀ v σ H (Q Q' : St → Hp → Prop), (∀ σ' H', Q σ' H' → Q' σ' H') → t v σ H Q → t v σ H Q'
theorem gm_name {i : Nat} : GMon (gName i) := fun v σ H Q Q' k h => k _ _ h
theorem gsm_nil : GsMon gNil := fun v σ H Q Q' k h => ⟨h.1, k _ _ h.2⟩
theorem gsm_cons {t : TG} {u : TGs} (ht : GMon t) (hu : GsMon u) : GsMon (gCons t u) := fun v σ H Q Q' k ⟨x, r, e, h⟩ => ⟨x, r, e, ht _ _ _ _ _ (fun _ _ z => hu _ _ _ _ _ k z) h⟩
theorem gm_tup {n : Nat} {u : TGs} (hu : GsMon u) : GMon (gTup K n u) := fun v σ H Q Q' k ⟨a, xs, e, s, l, h⟩ => ⟨a, xs, e, s, l, hu _ _ _ _ _ k h⟩
theorem wipe_set {i : Nat} {x : Option V} {vs : List Nat} (h : i ∈ vs) : wipe (σ.set i x) vs = wipe σ vs := by
  apply List.ext_getElem?
  intro j
  by_cases hj : j ∈ vs
  · by_cases hl : j < σ.length
    · rw [wipe_in hj hl, wipe_in hj (by rw [List.length_set]; exact hl)]
    · rw [List.getElem?_eq_none (by rw [wipe_length, List.length_set]; omega), List.getElem?_eq_none (by rw [wipe_length]; omega)]
  · rw [wipe_out hj, wipe_out hj, List.getElem?_set_ne (show i ≠ j from fun z => hj (z ▸ h))]
theorem gl_name {i : Nat} {vs : List Nat} (h : i ∈ vs) : GLoc (gName i) vs := fun v σ H Q q => ⟨wipe_set h, q⟩
theorem gls_nil {vs : List Nat} : GsLoc gNil vs := fun v σ H Q q => ⟨q.1, rfl, q.2⟩
theorem gls_cons {t : TG} {u : TGs} {vs : List Nat} (ht : GLoc t vs) (hm : GMon t) (hu : GsLoc u vs) (hum : GsMon u) : GsLoc (gCons t u) vs := fun v σ H Q ⟨x, r, e, q⟩ =>
  ⟨x, r, e, hm _ _ _ _ _ (fun σ' H' ⟨w, z⟩ => hum _ _ _ _ _ (fun σ2 H2 ⟨w2, z2⟩ => ⟨w2.trans w, z2⟩) (hu _ _ _ _ z)) (ht _ _ _ _ q)⟩
theorem gl_tup {n : Nat} {u : TGs} {vs : List Nat} (hu : GsLoc u vs) : GLoc (gTup K n u) vs := fun v σ H Q ⟨a, xs, e, s, l, q⟩ => ⟨a, xs, e, s, l, hu _ _ _ _ q⟩
def dYes : DT := fun ρ Q => Q true ρ
@[irreducible] def QTs (K : PySem.W.Frag) (X : Cx) (ifs : List Expr) (F : DT) : Prop := PTs X ifs (upT K F)
theorem PTs.imp {ifs : List Expr} {t t' : TT} (h : PTs X ifs t) (hi : ∀ σ H Q, t' σ H Q → t σ H Q) : PTs X ifs t' := fun pins s σ H Q I q => h pins s σ H Q I (hi _ _ _ q)
theorem qts_nil : QTs K X [] dYes := by
  with_unfolding_all
    exact
      PTs.imp pts_nil fun σ H Q ⟨C, Hs, ρ, QD, R, q, k⟩ => k true ρ Hs H R (Same.refl _) q
theorem qts_one {c : Expr} (h : QT K X c ft) : QTs K X [c] ft := by
  with_unfolding_all
    exact
      pts_one h
def lcL (g : DG) (t : DT) (e : DE) (vs : List Nat) (ρ0 : DEnv) : List PyData → List PyData → DEnv → (List PyData → DEnv → Prop) → Prop
  | [], acc, ρ, Q => Q acc ρ
  | d :: L, acc, ρ, Q => g d (dWipe ρ vs) fun ρ2 => t ρ2 fun b ρ3 => ifB b (e ρ3 fun y ρ4 => wf (frzs ρ4 [frz y]) fun ys ρ5 => one? ys fun z => acc.length < sizeLine ∧ lcL g t e vs ρ0 L (acc ++ [z]) (dBack ρ0 ρ5 vs) Q) (lcL g t e vs ρ0 L acc (dBack ρ0 ρ3 vs) Q)
def dLc (it : DI) (g : DG) (t : DT) (e : DE) (vs : List Nat) : DE := fun ρ Q => it ρ fun L ρ1 => keepable ρ1 vs = true ∧ lcL g t e vs ρ1 L [] ρ1 fun acc ρ2 => Q (.new acc) ρ2
theorem wipe_wipe {vs : List Nat} : wipe (wipe σ vs) vs = wipe σ vs := by
  apply List.ext_getElem?
  intro j
  by_cases hj : j ∈ vs
  · by_cases hl : j < σ.length
    · rw [wipe_in hj hl, wipe_in hj (by rw [wipe_length]; exact hl)]
    · rw [List.getElem?_eq_none (by rw [wipe_length, wipe_length]; omega), List.getElem?_eq_none (by rw [wipe_length]; omega)]
  · rw [wipe_out hj]
def LcI (K : PySem.W.Frag) (C : Fc) (Hs1 : Hp) (σ : St) (D : Addr) (P : List PyData → DEnv → Prop) (H' : Hp) : Prop :=
  ∃ ρ' Hs' acc us, Rel K C Hs' H' σ ρ' ∧ Same Hs1 Hs' ∧ H' D = some (.lst us) ∧ Hs' D = none ∧ DqAll K Hs' us acc ∧ (∀ j, ¬ OwnAt σ ρ' j D) ∧ P acc ρ'
/-- one turn -/
theorem lc_turn {g : DG} {t : TG} {vs : List Nat} {ρ0 : DEnv} {D : Addr} {Hs1 Hs2 H' : Hp} {ρ2 : DEnv} {acc : List PyData} {us : List V} {x : V} {d : PyData} {P : List PyData → DEnv → Prop} (ug : upG K g t) (gl : GLoc t vs) (gm : GMon t) (h0 : C.H0 D = none) (kp : keepable ρ0 vs = true)
    (hd : ∀ (j : Nat) (d : PyData), ρ0[j]? = some (Slot.dat d) → ∃ v, σ[j]? = some (some v) ∧ Dq K Hs1 v d) (R3 : Rel K C Hs2 H' σ ρ2) (S2 : Same Hs1 Hs2) (e3 : H' D = some (.lst us)) (n3 : Hs2 D = none) (d3 : DqAll K Hs2 us acc) (o3 : ∀ j, ¬ OwnAt σ ρ2 j D) (dq : Dq K Hs2 x d)
    (q : g d (dWipe ρ2 vs) fun ρ3 => ft ρ3 fun b ρ4 => ifB b (fa ρ4 fun y ρ5 => wf (frzs ρ5 [frz y]) fun ys ρ6 => one? ys fun z => acc.length < sizeLine ∧ P (acc ++ [z]) (dBack ρ0 ρ6 vs)) (P acc (dBack ρ0 ρ4 vs))) :
    t x (wipe σ vs) H' fun σ2 H2 => wipe σ2 vs = wipe σ vs ∧ upT K ft σ2 H2 fun b H3 => if b = true then up K fa σ2 H3 fun y H4 => ∃ acc, H4 D = some (.lst acc) ∧ acc.length < sizeLine ∧ LcI K C Hs1 σ D P (upd H4 D (.lst (acc ++ [y]))) else LcI K C Hs1 σ D P H3 := by
  have RW := R3.wiped vs
  have ND : ¬ (C.now Hs2 H' (wipe σ vs) (dWipe ρ2 vs)).O D := fun ⟨j, x1, ds, x2⟩ => by
    by_cases hj : j ∈ vs
    · rcases x2 with x2 | x2 <;> cases dWipe_in hj x2
    · rw [wipe_out hj] at x1
      rw [dWipe_out hj] at x2
      exact o3 j ⟨x1, ds, x2⟩
  have HD : (C.now Hs2 H' (wipe σ vs) (dWipe ρ2 vs)).H0 D = some (.lst us) := e3
  have fin : ∀ {Hs' H'' : Hp} {σ' : St} {ρ' : DEnv}, Rel K (C.now Hs2 H' (wipe σ vs) (dWipe ρ2 vs)) Hs' H'' σ' ρ' → H'' D = some (.lst us) ∧ Hs' D = none ∧ ∀ j, ¬ OwnAt σ' ρ' j D := fun {Hs' H'' σ' ρ'} R' => by
    refine ⟨R'.fr D _ HD ND, R'.gr D (by rw [HD]; exact fun z => by cases z) n3 ND, fun j o => ?_⟩
    rcases R'.owned o with z | z
    · exact ND z
    · rw [HD] at z; cases z
  have main : t x (wipe σ vs) H' fun σ2 H2 => wipe σ2 vs = wipe σ vs → upT K ft σ2 H2 fun b H3 => if b = true then up K fa σ2 H3 fun y H4 => ∃ acc, H4 D = some (.lst acc) ∧ acc.length < sizeLine ∧ LcI K C Hs1 σ D P (upd H4 D (.lst (acc ++ [y]))) else LcI K C Hs1 σ D P H3 := by
    refine ug _ Hs2 H' _ _ x d _ _ RW.now dq q fun σ4 ρ4 Hs4 H4 R4 S4 q4 hw => ?_
    refine ⟨_, Hs4, ρ4, _, R4, q4, fun b ρ5 Hs5 H5 R5 S5 q5 => ?_⟩
    cases b with
    | true =>
      refine iteT ⟨_, Hs5, ρ5, _, R5, q5, fun y ρ6 v Hs6 H6 R6 S6 V6 q6 => ?_⟩
      obtain ⟨ys, ρ7, ey, q7⟩ := wf_some q6
      obtain ⟨Hs7, z, rfl, R7, S7, dz⟩ := frz1 R6 V6 ey
      obtain ⟨z', e', hl, q8⟩ := one_of q7
      cases e'
      obtain ⟨f1, f2, f3⟩ := fin R7
      have S27 := S4.trans (S5.trans (S6.trans S7))
      have RP := (RW.back R7).poke (.lst (us ++ [v])) h0 f2 f3
      have RU := RP.unwiped (σ := σ) hw kp fun j d e => let ⟨w, w1, w2⟩ := hd j d e; ⟨w, w1, dp_same (S2.trans S27) w2⟩
      exact ⟨us, f1, by rw [dpa_len d3]; exact hl, _, Hs7, acc ++ [z], us ++ [v], RU, S2.trans S27, upd_same, f2, dpa_app (dpa_same S27 d3) (.cons dz .nil), fun j o => f3 j (own_unwiped hw kp o), q8⟩
    | false =>
      obtain ⟨f1, f2, f3⟩ := fin R5
      have S25 := S4.trans S5
      have RU := (RW.back R5).unwiped (σ := σ) hw kp fun j d e => let ⟨w, w1, w2⟩ := hd j d e; ⟨w, w1, dp_same (S2.trans S25) w2⟩
      exact iteF ⟨_, Hs5, acc, us, RU, S2.trans S25, f1, f2, dpa_same S25 d3, fun j o => f3 j (own_unwiped hw kp o), q5⟩
  have := gl x (wipe σ vs) H' _ main
  rw [wipe_wipe] at this
  exact gm _ _ _ _ _ (fun σ' H' ⟨z1, z2⟩ => ⟨z1, z2 z1⟩) this
theorem lc_up {fi : DI} {g : DG} {t : TG} {vs : List Nat} {Q : VK} (ug : upG K g t) (gl : GLoc t vs) (gm : GMon t) (h : up K (dLc fi g ft fa vs) σ H Q) : tLc (upI K fi) t (upT K ft) (up K fa) vs σ H Q := by
  obtain ⟨C, Hs, ρ, QD, R, q, k⟩ := h
  refine ⟨C, Hs, ρ, _, R, q, fun L ρ1 J Hs1 H1 R1 S1 ok ⟨kp, q1⟩ D hD => ?_⟩
  have h0 : C.H0 D = none := R1.dom D hD
  have no1 : ∀ j, ¬ OwnAt σ ρ1 j D := fun j o => by
    obtain ⟨_, z, _⟩ := R1.own o
    exact z.ne hD rfl
  refine ⟨fun i m H' => m = L.length - i ∧ i ≤ L.length ∧ LcI K C Hs1 σ D (fun acc ρ' => lcL g ft fa vs ρ1 (L.drop i) acc ρ' (fun acc ρ2 => QD (.new acc) ρ2)) H',
    ⟨_, rfl, Nat.zero_le _, ρ1, Hs1, [], [], R1.laid0 hD _, Same.refl _, upd_same, R1.sub.free hD, .nil, no1, q1⟩, ?_⟩
  rintro i m H2 ⟨rfl, hle, ρ2, Hs2, acc, us, R2, S2, e2, n2, d2, o2, q2⟩
  by_cases hi : i < L.length
  · obtain ⟨d, ed, el⟩ := drop_at hi
    rw [el] at q2
    refine .inr ⟨((ok Hs2 H2 S2 R2.sub).1 i d ed).1, LcI K C Hs1 σ D (fun acc ρ' => lcL g ft fa vs ρ1 (L.drop (i + 1)) acc ρ' (fun acc ρ2 => QD (.new acc) ρ2)), fun H' z => ⟨L.length - (i + 1), by omega, rfl, hi, z⟩, fun x H' y => ?_⟩
    obtain ⟨Hs3, R3, S3, dq, e3, n3⟩ : ∃ Hs', Rel K C Hs' H' σ ρ2 ∧ Same Hs2 Hs' ∧ Dq K Hs' x d ∧ H' D = some (.lst us) ∧ Hs' D = none := by
      rcases ((ok Hs2 H2 S2 R2.sub).1 i d ed).2 x H' y with ⟨rfl, dq⟩ | ⟨p, vs', ds', rfl, hp, rfl, rfl, dq⟩
      · exact ⟨Hs2, R2, Same.refl _, dq, e2, n2⟩
      · obtain ⟨R', S', V'⟩ := newT R2 hp dq
        exact ⟨_, R', S', V', by rw [upd_ne (ne_of_none e2 hp)]; exact e2, by rw [upd_ne (ne_of_none e2 hp)]; exact n2⟩
    exact lc_turn ug gl gm h0 kp (fun j d e => let ⟨w, w1, w2⟩ := R1.slot j _ e; ⟨w, w1, w2⟩) R3 (S2.trans S3) e3 n3 (dpa_same S3 d2) o2 dq q2
  · have e : i = L.length := by omega
    subst e
    rw [List.drop_length] at q2
    exact .inl ⟨(ok Hs2 H2 S2 R2.sub).2, k (.new acc) ρ2 _ Hs2 H2 R2 (S1.trans S2) ⟨D, rfl, ⟨us, e2, n2, d2, .inr h0⟩, o2⟩ q2⟩
theorem q_lc {elt iter : Expr} {ifs : List Expr} {scope : Scope} {own : List (Str × Nat)} {pos : Pos} {fi : DI} {g : DG} {t : TG} (ug : upG K g t) (gl : GLoc t (own.map (·.2))) (gm : GMon t) (hc : X.calm = true) (hN : X.N.Nodup) (hi : QI K X tg iter fi) (ok : BlkOk X.N X.env.scope scope own)
    (hg : ∀ (s : Shared) (H : Hp) (C : Addr) (cl : List (Str × Addr)) (fp : List Addr), PG (X.blk s H scope (compEnvC scope cl C X.env) fp) tg t) (ht : ∀ (s : Shared) (H : Hp) (C : Addr) (cl : List (Str × Addr)) (fp : List Addr), QTs K (X.blk s H scope (compEnvC scope cl C X.env) fp) ifs ft)
    (he : ∀ (s : Shared) (H : Hp) (C : Addr) (cl : List (Str × Addr)) (fp : List Addr), QE K (X.blk s H scope (compEnvC scope cl C X.env) fp) elt fa) (hs : ∀ x, foldedSetIterable iter X.env x = pure x := by intro _; rfl) :
    QE K X (.ListComp elt [⟨tg, iter, ifs, 0⟩] scope pos) (dLc fi g ft fa (own.map (·.2))) := by
  with_unfolding_all
    exact
      PE.imp (pe_lc hc hN hi ok hg ht he hs) fun σ H Q h => lc_up ug gl gm h
end
end DL
namespace L2
open PySem PySem.Spec PyProof.Rows
section
variable {X : Cx} {K : PySem.W.Frag}
/-- l.extend(b), b a list that is read -/
def rExtend2 : V → List V → Hp → VK → Prop := fun x vs H Q => ∃ l b xs zs, x = .ref l ∧ vs = [.ref b] ∧ H l = some (.lst xs) ∧ Rd H b (.lst zs) ∧ xs.length + zs.length ≤ sizeLine ∧ Q .non (upd H l (.lst (xs ++ zs)))
end
end L2
namespace DL
open PySem L2 ZG
section
variable {X : Cx} {K : PySem.W.Frag} {C : Fc} {Hs H : Hp} {σ : St} {ρ : DEnv} {o e : Expr} {es : List Expr} {fo fa : DE} {fr : DA} {apos cpos pos : Pos} {name : Str} {id : String}
/-! ### methods of a slot's list -/
abbrev MF := List PyData → List PyData → Option (PyData × List PyData)
def LMut (r : V → List V → Hp → VK → Prop) (f : MF) : Prop := ∀ (K : PySem.W.Frag) (Hs H : Hp) (l : Addr) (us : List V) (cs : List PyData) (vs : List V) (as : List PyData) (d : PyData) (cs' : List PyData) (Q : VK), Same Hs H → H l = some (.lst us) → DqAll K Hs us cs → DqAll K Hs vs as → f cs as = some (d, cs') →
  (∀ v us', Dq K Hs v d → DqAll K Hs us' cs' → Q v (upd H l (.lst us'))) → r (.ref l) vs H Q
def bor1? (x : Rv) (k : Nat → Prop) : Prop := match x with
  | .bor i => k i
  | _ => False
theorem bor1_of {x : Rv} {k : Nat → Prop} (h : bor1? x k) : ∃ i, x = .bor i ∧ k i := by
  cases x with
  | bor i => exact ⟨i, rfl, h⟩
  | dat d => exact h.elim
  | new ds => exact h.elim
def dMut (f : MF) (o : DE) (r : DA) : DE := fun ρ Q => o ρ fun x ρ1 => bor1? x fun i => (lst? ρ1 i).isSome = true ∧ r ρ1 fun xs ρ2 => wf (frzs ρ2 xs) fun as ρ3 => ws (lst? ρ3 i) fun cs => ws (f cs as) fun p => Q (.dat p.1) (reS ρ3 i p.2)
theorem mut_fin {f : MF} {r : V → List V → Hp → VK → Prop} {Q : VK} {QD : Rv → DEnv → Prop} {Hs0 : Hp} (hm : LMut r f) (R : Rel K C Hs H σ ρ) (S : Same Hs0 Hs) {i : Nat} {v : V} {vs : List V} {as cs : List PyData} {p : PyData × List PyData} (hv : σ[i]? = some (some v)) (a : DqAll K Hs vs as) (el : lst? ρ i = some cs) (ef : f cs as = some p) (q : QD (.dat p.1) (reS ρ i p.2))
    (k : ∀ x ρ' v Hs' H', Rel K C Hs' H' σ ρ' → Same Hs0 Hs' → RVal K C Hs' H' σ ρ' x v → QD x ρ' → Q v H') : r v vs H Q := by
  obtain ⟨b, ow, ol⟩ := lst_own R el
  have := ow.1
  rw [hv] at this
  cases this
  obtain ⟨us, e1, e2, e3, e4⟩ := _root_.id ol
  obtain ⟨d, cs'⟩ := p
  refine hm K Hs H b us cs vs as d cs' Q R.sub e1 e3 a ef fun w us' dw du => ?_
  exact k (.dat d) _ w Hs _ (reS_set R ow ol du) S dw q
theorem slot_list (R : Rel K C Hs H σ ρ) {i : Nat} {v : V} (hv : σ[i]? = some (some v)) (h : (lst? ρ i).isSome = true) : tyV K "list" v H := by
  obtain ⟨cs, e⟩ := Option.isSome_iff_exists.mp h
  obtain ⟨b, ow, us, e1, _⟩ := lst_own R e
  have := ow.1
  rw [hv] at this
  cases this
  exact .inl ⟨rfl, us, .inl (.inl e1)⟩
theorem q_mut {f : MF} {r : V → List V → Hp → VK → Prop} (pa : PlainAttrs "list") (slot : PySem.Slot "list" name id) (hty : typeOf (.builtin id) = pure (.type "method_descriptor")) (hm : MtR X id r) (lm : LMut r f) (ho : QE K X o fo) (ha : QA K X (e :: es) fr) (hK : X.K = K := by rfl)
    (hbase : attributeBase o name X.env (eval o X.env) = eval o X.env := by rfl)
    (hfew : ((backTo cpos (starEach (e :: es) X.env)).all (fun x => !x.1) && (backToKw cpos (keywordEach [] X.env)).all (fun x => x.1.isSome)
      && decide ((e :: es).length + ([] : List Keyword).length + (if ([] : List Keyword).isEmpty then 0 else 1) < 30)) = true := by rfl)
    (hline : (apos.endLine == cpos.line) = true := by rfl) (hs : starEach (e :: es) X.env = (false, eval e X.env) :: starEach es X.env := by rfl) (hplain : (backTo cpos (starEach es X.env)).any (·.1) = false := by rfl) :
    QE K X (.Call (.Attribute o name apos) (e :: es) [] cpos) (dMut f fo fr) := by
  with_unfolding_all
    subst hK
    refine PE.imp (pe_bm pa slot hty hm ho ha hbase hfew hline hs hplain) fun σ H Q ⟨C, Hs, ρ, QD, R, q, k⟩ => ?_
    refine ⟨C, Hs, ρ, _, R, q, fun x ρ1 v Hs1 H1 R1 S1 V1 q1 => ?_⟩
    obtain ⟨i, rfl, q2, q3⟩ := bor1_of q1
    refine ⟨slot_list R1 V1 q2, C, Hs1, ρ1, _, R1, q3, fun xs ρ2 vs Hs2 H2 R2 S2 V2 q4 => ?_⟩
    obtain ⟨as, ρ3, ef, q5⟩ := wf_some q4
    obtain ⟨Hs3, R3, S3, a3⟩ := frzs_ok R2 V2 ef
    obtain ⟨cs, el, q6⟩ := ws_some q5
    obtain ⟨p, ep, q7⟩ := ws_some q6
    exact mut_fin lm R3 (S1.trans (S2.trans S3)) V1 a3 el ep q7 k
def dMut0 (f : MF) (o : DE) : DE := fun ρ Q => o ρ fun x ρ1 => bor1? x fun i => ws (lst? ρ1 i) fun cs => ws (f cs []) fun p => Q (.dat p.1) (reS ρ1 i p.2)
def mAppend : MF := fun cs as => match as with
  | [d] => if cs.length < sizeLine then some (.none, cs ++ [d]) else none
  | _ => none
theorem lm_append : LMut rAppend mAppend := by
  intro K Hs H l us cs vs as d cs' Q S hl da dv e k
  unfold mAppend at e
  split at e
  · rename_i y
    split at e
    · rename_i hz
      cases e
      cases dv with
      | cons dy dn =>
        cases dn
        exact ⟨l, us, _, rfl, rfl, hl, by rw [dpa_len da]; exact hz, k _ _ .non (dpa_app da (.cons dy .nil))⟩
    · cases e
  · cases e
def mExtend : MF := fun cs as => match as with
  | [.list ds] => if cs.length + ds.length ≤ sizeLine then some (.none, cs ++ ds) else none
  | _ => none
def mPop : MF := fun cs as => match as with
  | [] => match cs[cs.length - 1]? with
    | some d => some (d, cs.dropLast)
    | none => none
  | _ => none
def mPop0 : MF := fun cs as => match as with
  | [.int 0] => match cs with
    | d :: r => some (d, r)
    | [] => none
  | _ => none
def mReverse : MF := fun cs as => match as with
  | [] => some (.none, cs.reverse)
  | _ => none
theorem q_append (ho : QE K X o fo) (ha : QA K X [e] fr) (hK : X.K = K := by rfl) (hbase : attributeBase o "append" X.env (eval o X.env) = eval o X.env := by rfl)
    (hfew : ((backTo cpos (starEach [e] X.env)).all (fun x => !x.1) && (backToKw cpos (keywordEach [] X.env)).all (fun x => x.1.isSome)
      && decide ([e].length + ([] : List Keyword).length + (if ([] : List Keyword).isEmpty then 0 else 1) < 30)) = true := by rfl)
    (hline : (apos.endLine == cpos.line) = true := by rfl) (hs : starEach [e] X.env = (false, eval e X.env) :: starEach [] X.env := by rfl) (hplain : (backTo cpos (starEach [] X.env)).any (·.1) = false := by rfl) : QE K X (.Call (.Attribute o "append" apos) [e] [] cpos) (dMut mAppend fo fr) := by
  with_unfolding_all
    exact
      q_mut PySem.F.plainAttrs_list PySem.F.slot_list_append PySem.F.type_list_append mt_append lm_append ho ha hK hbase hfew hline hs hplain
/-! ### methods of a text -/
abbrev SF := Str → PyData → (Rv → Prop) → Prop
def asS (d : PyData) (k : Str → Prop) : Prop := match d with
  | .str z => k z
  | _ => False
def StrM (K : PySem.W.Frag) (r : V → List V → Hp → VK → Prop) (f : SF) : Prop := ∀ (C : Fc) (Hs H : Hp) (σ : St) (ρ : DEnv) (z : Str) (u : V) (d : PyData) (Qd : Rv → Prop) (Q : VK), Rel K C Hs H σ ρ → Rdb K Hs H u d → f z d Qd →
  (∀ x w Hs' H', Rel K C Hs' H' σ ρ → Same Hs Hs' → RVal K C Hs' H' σ ρ x w → Qd x → Q w H') → r (.str z) [u] H Q
def dM1 (f : SF) (o e : DE) : DE := fun ρ Q => o ρ fun x ρ1 => wi (rd ρ1 x) fun dx => asS dx fun z => e ρ1 fun y ρ2 => wi (rd ρ2 y) fun dy => f z dy fun r => Q r ρ2
def sStarts : SF := fun z d Q => asS d fun y => Q (.dat (.bool (Txt.startswith z y)))
def sLstrip : SF := fun z d Q => asS d fun y => z.length ≤ sizeLine ∧ Q (.dat (.str (Txt.lstripChars z y)))
def sStrip : SF := fun z d Q => asS d fun y => z.length ≤ sizeLine ∧ Q (.dat (.str (Txt.stripChars z y)))
def sSplit : SF := fun z d Q => asS d fun y => ((y.length == 0) = false ∧ z.length + 2 ≤ sizeLine) ∧ Q (.new ((Txt.split z y).map PyData.str))
def sPartition : SF := fun z d Q => asS d fun y => ((y.length == 0) = false ∧ z.length ≤ sizeLine) ∧ Q (.dat (.tuple [.str (Txt.partition z y).1, .str (Txt.partition z y).2.1, .str (Txt.partition z y).2.2]))
def strsD : List PyData → Option (List Str)
  | [] => some []
  | .str z :: r => (strsD r).map (z :: ·)
  | _ => none
def sJoin : SF := fun z d Q => ws (seq? d) fun ds => ws (strsD ds) fun ys => (ys.map (·.length)).sum + ys.length * z.length ≤ 16777216 ∧ Q (.dat (.str (Txt.join z ys)))
end
end DL
namespace DL
open PySem L2 ZG
section
variable {X : Cx} {K : PySem.W.Frag} {C : Fc} {Hs H : Hp} {σ : St} {ρ : DEnv} {e : Expr} {es : List Expr} {x : Str} {k : Nat} {ps : List Str} {sp : DSp} {p pos kpos : Pos} {fr : DA} {fa : DE}
/-! ### own defs that change some of their arguments' lists -/
def reSs (ρ : DEnv) : List (Nat × List PyData) → DEnv
  | [] => ρ
  | p :: r => reS (reSs ρ r) p.1 p.2
theorem reS_len {i : Nat} {ds : List PyData} : (reS ρ i ds).length = ρ.length := by
  unfold reS
  split
  · exact List.length_set
  · exact List.length_set
  · rfl
theorem reS_ne {i j : Nat} {ds : List PyData} (h : j ≠ i) : (reS ρ i ds)[j]? = ρ[j]? := by
  unfold reS
  split
  · exact List.getElem?_set_ne (Ne.symm h)
  · exact List.getElem?_set_ne (Ne.symm h)
  · rfl
theorem lt_of_get {α : Type} {l : List α} {i : Nat} {r : α} (e : l[i]? = some r) : i < l.length := by
  rcases Nat.lt_or_ge i l.length with h | h
  · exact h
  · rw [List.getElem?_eq_none h] at e; cases e
theorem reS_own {i : Nat} {ds ds0 : List PyData} (e : ρ[i]? = some (.own ds0)) : (reS ρ i ds)[i]? = some (.own ds) := by
  unfold reS; rw [e]; exact List.getElem?_set_self (lt_of_get e)
theorem reS_par {i : Nat} {ds ds0 : List PyData} (e : ρ[i]? = some (.par ds0)) : (reS ρ i ds)[i]? = some (.par ds) := by
  unfold reS; rw [e]; exact List.getElem?_set_self (lt_of_get e)
theorem reSs_len : ∀ {ns : List (Nat × List PyData)}, (reSs ρ ns).length = ρ.length
  | [] => rfl
  | p :: r => by show (reS _ _ _).length = _; rw [reS_len, reSs_len]
theorem reSs_ne : ∀ {ns : List (Nat × List PyData)} {j : Nat}, (∀ p ∈ ns, p.1 ≠ j) → (reSs ρ ns)[j]? = ρ[j]?
  | [], _, _ => rfl
  | p :: r, j, h => by
    show (reS _ _ _)[j]? = _
    rw [reS_ne (Ne.symm (h p (by simp))), reSs_ne fun q hq => h q (by simp [hq])]
theorem reSs_in : ∀ {ns : List (Nat × List PyData)} {j : Nat} {ds : List PyData}, (ns.map (·.1)).Nodup → (j, ds) ∈ ns → (∀ ds0, ρ[j]? = some (.own ds0) → (reSs ρ ns)[j]? = some (.own ds)) ∧ (∀ ds0, ρ[j]? = some (.par ds0) → (reSs ρ ns)[j]? = some (.par ds))
  | p :: r, j, ds, nd, h => by
    rw [List.map_cons, List.nodup_cons] at nd
    rcases List.mem_cons.mp h with h | h
    · subst h
      have ne : ∀ q ∈ r, q.1 ≠ j := fun q hq z => nd.1 (by rw [← z]; exact List.mem_map_of_mem (f := (·.1)) hq)
      refine ⟨fun ds0 e => reS_own (ds0 := ds0) ?_, fun ds0 e => reS_par (ds0 := ds0) ?_⟩ <;> rw [reSs_ne ne] <;> exact e
    · have hj : j ≠ p.1 := fun z => nd.1 (by rw [← z]; exact List.mem_map_of_mem (f := (·.1)) h)
      obtain ⟨a, b⟩ := reSs_in nd.2 h
      exact ⟨fun ds0 e => by show (reS _ _ _)[j]? = _; rw [reS_ne hj]; exact a ds0 e, fun ds0 e => by show (reS _ _ _)[j]? = _; rw [reS_ne hj]; exact b ds0 e⟩
abbrev Arg := Nat ⊕ PyData
def splitM : List Bool → List Rv → DEnv → Option (List Arg × DEnv)
  | [], [], ρ => some ([], ρ)
  | true :: ms, .bor i :: xs, ρ => (splitM ms xs ρ).map fun p => (.inl i :: p.1, p.2)
  | false :: ms, x :: xs, ρ => match frzs ρ [x] with
    | some ([d], ρ1) => (splitM ms xs ρ1).map fun p => (.inr d :: p.1, p.2)
    | _ => none
  | _, _, _ => none
inductive ArgOk (K : PySem.W.Frag) (Hs : Hp) (σ : St) : List Arg → List V → Prop
  | nil : ArgOk K Hs σ [] []
  | bor {i : Nat} {v : V} {as : List Arg} {vs : List V} : σ[i]? = some (some v) → ArgOk K Hs σ as vs → ArgOk K Hs σ (.inl i :: as) (v :: vs)
  | dat {d : PyData} {v : V} {as : List Arg} {vs : List V} : Dq K Hs v d → ArgOk K Hs σ as vs → ArgOk K Hs σ (.inr d :: as) (v :: vs)
theorem rvals_mono {Hs' : Hp} {ρ0 : DEnv} (S : Same Hs Hs') : ∀ {xs : List Rv} {vs : List V}, RVals K C Hs H σ ρ0 xs vs → RVals K C Hs' H σ ρ0 xs vs := by
  intro xs vs hs
  induction hs with
  | nil => exact .nil
  | cons h _ ih => exact .cons (h.wait S) ih
theorem rvals_cons {ρ0 : DEnv} {x : Rv} {xs : List Rv} {vs : List V} (h : RVals K C Hs H σ ρ0 (x :: xs) vs) : ∃ v vs', vs = v :: vs' ∧ RVals K C Hs H σ ρ0 [x] [v] ∧ RVals K C Hs H σ ρ0 xs vs' := by
  generalize hz : x :: xs = zs at h
  cases h with
  | nil => cases hz
  | @cons x' v _ vs hx hs =>
    injection hz with z1 z2
    subst z2
    subst z1
    exact ⟨v, vs, rfl, .cons hx .nil, hs⟩
theorem split_ok : ∀ {ms : List Bool} {xs : List Rv} {vs : List V} {Hs : Hp} {ρ ρ' ρ0 : DEnv} {as : List Arg}, Rel K C Hs H σ ρ → RVals K C Hs H σ ρ0 xs vs → splitM ms xs ρ = some (as, ρ') → ∃ Hs', Rel K C Hs' H σ ρ' ∧ Same Hs Hs' ∧ ArgOk K Hs' σ as vs
  | [], [], vs, Hs, ρ, ρ', ρ0, as, R, h, e => by
    cases h
    cases e
    exact ⟨Hs, R, Same.refl _, .nil⟩
  | true :: ms, .bor i :: xs, vs, Hs, ρ, ρ', ρ0, as, R, h, e => by
    obtain ⟨v, vs', rfl, h1, h2⟩ := rvals_cons h
    obtain ⟨⟨as', ρ2⟩, e1, e2⟩ := Option.map_eq_some_iff.mp (show (splitM ms xs ρ).map (fun p => (.inl i :: p.1, p.2)) = some (as, ρ') from e)
    cases e2
    obtain ⟨Hs', R', S', a'⟩ := split_ok R h2 e1
    refine ⟨Hs', R', S', .bor ?_ a'⟩
    generalize hz : [Rv.bor i] = zs at h1
    cases h1 with
    | @cons x' v _ vs hx hs =>
      injection hz with z1 z2
      rw [← z1] at hx
      exact hx
  | false :: ms, x :: xs, vs, Hs, ρ, ρ', ρ0, as, R, h, e => by
    obtain ⟨v, vs', rfl, h1, h2⟩ := rvals_cons h
    have e : (match frzs ρ [x] with
      | some ([d], ρ1) => (splitM ms xs ρ1).map fun p => (Sum.inr d :: p.1, p.2)
      | _ => none) = some (as, ρ') := by cases x <;> exact e
    split at e
    · rename_i d ρ1 ef
      obtain ⟨⟨as', ρ2⟩, e1, e2⟩ := Option.map_eq_some_iff.mp e
      cases e2
      obtain ⟨Hs1, R1, S1, a1⟩ := frzs_ok R h1 ef
      obtain ⟨Hs', R', S', a'⟩ := split_ok R1 (rvals_mono S1 h2) e1
      cases a1 with
      | cons y ys => exact ⟨Hs', R', S1.trans S', .dat (dp_same S' y) a'⟩
    · cases e
  | [], _ :: _, _, _, _, _, _, _, _, _, e => by cases e
  | true :: _, [], _, _, _, _, _, _, _, _, e => by cases e
  | false :: _, [], _, _, _, _, _, _, _, _, e => by cases e
  | true :: _, .dat _ :: _, _, _, _, _, _, _, _, _, e => by cases e
  | true :: _, .new _ :: _, _, _, _, _, _, _, _, _, e => by cases e
def slotsM (ρ : DEnv) : List Arg → Option (List Slot)
  | [] => some []
  | .inl i :: r => match lst? ρ i with
    | some cs => (slotsM ρ r).map (.own cs :: ·)
    | none => none
  | .inr d :: r => (slotsM ρ r).map (.dat d :: ·)
def newsM : List Arg → List Slot → Option (List (Nat × List PyData))
  | [], [] => some []
  | .inl i :: r, .own ds :: ss => (newsM r ss).map ((i, ds) :: ·)
  | .inr _ :: r, _ :: ss => newsM r ss
  | _, _ => none
def inls : List Arg → List Nat
  | [] => []
  | .inl i :: r => i :: inls r
  | .inr _ :: r => inls r
theorem mem_inls : ∀ {as : List Arg} {j i : Nat}, as[j]? = some (.inl i) → i ∈ inls as
  | .inl i' :: r, 0, i, h => by simp at h; subst h; exact List.mem_cons_self
  | .inr d :: r, 0, i, h => by simp at h
  | .inl i' :: r, j + 1, i, h => List.mem_cons_of_mem _ (mem_inls (as := r) (by simpa using h))
  | .inr d :: r, j + 1, i, h => mem_inls (as := r) (by simpa using h)
theorem inls_inj : ∀ {as : List Arg} {j l i : Nat}, (inls as).Nodup → as[j]? = some (.inl i) → as[l]? = some (.inl i) → j = l
  | .inl i' :: r, 0, 0, i, nd, h1, h2 => rfl
  | .inl i' :: r, 0, l + 1, i, nd, h1, h2 => by
    simp at h1; subst h1
    exact absurd (mem_inls (as := r) (by simpa using h2)) (List.nodup_cons.mp nd).1
  | .inl i' :: r, j + 1, 0, i, nd, h1, h2 => by
    simp at h2; subst h2
    exact absurd (mem_inls (as := r) (by simpa using h1)) (List.nodup_cons.mp nd).1
  | .inl i' :: r, j + 1, l + 1, i, nd, h1, h2 => congrArg (· + 1) (inls_inj (as := r) (List.nodup_cons.mp nd).2 (by simpa using h1) (by simpa using h2))
  | .inr d :: r, 0, _, i, nd, h1, h2 => by simp at h1
  | .inr d :: r, _, 0, i, nd, h1, h2 => by simp at h2
  | .inr d :: r, j + 1, l + 1, i, nd, h1, h2 => congrArg (· + 1) (inls_inj (as := r) nd (by simpa using h1) (by simpa using h2))
theorem slots_get : ∀ {as : List Arg} {ss : List Slot} {j : Nat} {r : Slot}, slotsM ρ as = some ss → ss[j]? = some r → (∃ i cs, as[j]? = some (.inl i) ∧ lst? ρ i = some cs ∧ r = .own cs) ∨ ∃ d, as[j]? = some (.inr d) ∧ r = .dat d
  | [], ss, j, r, e, h => by cases e; simp at h
  | .inl i :: as, ss, j, r, e, h => by
    have e : (match lst? ρ i with
      | some cs => (slotsM ρ as).map (Slot.own cs :: ·)
      | none => none) = some ss := e
    split at e
    · rename_i cs el
      obtain ⟨ss', e1, rfl⟩ := Option.map_eq_some_iff.mp e
      cases j with
      | zero => simp at h; subst h; exact .inl ⟨i, cs, rfl, el, rfl⟩
      | succ j => simpa using slots_get (j := j) e1 (by simpa using h)
    · cases e
  | .inr d :: as, ss, j, r, e, h => by
    obtain ⟨ss', e1, rfl⟩ := Option.map_eq_some_iff.mp (show (slotsM ρ as).map (Slot.dat d :: ·) = some ss from e)
    cases j with
    | zero => simp at h; subst h; exact .inr ⟨d, rfl, rfl⟩
    | succ j => simpa using slots_get (j := j) e1 (by simpa using h)
theorem slots_len : ∀ {as : List Arg} {ss : List Slot}, slotsM ρ as = some ss → ss.length = as.length
  | [], ss, e => by cases e; rfl
  | .inl i :: as, ss, e => by
    have e : (match lst? ρ i with
      | some cs => (slotsM ρ as).map (Slot.own cs :: ·)
      | none => none) = some ss := e
    split at e
    · obtain ⟨ss', e1, rfl⟩ := Option.map_eq_some_iff.mp e
      simp [slots_len e1]
    · cases e
  | .inr d :: as, ss, e => by
    obtain ⟨ss', e1, rfl⟩ := Option.map_eq_some_iff.mp (show (slotsM ρ as).map (Slot.dat d :: ·) = some ss from e)
    simp [slots_len e1]
theorem news_get : ∀ {as : List Arg} {ss : List Slot} {ns : List (Nat × List PyData)}, newsM as ss = some ns → (ns.map (·.1) = inls as) ∧ ∀ (i : Nat) (ds : List PyData), (i, ds) ∈ ns → ∃ j : Nat, as[j]? = some (Sum.inl i) ∧ ss[j]? = some (Slot.own ds)
  | [], [], ns, e => by cases e; exact ⟨rfl, fun i ds h => by cases h⟩
  | [], _ :: _, ns, e => by cases e
  | .inl i :: as, .own ds :: ss, ns, e => by
    obtain ⟨ns', e1, rfl⟩ := Option.map_eq_some_iff.mp (show (newsM as ss).map ((i, ds) :: ·) = some ns from e)
    obtain ⟨h1, h2⟩ := news_get e1
    refine ⟨by rw [List.map_cons, h1]; rfl, fun i' ds' h => ?_⟩
    rcases List.mem_cons.mp h with h | h
    · cases h; exact ⟨0, rfl, rfl⟩
    · obtain ⟨j, z1, z2⟩ := h2 i' ds' h
      exact ⟨j + 1, by simpa using z1, by simpa using z2⟩
  | .inr d :: as, s :: ss, ns, e => by
    obtain ⟨h1, h2⟩ := news_get (show newsM as ss = some ns by cases s <;> exact e)
    refine ⟨h1, fun i' ds' h => ?_⟩
    obtain ⟨j, z1, z2⟩ := h2 i' ds' h
    exact ⟨j + 1, by simpa using z1, by simpa using z2⟩
  | .inl i :: as, [], ns, e => by cases e
  | .inr i :: as, [], ns, e => by cases e
  | .inl i :: as, .no :: ss, ns, e => by cases e
  | .inl i :: as, .dat _ :: ss, ns, e => by cases e
  | .inl i :: as, .par _ :: ss, ns, e => by cases e
theorem args_get : ∀ {as : List Arg} {vs : List V} {j : Nat}, ArgOk K Hs σ as vs → (∀ i, as[j]? = some (.inl i) → ∃ v, vs[j]? = some v ∧ σ[i]? = some (some v)) ∧ ∀ d, as[j]? = some (.inr d) → ∃ v, vs[j]? = some v ∧ Dq K Hs v d
  | _, _, j, .nil => ⟨fun i h => by simp at h, fun d h => by simp at h⟩
  | _, _, 0, .bor h a => ⟨fun i e => by simp at e; subst e; exact ⟨_, rfl, h⟩, fun d e => by simp at e⟩
  | _, _, 0, .dat h a => ⟨fun i e => by simp at e, fun d e => by simp at e; subst e; exact ⟨_, rfl, h⟩⟩
  | _, _, j + 1, .bor h a => by simpa using args_get (j := j) a
  | _, _, j + 1, .dat h a => by simpa using args_get (j := j) a
theorem args_len : ∀ {as : List Arg} {vs : List V}, ArgOk K Hs σ as vs → as.length = vs.length
  | _, _, .nil => rfl
  | _, _, .bor _ a => by simp [args_len a]
  | _, _, .dat _ a => by simp [args_len a]
def dCallM (ms : List Bool) (sp : DSp) (r : DA) : DE := fun ρ Q => r ρ fun xs ρ1 => ws (splitM ms xs ρ1) fun p => ws (slotsM p.2 p.1) fun ss => decide ((inls p.1).Nodup) = true ∧ sp ss fun s ss' => ws (newsM p.1 ss') fun ns => ws (rvOf s) fun y => Q y (reSs p.2 ns)
theorem callM_core {as : List Arg} {ss : List Slot} {vs : List V} {Hs0 : Hp} {Q : VK} {QD : Rv → DEnv → Prop} (R : Rel K C Hs H σ ρ) (S0 : Same Hs0 Hs) (a : ArgOk K Hs σ as vs) (es : slotsM ρ as = some ss) (nd : (inls as).Nodup) (q : sp ss fun s ss' => ws (newsM as ss') fun ns => ws (rvOf s) fun y => QD y (reSs ρ ns))
    (k : ∀ x ρ' v Hs' H', (∀ i, x ≠ .bor i) → Rel K C Hs' H' σ ρ' → Same Hs0 Hs' → RVal K C Hs' H' σ ρ' x v → QD x ρ' → Q v H') : upSp K sp vs H Q E0 := by
  have lens := slots_len es
  have lenv := args_len a
  -- the slots that are lent
  have own : ∀ {j : Nat} {ds : List PyData}, ss[j]? = some (.own ds) → ∃ (i : Nat) (b : Addr), as[j]? = some (Sum.inl i) ∧ vs[j]? = some (V.ref b) ∧ OwnAt σ ρ i b ∧ OL K C Hs H b ds := fun {j ds} e => by
    rcases slots_get es e with ⟨i, cs, e1, e2, e3⟩ | ⟨d, _, e3⟩
    · cases e3
      obtain ⟨b, ow, ol⟩ := lst_own R e2
      obtain ⟨v, z1, z2⟩ := (args_get (j := j) a).1 i e1
      have := ow.1
      rw [z2] at this
      cases this
      exact ⟨i, b, e1, z1, ow, ol⟩
    · cases e3
  have O_of : ∀ {c : Addr}, (C0 vs ss Hs H).O c → ∃ (j i : Nat) (ds : List PyData), as[j]? = some (Sum.inl i) ∧ vs[j]? = some (V.ref c) ∧ ss[j]? = some (Slot.own ds) ∧ OwnAt σ ρ i c := fun {c} ⟨j, ds, z1, z2⟩ => by
    obtain ⟨i, b, y1, y2, y3, _⟩ := own z2
    have z1 : vs[j]? = some (.ref c) := z1
    rw [z1] at y2
    cases y2
    exact ⟨j, i, ds, y1, z1, z2, y3⟩
  have RC : Rel K (C0 vs ss Hs H) Hs H (vs.map some) (ss.map toPar) := by
    have ow0 : ∀ {j : Nat} {b : Addr}, OwnAt (vs.map some) (ss.map toPar) j b → ∃ i : Nat, as[j]? = some (Sum.inl i) ∧ OwnAt σ ρ i b := fun {j b} ⟨z1, es', z2⟩ => by
      have z3 : ∃ ds, ss[j]? = some (.own ds) := by
        rcases z2 with z | z
        · obtain ⟨s, e1, e2⟩ := map_get z
          rcases slots_get es e1 with ⟨_, cs, _, _, rfl⟩ | ⟨d, _, rfl⟩ <;> cases e2
        · obtain ⟨s, e1, e2⟩ := map_get z
          rcases slots_get es e1 with ⟨_, cs, _, _, rfl⟩ | ⟨d, _, rfl⟩
          · exact ⟨cs, e1⟩
          · cases e2
      obtain ⟨ds, z3⟩ := z3
      obtain ⟨i, c, y1, y2, y3, _⟩ := own z3
      rw [List.getElem?_map, y2] at z1
      cases z1
      exact ⟨i, y1, y3⟩
    refine ⟨R.sub, by rw [List.length_map, List.length_map, lens, lenv], fun j r e => ?_, fun j l b z1 z2 => ?_, fun c o e _ => e, fun c e => e, fun a _ e _ => e⟩
    · obtain ⟨s, e1, rfl⟩ := map_get e
      rcases slots_get es e1 with ⟨i, cs, z1, z2, rfl⟩ | ⟨d, z1, rfl⟩
      · obtain ⟨i', b, y1, y2, y3, us, w1, w2, w3, w4⟩ := own e1
        exact ⟨b, by rw [List.getElem?_map, y2]; rfl, y2, us, w1, w2, w3, .inl ⟨j, cs, y2, e1⟩⟩
      · obtain ⟨v, y1, y2⟩ := (args_get (j := j) a).2 d z1
        exact ⟨v, by rw [List.getElem?_map, y1]; rfl, y2⟩
    · obtain ⟨i1, y1, w1⟩ := ow0 z1
      obtain ⟨i2, y2, w2⟩ := ow0 z2
      have := R.dis i1 i2 b w1 w2
      subst this
      exact inls_inj nd y1 y2
  refine ⟨Hs, ss, _, RC, q, fun r ss' v Hs3 H3 R3 S3 V3 q3 => ?_⟩
  obtain ⟨ns, en, q4⟩ := ws_some q3
  obtain ⟨y, ey, q5⟩ := ws_some q4
  obtain ⟨n1, n2⟩ := news_get en
  have ndn : (ns.map (·.1)).Nodup := by rw [n1]; exact nd
  -- what became of a lent slot
  have lent : ∀ {i : Nat} {ds : List PyData}, (i, ds) ∈ ns → ∃ b us, OwnAt σ ρ i b ∧ H3 b = some (.lst us) ∧ Hs3 b = none ∧ DqAll K Hs3 us ds ∧ (C0 vs ss Hs H).O b := fun {i ds} h => by
    obtain ⟨j, z1, z2⟩ := n2 i ds h
    obtain ⟨v', y1, y2⟩ := (args_get (j := j) a).1 i z1
    have hj : j < ss.length := by rw [lens]; exact lt_of_get z1
    have es1 := List.getElem?_eq_getElem hj
    obtain ⟨cs, el⟩ : ∃ cs, ss[j]? = some (.own cs) := by
      rcases slots_get es es1 with ⟨i', cs, w1, w2, w3⟩ | ⟨d, w1, w3⟩
      · rw [w3] at es1; exact ⟨cs, es1⟩
      · rw [z1] at w1; cases w1
    obtain ⟨i', b, x1, x2, x3, _⟩ := own el
    rw [z1] at x1
    cases x1
    obtain ⟨b', w1, w2, us, w3, w4, w5, _⟩ := R3.slot j (.par ds) (by rw [List.getElem?_map, z2]; rfl)
    have w2 : vs[j]? = some (.ref b') := w2
    rw [x2] at w2
    cases w2
    exact ⟨b, us, x3, w3, w4, w5, j, cs, x2, el⟩
  have notlent : ∀ {i : Nat} {b : Addr}, (∀ p ∈ ns, p.1 ≠ i) → OwnAt σ ρ i b → ¬ (C0 vs ss Hs H).O b := fun {i b} h o z => by
    obtain ⟨j, i', ds, y1, _, _, y3⟩ := O_of z
    have := R.dis i i' b o y3
    subst this
    have : i ∈ ns.map (·.1) := by rw [n1]; exact mem_inls y1
    obtain ⟨p, hp, e⟩ := List.mem_map.mp this
    exact h p hp e
  have own0 : ∀ {b : Addr}, (C0 vs ss Hs H).O b → C.O b ∨ C.H0 b = none := fun {b} z => by
    obtain ⟨j, i', ds, y1, _, _, y3⟩ := O_of z
    exact R.owned y3
  have at_ : ∀ (i : Nat) (r : Slot), (reSs ρ ns)[i]? = some r → (ρ[i]? = some r ∧ ∀ p ∈ ns, p.1 ≠ i) ∨ (ρ[i]? = some r ∧ ∀ b, ¬ OwnAt σ ρ i b) ∨ ∃ ds ds0, (i, ds) ∈ ns ∧ ((ρ[i]? = some (.own ds0) ∧ r = .own ds) ∨ (ρ[i]? = some (.par ds0) ∧ r = .par ds)) := fun i r e => by
    by_cases h : ∃ p ∈ ns, p.1 = i
    · obtain ⟨⟨i', ds⟩, hp, rfl⟩ := h
      obtain ⟨b, us, ow, _⟩ := lent hp
      obtain ⟨_, ds0, z | z⟩ := ow
      · have := (reSs_in (ρ := ρ) ndn hp).1 ds0 z
        rw [this] at e
        cases e
        exact .inr (.inr ⟨ds, ds0, hp, .inl ⟨z, rfl⟩⟩)
      · have := (reSs_in (ρ := ρ) ndn hp).2 ds0 z
        rw [this] at e
        cases e
        exact .inr (.inr ⟨ds, ds0, hp, .inr ⟨z, rfl⟩⟩)
    · have h' : ∀ p ∈ ns, p.1 ≠ i := fun p hp z => h ⟨p, hp, z⟩
      rw [reSs_ne h'] at e
      exact .inl ⟨e, h'⟩
  have ow' : ∀ {i : Nat} {b : Addr}, OwnAt σ (reSs ρ ns) i b → OwnAt σ ρ i b := fun {i b} ⟨z1, ds, z2⟩ => by
    rcases z2 with z2 | z2
    · rcases at_ i _ z2 with ⟨w, _⟩ | ⟨w, _⟩ | ⟨_, ds0, _, ⟨w, _⟩ | ⟨w, _⟩⟩
      · exact ⟨z1, ds, .inl w⟩
      · exact ⟨z1, ds, .inl w⟩
      · exact ⟨z1, ds0, .inl w⟩
      · exact ⟨z1, ds0, .inr w⟩
    · rcases at_ i _ z2 with ⟨w, _⟩ | ⟨w, _⟩ | ⟨_, ds0, _, ⟨w, _⟩ | ⟨w, _⟩⟩
      · exact ⟨z1, ds, .inr w⟩
      · exact ⟨z1, ds, .inr w⟩
      · exact ⟨z1, ds0, .inl w⟩
      · exact ⟨z1, ds0, .inr w⟩
  have keep : ∀ {i : Nat} {b : Addr} {ds : List PyData}, (∀ p ∈ ns, p.1 ≠ i) → OwnAt σ ρ i b → OL K C Hs H b ds → OL K C Hs3 H3 b ds := fun {i b ds} h o ⟨us, w1, w2, w3, w4⟩ =>
    ⟨us, R3.fr _ _ w1 (notlent h o), R3.gr b (by show H b ≠ none; rw [w1]; exact fun z => by cases z) w2 (notlent h o), dpa_same S3 w3, w4⟩
  have R4 : Rel K C Hs3 H3 σ (reSs ρ ns) := by
    refine ⟨R3.sub, by rw [reSs_len]; exact R.len, fun i r e => ?_, fun i j b z1 z2 => R.dis i j b (ow' z1) (ow' z2), fun c o e n => R3.fr c o (R.fr c o e n) fun z => ?_, fun c e => R.dom c (R3.dom c e), fun b e1 e2 e3 => R3.gr b (fun z => e1 (R.dom b z)) (R.gr b e1 e2 e3) fun z => ?_⟩
    · rcases at_ i r e with ⟨w, h⟩ | ⟨w, h⟩ | ⟨ds, ds0, hp, ⟨w, rfl⟩ | ⟨w, rfl⟩⟩
      · have x := R.slot i r w
        cases r with
        | no => exact x
        | dat d => obtain ⟨v, y1, y2⟩ := x; exact ⟨v, y1, dp_same S3 y2⟩
        | own ds => obtain ⟨b, y1, y2⟩ := x; exact ⟨b, y1, keep h ⟨y1, ds, .inl w⟩ y2⟩
        | par ds => obtain ⟨b, y1, y', y2⟩ := x; exact ⟨b, y1, y', keep h ⟨y1, ds, .inr w⟩ y2⟩
        | fn _ => exact x
      · have x := R.slot i r w
        cases r with
        | no => exact x
        | dat d => obtain ⟨v, y1, y2⟩ := x; exact ⟨v, y1, dp_same S3 y2⟩
        | own ds => obtain ⟨b, y1, y2⟩ := x; exact absurd ⟨y1, ds, .inl w⟩ (h b)
        | par ds => obtain ⟨b, y1, y', y2⟩ := x; exact absurd ⟨y1, ds, .inr w⟩ (h b)
        | fn _ => exact x
      · obtain ⟨b, us, w1, w2, w3, w4, w5⟩ := lent hp
        exact ⟨b, w1.1, us, w2, w3, w4, own0 w5⟩
      · obtain ⟨b, us, w1, w2, w3, w4, w5⟩ := lent hp
        obtain ⟨b', y1, y2, _⟩ := R.slot i _ w
        have := w1.1
        rw [this] at y1
        cases y1
        exact ⟨b, this, y2, us, w2, w3, w4, own0 w5⟩
    · rcases own0 z with h | h
      · exact n h
      · rw [h] at e; cases e
    · rcases own0 z with h | h
      · exact e3 h
      · exact e1 h
  have nb : ∀ i, y ≠ .bor i := fun i z => by subst z; cases r <;> cases ey
  refine k y _ v Hs3 H3 nb R4 (S0.trans S3) ?_ q5
  cases r with
  | dat d => cases ey; exact V3
  | own ds =>
    cases ey
    obtain ⟨b, ws', rfl, z1, z2, z3, z4⟩ := V3
    refine ⟨b, rfl, ⟨ws', z1, z2, z3, .inr (R.dom b z4)⟩, fun j oj => ?_⟩
    obtain ⟨_, z, _⟩ := R.own (ow' oj)
    exact z.ne z4 rfl
  | no => cases ey
  | par ds => cases ey
  | fn _ => cases ey
theorem q_callM (ms : List Bool) (h : Has X.prog X.w X.K X.mg X.base x k ps (upSp K sp)) (hr : Room k X.A) (hg : Gl X x) (ha : QA K X (e :: es) fr) (hdb : (x == ("__debug__" : Str)) = false := by decide)
    (he : starEach (e :: es) X.env = (false, eval e X.env) :: starEach es X.env := by rfl) (hpl : (backTo pos (starEach es X.env)).any (·.1) = false := by rfl) (hn : 1 ≤ X.tk := by first | exact Nat.le_refl _ | assumption) : QE K X (.Call (.Name x p) (e :: es) [] pos) (dCallM ms sp fr) := by
  with_unfolding_all
    refine PE.imp (pe_own h hr hg ha hdb he hpl hn) fun σ H Q ⟨C, Hs, ρ, QD, R, q, k⟩ => ?_
    refine ⟨C, Hs, ρ, _, R, q, fun xs ρ1 vs Hs1 H1 R1 S1 V1 q1 => ?_⟩
    obtain ⟨⟨as, ρ2⟩, e1, q2⟩ := ws_some q1
    obtain ⟨ss, e2, hd, q3⟩ := ws_some q2
    obtain ⟨Hs2, R2, S2, a2⟩ := split_ok R1 V1 e1
    rw [List.append_nil]
    exact callM_core R2 (S1.trans S2) a2 e2 (of_decide_eq_true hd) q3 fun x ρ' v Hs' H' _ => k x ρ' v Hs' H'
end
end DL
namespace L2
open PySem PySem.Spec PyProof.Rows
section
variable {X : Cx} {K : PySem.W.Frag} {a b : Expr} {ta tb : TE} {pos : Pos}
/-- x in a list or tuple of any data -/
def rInD (K : PySem.W.Frag) (neg : Bool) : R2 := fun x y H Q => ∃ d e ds, Dp K H x d ∧ Dp K H y e ∧ (e = .list ds ∨ e = .tuple ds) ∧ d.canLay0 = true ∧ PyData.canLayAll0 ds = true ∧ d.depth ≤ 64 ∧ Q (.bl (xor neg (ds.any fun z => PyData.eqv z d))) H
/-- repr of a list or a tuple -/
def reprOk (d : PyData) : Bool := PyData.layable0 d && d.intsShort 13 && PyData.showable d && !d.hasDict
def rRepr (K : PySem.W.Frag) : List V → Hp → VK → Prop := fun xs H Q => ∃ p d, xs = [.ref p] ∧ Dp K H (.ref p) d ∧ reprOk d = true ∧ Q (.str d.shown) H
end
end L2
namespace DL
open PySem L2 ZG
section
variable {X : Cx} {K : PySem.W.Frag} {C : Fc} {Hs H : Hp} {σ : St} {ρ : DEnv} {e a b c : Expr} {es : List Expr} {fa fb fc : DE} {fr : DA} {pos p : Pos} {x : Str} {k : Nat} {ps : List Str} {sp : DSp}
/-! ### membership -/
def oInD (neg : Bool) : D2 := fun x y Q => ws (seq? y) fun ds => (x.canLay0 = true ∧ PyData.canLayAll0 ds = true ∧ x.depth ≤ 64) ∧ Q (.dat (.bool (xor neg (ds.any fun z => PyData.eqv z x))))
/-! ### repr -/
def bRepr : D1
  | [.list ds], Q => reprOk (.list ds) = true ∧ Q (.dat (.str (PyData.list ds).shown))
  | [.tuple ds], Q => reprOk (.tuple ds) = true ∧ Q (.dat (.str (PyData.tuple ds).shown))
  | _, _ => False
/-! ### truth -/
def truD : PyData → Option Bool
  | .none => some false
  | .bool b => some b
  | .int i => some (i != 0)
  | .str z => if z.length ≤ sizeLine then some ((z.length : Int) != 0) else none
  | .list ds => some (!ds.isEmpty)
  | .tuple ds => some (!ds.isEmpty)
  | .dict _ => none
def dTru (a : DE) : DT := fun ρ Q => a ρ fun x ρ1 => wi (rd ρ1 x) fun d => ws (truD d) fun t => Q t ρ1
def dOrT (a b : DE) : DE := fun ρ Q => a ρ fun x ρ1 => wi (rd ρ1 x) fun d => ws (truD d) fun t => ifB t (Q x ρ1) (b ρ1 Q)
/-! ### several stores at once -/
/-- two new lists are two -/
def Apart (x y : Rv) (v w : V) : Prop := match x, y with
  | .new _, .new _ => v ≠ w
  | _, _ => True
def unb (ρ : DEnv) : Rv → Option (Rv × DEnv)
  | .bor i => match ρ[i]? with
    | some (.own ds) => some (.dat (.list ds), ρ.set i (.dat (.list ds)))
    | some (.dat d) => some (.dat d, ρ)
    | _ => none
  | x => some (x, ρ)
def dPar (i j : Nat) (a b : DE) : DS := fun D ρ => a ρ fun x ρ1 => b ρ1 fun y ρ2 => ws (unb ρ2 x) fun p => ws (unb p.2 y) fun q => ws (stS q.2 i p.1) fun ρ5 => ws (stS ρ5 j q.1) D.nx
def dPar3 (i j l : Nat) (a b c : DE) : DS := fun D ρ => a ρ fun x ρ1 => b ρ1 fun y ρ2 => c ρ2 fun z ρ3 => ws (unb ρ3 x) fun p => ws (unb p.2 y) fun q => ws (unb q.2 z) fun o => ws (stS o.2 i p.1) fun ρ5 => ws (stS ρ5 j q.1) fun ρ6 => ws (stS ρ6 l o.1) D.nx
/-! ### many written constants -/
def constD : Expr → Option PyData
  | .Constant (.str x) _ _ => some (.str x)
  | .Constant (.int i) _ _ => some (.int i)
  | .Constant (.bool b) _ _ => some (.bool b)
  | .Constant .none _ _ => some .none
  | _ => none
def constsD : List Expr → Option (List PyData)
  | [] => some []
  | e :: r => match constD e with
    | some d => (constsD r).map (d :: ·)
    | none => none
def dConsts (ds : List PyData) : DA := fun ρ Q => Q (ds.map .dat) ρ
theorem qa_consts : ∀ {es : List Expr} {ds : List PyData}, constsD es = some ds → QA K X es (dConsts ds)
  | [], ds, h => by cases h; exact qa_nil
  | e :: r, ds, h => by
    have h : (match constD e with
      | some d => (constsD r).map (d :: ·)
      | none => none) = some ds := h
    split at h
    · rename_i d ed
      obtain ⟨ds', er, rfl⟩ := Option.map_eq_some_iff.mp h
      unfold constD at ed
      split at ed
      · cases ed; exact qa_cons q_str (qa_consts er)
      · cases ed; exact qa_cons q_int (qa_consts er)
      · cases ed; exact qa_cons q_bl (qa_consts er)
      · cases ed; exact qa_cons q_non (qa_consts er)
      · cases ed
    · cases h
/-! ### a module's constants -/
/-! ### f(k = e) -/
def dKw (sp : DSp) (a : DE) : DE := fun ρ Q => a ρ fun x ρ1 => wf (frzs ρ1 [frz x]) fun ds ρ2 => sp (ds.map .dat) fun s _ => ws (rvOf s) fun y => Q y ρ2
end
end DL
namespace L2
open PySem PySem.Spec PyProof.Rows
section
variable {X : Cx} {K : PySem.W.Frag}
theorem add2K (hK : X.K = K := by rfl) : OpR X (binaryOp .Add) (rAdd2 K) := by subst hK; exact op_add2
end
/-! ### raising the counter -/
def Cx.at1 (X : Cx) : Cx := { X with tk := 1 }
section
variable {X : Cx} {pins : List (Addr × Obj)} {σ : St} {H : Hp} {s : Shared}
theorem Cx.Ok.up1 (ok : X.Ok) : X.at1.Ok :=
  ⟨ok.mod, ok.kind, ok.glob, ok.blt, ok.above, ok.inj, ok.has, ok.cab, ok.hd, ok.frames, ok.stk, ok.exf, ok.bs, ok.bsz, ok.noex, ok.exfs, ok.funs, ok.frf⟩
theorem Cx.Ok.down1 (ok : X.at1.Ok) : X.Ok :=
  ⟨ok.mod, ok.kind, ok.glob, ok.blt, ok.above, ok.inj, ok.has, ok.cab, ok.hd, ok.frames, ok.stk, ok.exf, ok.bs, ok.bsz, ok.noex, ok.exfs, ok.funs, ok.frf⟩
theorem Inv.up1 (I : Inv X pins σ H s) (h : 1 ≤ s.toks) : Inv X.at1 pins σ H s := ⟨I.ok.up1, I.os, I.bare, I.base, I.loc, I.cell, I.free, I.freeC, I.pin, I.hok, I.len, h⟩
theorem Inv.down1 (I : Inv X.at1 pins σ H s) (h : X.tk = 0) : Inv X pins σ H s := ⟨I.ok.down1, I.os, I.bare, I.base, I.loc, I.cell, I.free, I.freeC, I.pin, I.hok, I.len, by rw [h]; exact Nat.zero_le _⟩
theorem SP.down1 {D : Ends} {f : Flow} (h0 : X.tk = 0) (h : SP X.at1 pins D f s) : SP X pins D f s := by
  cases f with
  | next => obtain ⟨σ', H', I, q⟩ := h; exact ⟨σ', H', I.down1 h0, q⟩
  | brk => obtain ⟨σ', H', I, q⟩ := h; exact ⟨σ', H', I.down1 h0, q⟩
  | cont => obtain ⟨σ', H', I, q⟩ := h; exact ⟨σ', H', I.down1 h0, q⟩
  | ret u => obtain ⟨v, σ', H', I, r, q⟩ := h; exact ⟨v, σ', H', I.down1 h0, r, q⟩
/-- x = f(y, 4); rest: an int has been made ahead of the call -/
theorem pss_law {k i : Nat} {f : Addr} {fd : FuncData} {ps : List Str} {sp : Sp} {x fn y : Str} {px pf py pc pos' pos : Pos} {c : Int} {j jy : Nat} {rest : List Stmt} {u : TS} (h0 : X.tk = 0) (F : FnOk X.prog X.w X.K X.mg X.base CX0 0 k f fd ps sp) (hr : Room k X.A) (hg : Gl X fn) (hm : X.mg fn = some (.ref f))
    (hk : PySem.W.keepIn X.K (.ref f) = true) (hb : Binds X.K fd ps []) (hN : X.N.Nodup) (hi : X.N[i]? = some x) (hx : Loc X.env.scope x) (hy : PE X (.Name y py) (tVar jy)) (hrest : PSs X.at1 rest u)
    (hs : swapsWith (.Call (.Name fn pf) [.Name y py, .Constant (.int c) j pc] [] pos') (some (.Name x px)) pos.line X.env = pure false := by rfl) (hf : X.fn x = true ∨ X.env.scope.names.lookup x = some .local := by first | exact .inl rfl | exact .inr rfl | assumption) (hdb : (fn == ("__debug__" : Str)) = false := by decide)
    (he : starEach [.Name y py, .Constant (.int c) j pc] X.env = (false, eval (.Name y py) X.env) :: starEach [.Constant (.int c) j pc] X.env := by rfl) (hpl : (backTo pos' (starEach [.Constant (.int c) j pc] X.env)).any (·.1) = false := by rfl) :
    PSs X (.Assign [.Name x px] (.Call (.Name fn pf) [.Name y py, .Constant (.int c) j pc] [] pos') pos :: rest) (fun D σ H => ∃ v, σ[jy]? = some (some v) ∧ sp [v, .int c] H (fun z H1 => u D (σ.set i (some z)) H1) E0) := by
  intro pins s σ H D I h
  obtain ⟨v, e1, h⟩ := h
  refine wpAny_execs_cons (wpAny_Assign_Name ?_ hs)
  refine wpAny_Call_Name_kw (ld_glob I hg hm ?_ hdb)
  refine PySem.W.callWith_K (h₀ := X.base) I.ok.mod.kin hk ?_ he hpl
  rw [he]
  show wpAny _ _ (spliced ((false, eval (.Name y py) X.env) :: backTo pos' (starEach [.Constant (.int c) j pc] X.env))) _ _ s
  refine Calls.spliced_cons (thn (hy pins s σ H (fun w H' => w = v ∧ H' = H) I ⟨v, e1, rfl, rfl⟩) fun u1 s1 ⟨w1, H1, I1, r1, ew, eH⟩ => ?_)
  subst ew eH
  refine (show wpAny _ _ (spliced [(false, eval (.Constant (.int c) j pc) X.env)]) _ _ s1 from Calls.spliced_cons (wpAny_Constant_int (Calls.spliced_nil ?_)))
  refine ⟨(I1.tok (s1.toks + 1)).kIn, ?_⟩
  have hk1 : 1 ≤ ({ s1 with toks := s1.toks + 1 } : Shared).toks := Nat.succ_le_succ (Nat.zero_le _)
  refine TK.up_tk hk1 (thn (run_fn (ds := []) (dvs := []) (vs := [w1, .int c]) F hr hb .nil pass0 (I1.tok (s1.toks + 1)) (.cons r1 (.cons ⟨_, rfl⟩ .nil)) h (Nat.zero_le _)) fun z s3 ⟨w, H3, I3, r3, q3⟩ ht => ?_)
  exact store_ok (X := X.at1) (I3.up1 ht) hN hi hx r3 (fun s4 I4 => wpAny_mono (hrest pins s4 _ H3 D I4 q3) (fun fl s5 q5 => SP.down1 h0 q5) fun _ _ q => q) hf
end
end L2
namespace DL
open PySem L2 ZG
section
variable {K : PySem.W.Frag}
theorem od_lt : OpD K (fun x y H Q => rI0 (fun i j => .bl (decide (i < j))) x y H Q ∨ rLtS x y H Q) oLt := od_ord
theorem od_gt : OpD K (fun x y H Q => rI0 (fun i j => .bl (decide (j < i))) x y H Q ∨ rGtS x y H Q) oGt := od_ord
theorem od_ge : OpD K (fun x y H Q => rI0 (fun i j => .bl (decide (j ≤ i))) x y H Q ∨ rGeS x y H Q) oGe := od_ord
end
end DL
namespace DL
open PySem L2 ZG
theorem lcL_inv {g : DG} {t : DT} {e : DE} {vs : List Nat} {ρ0 : DEnv} {Q : List PyData → DEnv → Prop} (Pv : List PyData → List PyData → DEnv → Prop)
    (hs : ∀ d L acc ρ, Pv (d :: L) acc ρ → (∀ acc' ρ', Pv L acc' ρ' → lcL g t e vs ρ0 L acc' ρ' Q) → g d (dWipe ρ vs) fun ρ2 => t ρ2 fun b ρ3 => ifB b (e ρ3 fun y ρ4 => wf (frzs ρ4 [frz y]) fun ys ρ5 => one? ys fun z => acc.length < sizeLine ∧ lcL g t e vs ρ0 L (acc ++ [z]) (dBack ρ0 ρ5 vs) Q) (lcL g t e vs ρ0 L acc (dBack ρ0 ρ3 vs) Q))
    (hd : ∀ acc ρ, Pv [] acc ρ → Q acc ρ) : ∀ (L acc : List PyData) (ρ : DEnv), Pv L acc ρ → lcL g t e vs ρ0 L acc ρ Q
  | [], acc, ρ, h => hd acc ρ h
  | d :: L, acc, ρ, h => hs d L acc ρ h fun acc' ρ' h' => lcL_inv Pv hs hd L acc' ρ' h'
/-- no list of its own -/
def Flat (s : Slot) : Prop := s = .no ∨ ∃ d, s = .dat d
theorem intsD_cons {lo : Int} {n : Nat} : intsD lo (n + 1) = .int lo :: intsD (lo + 1) n := by
  unfold intsD
  rw [List.range_succ_eq_map, List.map_cons, List.map_map]
  congr 1
  · show PyData.int (lo + ((0 : Nat) : Int)) = _; rw [show lo + ((0 : Nat) : Int) = lo by omega]
  · apply List.map_congr_left
    intro k _
    show PyData.int (lo + ((k + 1 : Nat) : Int)) = PyData.int (lo + 1 + (k : Int))
    congr 1
    omega
end DL
namespace DL
open PySem L2 ZG
section
variable {X : Cx} {K : PySem.W.Frag} {C : Fc} {Hs H : Hp} {σ : St} {ρ : DEnv} {a b c : Expr} {fa fb fc : DE} {pos : Pos}
theorem RVal.laid0 {p : Addr} {o : HO} {x : Rv} {v : V} (V : RVal K C Hs H σ ρ x v) (h : H p = none) : RVal K C Hs (upd H p o) σ ρ x v := by
  cases x with
  | dat d => exact V
  | bor i => exact V
  | new ds =>
    obtain ⟨a, rfl, ⟨us, e1, e2, e3, e4⟩, n⟩ := V
    exact ⟨a, rfl, ⟨us, by rw [upd_ne (ne_of_none e1 h)]; exact e1, e2, e3, e4⟩, n⟩
end
end DL
namespace DL
open PySem L2 ZG
section
variable {X : Cx} {K : PySem.W.Frag} {a : Expr} {fa : DE} {pos : Pos}
def dNeg (a : DE) : DE := fun ρ Q => a ρ fun x ρ1 => wi (rd ρ1 x) fun d => asI d fun i => Q (.dat (.int (-i))) ρ1
/-! ### written constants ahead of other arguments -/
def dPre (ds : List PyData) (r : DA) : DA := fun ρ Q => r ρ fun xs ρ1 => Q (ds.map .dat ++ xs) ρ1
/-! ### f(a, b, [3], 4), the list handed over -/
section
variable {C : Fc} {Hs H : Hp} {σ : St} {ρ : DEnv} {x : Str} {k : Nat} {ps : List Str} {sp : DSp} {e1 e2 : Expr} {f1 f2 : DE} {p : Pos}
theorem get_ext {α : Type} {l : List α} {u r : α} {i : Nat} (h : (l ++ [u])[i]? = some r) : l[i]? = some r ∨ (i = l.length ∧ r = u) := by
  rcases Nat.lt_or_ge i l.length with hi | hi
  · rw [List.getElem?_append_left hi] at h
    exact .inl h
  · have hl := lt_of_get h
    rw [List.length_append, List.length_singleton] at hl
    have e : i = l.length := by omega
    subst e
    rw [List.getElem?_append_right (Nat.le_refl _), Nat.sub_self] at h
    exact .inr ⟨rfl, (Option.some.inj h).symm⟩
theorem get_ext1 {α : Type} {l : List α} {u r : α} {i : Nat} (h : l[i]? = some r) : (l ++ [u])[i]? = some r := by rw [List.getElem?_append_left (lt_of_get h)]; exact h
theorem get_last {α : Type} {l : List α} {u : α} : (l ++ [u])[l.length]? = some u := by rw [List.getElem?_append_right (Nat.le_refl _), Nat.sub_self]; rfl
theorem Rel.ext {q : Addr} {ds : List PyData} (R : Rel K C Hs H σ ρ) (V : RVal K C Hs H σ ρ (.new ds) (.ref q)) : Rel K C Hs H (σ ++ [some (.ref q)]) (ρ ++ [.own ds]) := by
  obtain ⟨q', eq, ol, no⟩ := V
  cases eq
  have ow : ∀ {i : Nat} {b : Addr}, OwnAt (σ ++ [some (.ref q)]) (ρ ++ [.own ds]) i b → (OwnAt σ ρ i b ∧ b ≠ q ∧ i < ρ.length) ∨ (i = ρ.length ∧ b = q) := fun {i b} ⟨z1, es, z2⟩ => by
    rcases get_ext z1 with w1 | ⟨rfl, w1⟩
    · have hi : i < ρ.length := by rw [← R.len]; exact lt_of_get w1
      have o : OwnAt σ ρ i b := by
        refine ⟨w1, es, ?_⟩
        rcases z2 with z2 | z2
        · rw [List.getElem?_append_left hi] at z2; exact .inl z2
        · rw [List.getElem?_append_left hi] at z2; exact .inr z2
      exact .inl ⟨o, fun z => no i (z ▸ o), hi⟩
    · cases w1
      exact .inr ⟨R.len, rfl⟩
  refine ⟨R.sub, by rw [List.length_append, List.length_append, R.len]; rfl, fun i r e => ?_, fun i j b z1 z2 => ?_, R.fr, R.dom, R.gr⟩
  · rcases get_ext e with w | ⟨rfl, rfl⟩
    · have y := R.slot i r w
      cases r with
      | no => exact y
      | dat d => obtain ⟨u, y1, y2⟩ := y; exact ⟨u, get_ext1 y1, y2⟩
      | own ds => obtain ⟨u, y1, y2⟩ := y; exact ⟨u, get_ext1 y1, y2⟩
      | par ds => obtain ⟨u, y1, y2⟩ := y; exact ⟨u, get_ext1 y1, y2⟩
      | fn _ => obtain ⟨u, y1, y2⟩ := y; exact ⟨u, get_ext1 y1, y2⟩
    · exact ⟨q, by rw [← R.len]; exact get_last, ol⟩
  · rcases ow z1 with ⟨w1, n1, _⟩ | ⟨rfl, rfl⟩
    · rcases ow z2 with ⟨w2, _, _⟩ | ⟨_, e2⟩
      · exact R.dis i j b w1 w2
      · exact absurd e2 n1
    · rcases ow z2 with ⟨w2, n2, _⟩ | ⟨e1, _⟩
      · exact absurd rfl n2
      · exact e1.symm
theorem Rel.cut {u : Option V} {ρ' : DEnv} (R : Rel K C Hs H (σ ++ [u]) ρ') : Rel K C Hs H σ (ρ'.take σ.length) := by
  have hl : ρ'.length = σ.length + 1 := by rw [← R.len, List.length_append]; rfl
  have at' : ∀ {i : Nat} {r : Slot}, (ρ'.take σ.length)[i]? = some r → i < σ.length ∧ ρ'[i]? = some r := fun {i r} e => by
    have h := lt_of_get e
    rw [List.length_take] at h
    rw [List.getElem?_take_of_lt (by omega)] at e
    exact ⟨by omega, e⟩
  have st : ∀ {i : Nat}, i < σ.length → (σ ++ [u])[i]? = σ[i]? := fun {i} h => List.getElem?_append_left h
  have ow : ∀ {i : Nat} {b : Addr}, OwnAt σ (ρ'.take σ.length) i b → OwnAt (σ ++ [u]) ρ' i b := fun {i b} ⟨z1, es, z2⟩ => by
    refine ⟨get_ext1 z1, es, ?_⟩
    rcases z2 with z2 | z2
    · exact .inl (at' z2).2
    · exact .inr (at' z2).2
  refine ⟨R.sub, by rw [List.length_take]; omega, fun i r e => ?_, fun i j b z1 z2 => R.dis i j b (ow z1) (ow z2), R.fr, R.dom, R.gr⟩
  obtain ⟨hi, e⟩ := at' e
  have y := R.slot i r e
  cases r with
  | no => exact y
  | dat d => obtain ⟨u, y1, y2⟩ := y; exact ⟨u, by rw [← st hi]; exact y1, y2⟩
  | own ds => obtain ⟨u, y1, y2⟩ := y; exact ⟨u, by rw [← st hi]; exact y1, y2⟩
  | par ds => obtain ⟨u, y1, y2⟩ := y; exact ⟨u, by rw [← st hi]; exact y1, y2⟩
  | fn _ => obtain ⟨u, y1, y2⟩ := y; exact ⟨u, by rw [← st hi]; exact y1, y2⟩
def dCallE (ms : List Bool) (sp : DSp) (a b : DE) (c d : Int) : DE := fun ρ Q => a ρ fun x ρ1 => b ρ1 fun y ρ2 => ws (splitM ms [frz x, frz y, .bor ρ2.length, .dat (.int d)] (ρ2 ++ [.own [.int c]])) fun p => ws (slotsM p.2 p.1) fun ss => decide ((inls p.1).Nodup) = true ∧
  sp ss fun s ss' => ws (newsM p.1 ss') fun ns => ws (rvOf s) fun z => Q z ((reSs p.2 ns).take ρ2.length)
end
end
end DL
namespace DL
open PySem L2 ZG
/-! ### f(g(..)), the fresh list handed over -/
section
variable {X : Cx} {K : PySem.W.Frag} {x : Str} {k : Nat} {ps : List Str} {sp : DSp} {e : Expr} {fe : DE} {p pos : Pos}
def new? (x : Rv) (k : List PyData → Prop) : Prop := match x with
  | .new ds => k ds
  | _ => False
def dCallN (sp : DSp) (a : DE) : DE := fun ρ Q => a ρ fun x ρ1 => new? x fun ds => sp [.own ds] fun s ss' => ws (newsM [Sum.inl ρ1.length] ss') fun ns => ws (rvOf s) fun y => Q y ((reSs (ρ1 ++ [.own ds]) ns).take ρ1.length)
end
end DL
namespace L2
open PySem
theorem Has.mono {P : Program} {w : World} {K : PySem.W.Frag} {mg : Str → Option Value} {base : Heap} {x : Str} {j k : Nat} {ps : List Str} {sp : Sp} (h : Has P w K mg base x j ps sp) (l : j ≤ k) : Has P w K mg base x k ps sp := let ⟨f, fd, G, m, kp, b, kb⟩ := h; ⟨f, fd, G.mono l, m, kp, b, kb⟩
end L2
namespace DL
open PySem L2 ZG
/-! ### a law: cells = folded(script, c), then data alone -/
def spFolded (K : PySem.W.Frag) : Sp := fun vs H Q _ => ∃ (a : Addr) (m : Int) (ns : List Int), vs = [.ref a, .int m] ∧ SqL K H a (ns.map V.int) ∧ ns.length ≤ 63 ∧ 1 ≤ m ∧ m ≤ 10 ∧
  ∀ (r : Addr) (ms : List Int) (H' : Hp), H r = none → Same H H' → H' r = some (.lst (ms.map V.int)) → ms.length ≤ m.toNat → Q (.ref r) H'
def spLaw (K : PySem.W.Frag) : Sp := fun vs H Q _ => ∃ (a : Addr) (ns : List Int), vs = [.ref a] ∧ SqL K H a (ns.map V.int) ∧ ns.length ≤ 63 ∧ ∀ H', Q (.bl true) H'
section
variable {P : Program} {w : World} {K : PySem.W.Frag} {mg : Str → Option Value} {base : Heap} {f fF : Addr} {fd fdF : FuncData}
def lawEnds : DEnds := { nx := fun _ => False, rt := fun x _ => x = .dat (.bool true) }
theorem ints_dq {H : Hp} : ∀ ms : List Int, DqAll K H (ms.map V.int) (ms.map PyData.int)
  | [] => .nil
  | m :: r => .cons (.int m) (ints_dq r)
theorem law_d {st : Stmt} {N Nr : List Str} {k kF : Nat} {c : Int} {px pf py pc pos' pos : Pos} {j : Nat} {rest : List Stmt} (F : Fun K "law" "law" st f fd) (S : FnScope N ["_law_script"] (defScope st)) (eN : N = ("_law_script" : Str) :: ("_law_cells" : Str) :: Nr)
    (eb : defBody st = .Assign [.Name "_law_cells" px] (.Call (.Name "_law_folded" pf) [.Name "_law_script" py, .Constant (.int c) j pc] [] pos') pos :: rest)
    (G : FnOk P w K mg base CX0 0 kF fF fdF ["_law_script", "_law_size"] (spFolded K)) (hk : kF ≤ k) (hm : mg "_law_folded" = some (.ref fF)) (hkp : PySem.W.keepIn K (.ref fF) = true) (hb : Binds K fdF ["_law_script", "_law_size"] []) (c1 : 1 ≤ c) (c10 : c ≤ 10)
    (hgl : ∀ (cdv : Value) (A : Around) (outer : List Env) (s : Shared) (H : Hp) (E : XK), Gl (cxOf CX0 0 P w K mg base N "law" (defScope st) f cdv A outer s H E).nox "_law_folded")
    (hloc : ∀ (cdv : Value) (A : Around) (outer : List Env) (s : Shared) (H : Hp) (E : XK), Loc (cxOf CX0 0 P w K mg base N "law" (defScope st) f cdv A outer s H E).nox.env.scope "_law_cells")
    (hvar : ∀ (cdv : Value) (A : Around) (outer : List Env) (s : Shared) (H : Hp) (E : XK), PE (cxOf CX0 0 P w K mg base N "law" (defScope st) f cdv A outer s H E).nox (.Name "_law_script" py) (tVar 0))
    (hs : ∀ (cdv : Value) (A : Around) (outer : List Env) (s : Shared) (H : Hp) (E : XK), swapsWith (.Call (.Name "_law_folded" pf) [.Name "_law_script" py, .Constant (.int c) j pc] [] pos') (some (.Name "_law_cells" px)) pos.line (cxOf CX0 0 P w K mg base N "law" (defScope st) f cdv A outer s H E).nox.env = pure false)
    (hfn : ∀ (cdv : Value) (A : Around) (outer : List Env) (s : Shared) (H : Hp) (E : XK), (cxOf CX0 0 P w K mg base N "law" (defScope st) f cdv A outer s H E).nox.fn "_law_cells" = true ∨ (cxOf CX0 0 P w K mg base N "law" (defScope st) f cdv A outer s H E).nox.env.scope.names.lookup ("_law_cells" : Str) = some .local)
    (hbody : ∀ (cdv : Value) (A : Around) (outer : List Env) (s : Shared) (H : Hp) (E : XK), Room k (A.deeper (PyProof.Rows.envOfC "law" (defScope st) s.heap.objs.size f cdv)) →
      ∃ FS, QSs K ((cxOf CX0 0 P w K mg base N "law" (defScope st) f cdv A outer s H E).nox).at1 rest FS ∧ ∀ ms : List Int, ms.length ≤ c.toNat → FS lawEnds (.no :: .own (ms.map PyData.int) :: List.replicate Nr.length .no)) : FnOk P w K mg base CX0 0 (k + 1) f fd ["_law_script"] (spLaw K) := by
  with_unfolding_all
    refine F.ok S (fun vs H Q E h => ?_) (fun cdv A outer s H vs Q E hr h => ?_)
    · obtain ⟨a, ns, rfl, _⟩ := h
      rfl
    obtain ⟨a, ns, rfl, hS, h63, kQ⟩ := h
    obtain ⟨FS, hq, hF⟩ := hbody cdv A outer s H E hr
    rw [eb]
    refine ⟨_, pss_law (X := (cxOf CX0 0 P w K mg base N "law" (defScope st) f cdv A outer s H E).nox) (i := 1) (jy := 0) rfl G (hr.mono hk) (hgl cdv A outer s H E) hm hkp hb S.nd (by show N[1]? = _; rw [eN]; rfl) (hloc cdv A outer s H E) (hvar cdv A outer s H E) hq (hs cdv A outer s H E) (hfn cdv A outer s H E), ?_⟩
    have e0 : L2.start N [V.ref a] = some (.ref a) :: none :: List.replicate Nr.length none := by rw [eN]; rfl
    rw [e0]
    refine ⟨.ref a, rfl, a, c, ns, rfl, hS, h63, c1, c10, fun r ms H' hr' hs' hr2 hl => ?_⟩
    show upS K FS _ (some (.ref a) :: some (.ref r) :: List.replicate Nr.length none) H'
    refine ⟨⟨H', fun b => if b = r then none else H' b, fun b => b = r, []⟩, fun b => if b = r then none else H' b, .no :: .own (ms.map PyData.int) :: List.replicate Nr.length .no, lawEnds, ⟨fun b u q => ?_, by simp, fun i s e => ?_, fun i j b x y => ?_, fun b o e _ => e, fun b e => e, fun b _ e _ => e⟩, hF ms hl, fun _ _ _ _ _ _ q => q.elim, fun _ _ _ _ _ _ z => z.elim, fun _ _ _ _ _ _ z => z.elim, fun x v σ' ρ' Hs' H'' R' S' V' q => ?_⟩
    · have q : (if b = r then none else H' b) = some u := q
      split at q
      · cases q
      · exact q
    · match i with
      | 0 => cases e; exact True.intro
      | 1 => cases e; exact ⟨r, rfl, ms.map V.int, hr2, by show (if r = r then none else H' r) = none; rw [if_pos rfl], ints_dq ms, .inl rfl⟩
      | i + 2 =>
        have e : (List.replicate Nr.length Slot.no)[i]? = some s := e
        have := (List.mem_replicate.mp (List.mem_of_getElem? e)).2
        subst this
        exact True.intro
    · have one : ∀ {i : Nat} {b : Addr}, OwnAt (some (.ref a) :: some (.ref r) :: List.replicate Nr.length none) (.no :: .own (ms.map PyData.int) :: List.replicate Nr.length .no) i b → i = 1 := fun {i b} ⟨_, ds, z⟩ => by
        match i with
        | 0 => rcases z with z | z <;> cases z
        | 1 => rfl
        | i + 2 =>
          rcases z with z | z
          · have e : (List.replicate Nr.length Slot.no)[i]? = some (Slot.own ds) := z
            have := (List.mem_replicate.mp (List.mem_of_getElem? e)).2
            cases this
          · have e : (List.replicate Nr.length Slot.no)[i]? = some (Slot.par ds) := z
            have := (List.mem_replicate.mp (List.mem_of_getElem? e)).2
            cases this
      rw [one x, one y]
    · have q : x = .dat (.bool true) := q
      subst q
      have V' : Dq K Hs' v (.bool true) := V'
      cases V'
      exact kQ H''
end
end DL
namespace L2
open PySem PySem.Spec PyProof.Rows
section
variable {X : Cx} {o e f : Expr} {to te : TE} {pos : Pos}
def tReplace (to : TE) (y z : Str) : TE := fun σ H Q => to σ H fun v H1 => ∃ x, v = .str x ∧ x.length + (x.length + 1) * z.length ≤ 16777216 ∧ Q (.str (Txt.replace x y z)) H1
def tRevS (te : TE) : TE := fun σ H Q => te σ H fun x H1 => ∃ z, x = .str z ∧ z.length ≤ sizeLine ∧ ∀ y : Str, y.length = z.length → Q (.str y) H1
end
end L2
namespace DL
open PySem L2 ZG
section
variable {X : Cx} {K : PySem.W.Frag} {C : Fc} {Hs H : Hp} {σ : St} {ρ : DEnv} {o e f : Expr} {fo fe ff : DE} {pos : Pos}
def dReplace (y z : Str) (a : DE) : DE := fun ρ Q => a ρ fun x ρ1 => wi (rd ρ1 x) fun d => asS d fun s => s.length + (s.length + 1) * z.length ≤ 16777216 ∧ Q (.dat (.str (Txt.replace s y z))) ρ1
def dRevS (a : DE) : DE := fun ρ Q => a ρ fun x ρ1 => wi (rd ρ1 x) fun d => asS d fun s => s.length ≤ sizeLine ∧ ∀ y : Str, y.length = s.length → Q (.dat (.str y)) ρ1
/-! ### a written dict of texts, asked -/
def dDGet (g : Str → Option Str) (a b : DE) : DE := fun ρ Q => a ρ fun x ρ1 => wi (rd ρ1 (frz x)) fun dx => asS dx fun z => b ρ1 fun y ρ2 => wi (rd ρ2 y) fun dy => asS dy fun w => Q (.dat (.str ((g z).getD w))) ρ2
def kvK (kvs : List (Str × Str)) : List (Key × V) := kvs.map fun p => (.inr p.1, .str p.2)
end
end DL
namespace RP
open PySem PySem.StrLaws PySem.Builtin PySem.Builtin.Str
/-- a text's replace, from the left -/
def replL (p0 : Nat) (ps z : List Nat) : List Nat → List Nat
  | [] => []
  | c :: r => if (p0 :: ps).isPrefixOf (c :: r) = true then z ++ replL p0 ps z (r.drop ps.length) else c :: replL p0 ps z r
termination_by l => l.length
decreasing_by
  · simp only [List.length_cons, List.length_drop]; omega
  · simp only [List.length_cons]; omega
section
variable {p0 : Nat} {ps z : List Nat}
end
end RP
namespace DL
open PySem L2 ZG
section
variable {X : Cx} {K : PySem.W.Frag} {C : Fc} {Hs H : Hp} {σ : St} {ρ : DEnv} {e : Expr} {fe : DE} {pos : Pos}
/-! ### f-strings -/
abbrev DF := DEnv → (List Str → DEnv → Prop) → Prop
def upF (K : PySem.W.Frag) (F : DF) : TF := fun σ H k => ∃ C Hs ρ QD, Rel K C Hs H σ ρ ∧ F ρ QD ∧ ∀ ss ρ' Hs' H', Rel K C Hs' H' σ ρ' → Same Hs Hs' → QD ss ρ' → k ss H'
@[irreducible] def QF (K : PySem.W.Frag) (X : Cx) (m : Nat) (es : List Expr) (F : DF) : Prop := PF X m es (upF K F)
def dfNil : DF := fun ρ Q => Q [] ρ
def dfStr (x : Str) (t : DF) : DF := fun ρ Q => t ρ fun ss ρ1 => Q (x :: ss) ρ1
def dfVal (a : DE) (t : DF) : DF := fun ρ Q => a ρ fun x ρ1 => wi (rd ρ1 x) fun d => asS d fun z => z.length ≤ 100000 ∧ t ρ1 fun ss ρ2 => Q (z :: ss) ρ2
theorem PF.imp {m : Nat} {es : List Expr} {t t' : TF} (h : PF X m es t) (hi : ∀ σ H k, t' σ H k → t σ H k) : PF X m es t' := fun acc pins s σ H Q ha I q => h acc pins s σ H Q ha I (hi _ _ _ q)
variable {m : Nat} {es : List Expr} {t : DF}
def dFs (t : DF) : DE := fun ρ Q => t ρ fun ss ρ1 => Q (.dat (.str (gl Str.empty ss))) ρ1
/-! ### never -/
def dNever : DS := fun _ _ => False
/-! ### comprehensions of two walks -/
variable {ft ft1 : DT} {fa : DE}
def lcL2 (g : DG) (t : DT) (it1 : DI) (g1 : DG) (t1 : DT) (e : DE) (vs vs1 : List Nat) (ρ0 : DEnv) : List PyData → List PyData → DEnv → (List PyData → DEnv → Prop) → Prop
  | [], acc, ρ, Q => Q acc ρ
  | d :: L, acc, ρ, Q => g d (dWipe ρ vs) fun ρ2 => t ρ2 fun b ρ3 => ifB b (it1 ρ3 fun L1 ρ4 => keepable ρ4 vs1 = true ∧ lcL g1 t1 e vs1 ρ4 L1 acc ρ4 fun acc' ρ5 => lcL2 g t it1 g1 t1 e vs vs1 ρ0 L acc' (dBack ρ0 ρ5 vs) Q) (lcL2 g t it1 g1 t1 e vs vs1 ρ0 L acc (dBack ρ0 ρ3 vs) Q)
def dLc2 (it : DI) (g : DG) (t : DT) (it1 : DI) (g1 : DG) (t1 : DT) (e : DE) (vs vs1 : List Nat) : DE := fun ρ Q => it ρ fun L ρ1 => keepable ρ1 vs = true ∧ lcL2 g t it1 g1 t1 e vs vs1 ρ1 L [] ρ1 fun acc ρ2 => Q (.new acc) ρ2
end
end DL
namespace L2
open PySem PySem.Spec PyProof.Rows
section
variable {X : Cx}
/-- {k: v for target in iter if ..}: D the new dict -/
def tDc (wi : TI) (g : TG) (tt : TT) (tk tv : TE) (vs : List Nat) : TE := fun σ H Q => wi σ H fun J H1 => ∀ D, H1 D = none → ∃ W : Nat → Nat → Hp → Prop, (∃ m, W 0 m (upd H1 D (.dK []))) ∧ ∀ i m H, W i m H →
  (J.stop i H ∧ Q (.ref D) H) ∨ (J.go i H ∧ ∃ Nx : Hp → Prop, (∀ H', Nx H' → ∃ m', m' < m ∧ W (i + 1) m' H') ∧ ∀ x H', J.yld i H x H' → g x (wipe σ vs) H' fun σ2 H2 => wipe σ2 vs = wipe σ vs ∧ tt σ2 H2 fun b H3 =>
    if b = true then tk σ2 H3 fun y H4 => tv σ2 H4 fun z H5 => ∃ acc k, H5 D = some (.dK acc) ∧ y = kV k ∧ acc.length < sizeLine ∧ Nx (upd H5 D (.dK (putK acc k z))) else Nx H3)
/-- what an expression makes is locked for good -/
def tFrz (t : TE) : TE := fun σ H Q => t σ H fun v H1 => ∃ a u, v = .ref a ∧ H1 a = some u ∧ Mut (some u) ∧ ∀ od, Q v (upd H1 a (.frz od u))
end
end L2
namespace L2
open PySem PySem.Spec PyProof.Rows
section
variable {X : Cx} {K : PySem.W.Frag}
/-- what is told is locked for good -/
def rFrz (r : List V → Hp → VK → Prop) : List V → Hp → VK → Prop := fun xs H Q => r xs H fun v H1 => ∃ a u, v = .ref a ∧ H1 a = some u ∧ Mut (some u) ∧ ∀ od, Q v (upd H1 a (.frz od u))
theorem CallR.frz {f : Value} {r : List V → Hp → VK → Prop} (h : CallR X f r) : CallR X f (rFrz r) := by
  intro pins s σ H xs us Q I rs hw
  refine thn (h pins s σ H xs us _ I rs hw) fun v s1 ⟨x, H1, I1, r1, a, u, ex, hu, mu, q⟩ => ?_
  obtain ⟨od, I2⟩ := I1.lock hu mu
  exact ⟨x, _, I2, r1, q od⟩
def rDictP (K : PySem.W.Frag) : List V → Hp → VK → Prop := fun xs H Q => ∃ (a : Addr) (ps : List Addr) (kvs : List (Key × V)), xs = [.ref a] ∧ SqL K H a (ps.map V.ref) ∧ Paired (fun p kv => SqT K H p [kV kv.1, kv.2]) ps kvs ∧ ∀ p, H p = none → Q (.ref p) (upd H p (.dK (mergeK [] kvs)))
end
end L2
namespace DL
open PySem L2 ZG
section
variable {X : Cx} {K : PySem.W.Frag} {C : Fc} {Hs H : Hp} {σ : St} {ρ : DEnv} {e tg a b o : Expr} {es : List Expr} {fa fb fo fk fv : DE} {fr : DA} {fs : DS} {ft : DT} {pos : Pos}
/-! ### dicts by texts: made, never changed -/
def isK (x : Str) : PyData → Bool
  | .str k => decide (k = x)
  | _ => false
def putD (ds : List (PyData × PyData)) (x : Str) (d : PyData) : List (PyData × PyData) := if (ds.any fun p => isK x p.1) = true then ds.map (fun p => if isK x p.1 = true then (p.1, d) else p) else ds ++ [(.str x, d)]
def dlk (ds : List (PyData × PyData)) (x : Str) : Option PyData := (ds.find? fun p => isK x p.1).map (·.2)
def mergeD (ds : List (PyData × PyData)) (more : List (Str × PyData)) : List (PyData × PyData) := more.foldl (fun acc p => putD acc p.1 p.2) ds
/-! d[k], k in d, k not in d, d.get(k) -/
def oDSub : D2
  | .dict kvs, .str x, Q => ∃ d, dlk kvs x = some d ∧ Q (.dat d)
  | _, _, _ => False
def rDSub : R2 := fun x y H Q => ∃ a v, x = .ref a ∧ DGet H a y (some v) ∧ Q v H
def nb : Bool → Bool → Bool
  | true, b => !b
  | false, b => b
def oDIn (neg : Bool) : D2
  | .str x, .dict kvs, Q => plD kvs = true ∧ Q (.dat (.bool (nb neg (dlk kvs x).isSome)))
  | _, _, _ => False
def rDIn (neg : Bool) : R2 := fun y x H Q => ∃ a ov, x = .ref a ∧ DGet H a y ov ∧ Q (.bl (nb neg ov.isSome)) H
def gmD (dx dy : PyData) (k : PyData → Prop) : Prop := match dx, dy with
  | .dict kvs, .str z => plD kvs = true ∧ ∀ d, (dlk kvs z).getD .none = d → k d
  | _, _ => False
def dDGm (o a : DE) : DE := fun ρ Q => o ρ fun x ρ1 => wi (rd ρ1 (frz x)) fun dx => (∃ kvs, dx = .dict kvs ∧ plD kvs = true) ∧ a ρ1 fun y ρ2 => wi (rd ρ2 (frz x)) fun dx => wi (rd ρ2 y) fun dy => gmD dx dy fun d => Q (.dat d) ρ2
/-! dict(list of pairs) -/
def prs : List PyData → Option (List (Str × PyData))
  | [] => some []
  | .tuple [.str x, d] :: r => (prs r).map ((x, d) :: ·)
  | _ => none
def bDict : D1
  | [.list ds], Q => ws (prs ds) fun ps => Q (.dat (.dict (mergeD [] ps)))
  | _, _ => False
/-! {k: v for .. in ..} -/
def dcL (g : DG) (t : DT) (ek ev : DE) (vs : List Nat) (ρ0 : DEnv) : List PyData → List (PyData × PyData) → DEnv → (List (PyData × PyData) → DEnv → Prop) → Prop
  | [], acc, ρ, Q => Q acc ρ
  | d :: L, acc, ρ, Q => g d (dWipe ρ vs) fun ρ2 => t ρ2 fun b ρ3 => ifB b (ek ρ3 fun x ρ4 => wi (rd ρ4 x) fun dk => asS dk fun key => ev ρ4 fun y ρ5 => wf (frzs ρ5 [frz y]) fun ys ρ6 => one? ys fun z => acc.length < sizeLine ∧ dcL g t ek ev vs ρ0 L (putD acc key z) (dBack ρ0 ρ6 vs) Q) (dcL g t ek ev vs ρ0 L acc (dBack ρ0 ρ3 vs) Q)
def dDc (it : DI) (g : DG) (t : DT) (ek ev : DE) (vs : List Nat) : DE := fun ρ Q => it ρ fun L ρ1 => keepable ρ1 vs = true ∧ dcL g t ek ev vs ρ1 L [] ρ1 fun acc ρ2 => Q (.dat (.dict acc)) ρ2
def DcI (K : PySem.W.Frag) (C : Fc) (Hs1 : Hp) (σ : St) (D : Addr) (P : List (PyData × PyData) → DEnv → Prop) (H' : Hp) : Prop :=
  ∃ ρ' Hs' acc us, Rel K C Hs' H' σ ρ' ∧ Same Hs1 Hs' ∧ H' D = some (.dK us) ∧ Hs' D = none ∧ DqKv K Hs' us acc ∧ (∀ j, ¬ OwnAt σ ρ' j D) ∧ P acc ρ'
end
end DL
namespace DL
open PySem L2 ZG
section
variable {X : Cx} {K : PySem.W.Frag} {C : Fc} {Hs H : Hp} {σ : St} {ρ : DEnv} {e a b o : Expr} {es : List Expr} {fa fb fo : DE} {fr : DA} {pos p : Pos} {x : Str} {k : Nat} {ps : List Str} {sp : DSp}
/-! ### a def with values for parameters that are left out -/
structure HasD (P : Program) (w : World) (K : PySem.W.Frag) (mg : Str → Option Value) (base : Heap) (x : Str) (k : Nat) (ps : List Str) (dvs : List V) (sp : Sp) : Prop where
  ex : ∃ (f : Addr) (fd : FuncData) (ds : List Value), FnOk P w K mg base CX0 1 k f fd ps sp ∧ mg x = some (.ref f) ∧ PySem.W.keepIn K (.ref f) = true ∧ Binds K fd ps ds ∧ Vals dvs ds
def dCallD (sp : DSp) (dds : List PyData) (r : DA) : DE := fun ρ Q => r ρ fun xs ρ1 => wf (frzs ρ1 xs) fun ds ρ2 => sp ((ds ++ dds).map .dat) fun s _ => ws (rvOf s) fun y => Q y ρ2
end
end DL
namespace L2
open PySem PySem.Spec PyProof.Rows
section
variable {X : Cx} {m : Nat} {e : Expr} {es : List Expr} {te : TE} {t : TF}
def tfInt (te : TE) (t : TF) : TF := fun σ H k => te σ H fun v H1 => ∃ i : Int, v = .int i ∧ i.natAbs.log2 < 1920 ∧ (Str.ofString (toString i)).length ≤ 1000 ∧ t σ H1 fun ss H2 => k (Str.ofString (toString i) :: ss) H2
def tfBig (te : TE) (t : TF) : TF := fun σ H k => te σ H fun v H1 => ∃ z : Str, v = .str z ∧ z.length ≤ 900000 ∧ t σ H1 fun ss H2 => k (z :: ss) H2
variable {pos : Pos}
def tRevS2 (te : TE) : TE := fun σ H Q => te σ H fun x H1 => ∃ z, x = .str z ∧ z.length ≤ sizeLine ∧ ∀ y : Str, y.length = z.length → (∀ c ∈ y.cps.toList, c ∈ z.cps.toList) → Q (.str y) H1
end
end L2
namespace DL
open PySem L2 ZG
section
variable {X : Cx} {K : PySem.W.Frag} {C : Fc} {Hs H : Hp} {σ : St} {ρ : DEnv} {e : Expr} {fe : DE} {m : Nat} {es : List Expr} {t : DF}
def dfInt (a : DE) (t : DF) : DF := fun ρ Q => a ρ fun x ρ1 => wi (rd ρ1 x) fun d => asI d fun i => (i.natAbs.log2 < 1920 ∧ (Str.ofString (toString i)).length ≤ 1000) ∧ t ρ1 fun ss ρ2 => Q (Str.ofString (toString i) :: ss) ρ2
def dfBig (a : DE) (t : DF) : DF := fun ρ Q => a ρ fun x ρ1 => wi (rd ρ1 x) fun d => asS d fun z => z.length ≤ 900000 ∧ t ρ1 fun ss ρ2 => Q (z :: ss) ρ2
variable {pos : Pos}
def dRevS2 (a : DE) : DE := fun ρ Q => a ρ fun x ρ1 => wi (rd ρ1 x) fun d => asS d fun s => s.length ≤ sizeLine ∧ ∀ y : Str, y.length = s.length → (∀ c ∈ y.cps.toList, c ∈ s.cps.toList) → Q (.dat (.str y)) ρ1
end
end DL
namespace L2
open PySem PySem.Spec PyProof.Rows
section
variable {X : Cx} {K : PySem.W.Frag}
/-- l.count(y) -/
def rCount (K : PySem.W.Frag) : V → List V → Hp → VK → Prop := fun x xs H Q => ∃ a ds y e, x = .ref a ∧ xs = [y] ∧ Dp K H (.ref a) (.list ds) ∧ Dp K H y e ∧ PyData.canLayAll0 ds = true ∧ e.canLay0 = true ∧ e.depth ≤ 64 ∧ Q (.int ((ds.countP fun z => PyData.eqv z e : Nat) : Int)) H
end
end L2
namespace DL
open PySem L2 ZG
section
variable {X : Cx} {K : PySem.W.Frag} {C : Fc} {Hs H : Hp} {σ : St} {ρ : DEnv} {o e a b : Expr} {es : List Expr} {fo fa fb : DE} {fr : DA} {pos cpos apos : Pos} {name : Str} {id : String}
def bOrd : D1
  | [.str z], Q => z.length = 1 ∧ Q (.dat (.int (z.cps.getD 0 0 : Nat)))
  | _, _ => False
def intsOf : List PyData → Option (List Int)
  | [] => some []
  | .int i :: r => (intsOf r).map (i :: ·)
  | _ => none
def bMaxL : D1
  | [.list ds], Q => ws (intsOf ds) fun ns => 0 < ns.length ∧ ∀ m, m ∈ ns → (∀ y, y ∈ ns → y ≤ m) → Q (.dat (.int m))
  | _, _ => False
/-! l.count(y) -/
def cntD (dx dy : PyData) (k : Nat → Prop) : Prop := match dx with
  | .list ds => (PyData.canLayAll0 ds = true ∧ dy.canLay0 = true ∧ dy.depth ≤ 64) ∧ k (ds.countP fun z => PyData.eqv z dy)
  | _ => False
def dCount (o a : DE) : DE := fun ρ Q => o ρ fun x ρ1 => wi (rd ρ1 (frz x)) fun dx => (∃ ds, dx = .list ds) ∧ a ρ1 fun y ρ2 => wi (rd ρ2 (frz x)) fun dx => wi (rd ρ2 (frz y)) fun dy => cntD dx dy fun n => Q (.dat (.int (n : Nat))) ρ2
end
end DL
namespace HT
open PySem PySem.Spec PyProof.Rows L2
section
variable {prog : Program} {w : World} {A : Around} {E : Value → Shared → Prop} {s : Shared}

end
end HT
namespace L2
open PySem PySem.Spec PyProof.Rows
section
variable {X : Cx} {K : PySem.W.Frag} {e : Expr} {te : TE} {pos : Pos}
/-- the whole tuple again -/
def rSlW (K : PySem.W.Frag) : V → Option Int → Option Int → Hp → VK → Prop := fun x lo hi H Q => ∃ a xs, x = .ref a ∧ SqT K H a xs ∧ (HT.sIx xs.length 0 lo = 0 ∧ HT.sIx xs.length xs.length hi = xs.length) ∧ Q (.ref a) H
def rSl3 (K : PySem.W.Frag) : V → Option Int → Option Int → Hp → VK → Prop := fun x lo hi H Q => DL.rSl2 K x lo hi H Q ∨ rSlW K x lo hi H Q
/-- e[::-1], e a tuple -/
def tRevT (K : PySem.W.Frag) (te : TE) : TE := fun σ H Q => te σ H fun x H1 => ∃ a xs, x = .ref a ∧ SqT K H1 a xs ∧ ∀ p, H1 p = none → Q (.ref p) (upd H1 p (.tup xs.reverse))
end
end L2
namespace DL
open PySem L2 ZG
section
variable {X : Cx} {K : PySem.W.Frag} {C : Fc} {Hs H : Hp} {σ : St} {ρ : DEnv} {o e a b : Expr} {fa fb : DE} {pos : Pos}
def oSl3 : PyData → Option Int → Option Int → (Rv → Prop) → Prop
  | .str z, lo, hi, Q => z.length ≤ sizeLine ∧ Q (.dat (.str (cutS z lo hi)))
  | .list ds, lo, hi, Q => Q (.new (cutD ds lo hi))
  | .tuple ds, lo, hi, Q => Q (.dat (.tuple (cutD ds lo hi)))
  | _, _, _, _ => False
def dSl3 (a : DE) (lo hi : DO) : DE := fun ρ Q => a ρ fun x ρ1 => lo ρ1 fun l ρ2 => hi ρ2 fun u ρ3 => wi (rd ρ3 (frz x)) fun d => oSl3 d l u fun r => Q r ρ3
def asTup (d : PyData) (k : List PyData → Prop) : Prop := match d with
  | .tuple ds => k ds
  | _ => False
def dRevT (a : DE) : DE := fun ρ Q => a ρ fun x ρ1 => wi (rd ρ1 x) fun d => asTup d fun ds => Q (.dat (.tuple ds.reverse)) ρ1
end
end DL
namespace L2
open PySem PySem.Spec PyProof.Rows
/-- a tuple times an int from 2 on -/
def rRepT (K : PySem.W.Frag) : R2 := fun x y H Q => ∃ a k xs, x = .ref a ∧ y = .int k ∧ SqT K H a xs ∧ xs ≠ [] ∧ 1 < k ∧ xs.length * k.toNat ≤ sizeLine ∧
  ∀ p, H p = none → Q (.ref p) (upd H p (.tup (List.replicate k.toNat xs).flatten))
end L2
namespace DL
open PySem L2 ZG
def oRepT : D2
  | .tuple a, .int n, Q => (a ≠ [] ∧ 1 < n ∧ a.length * n.toNat ≤ sizeLine) ∧ Q (.dat (.tuple (List.replicate n.toNat a).flatten))
  | _, _, _ => False
end DL
namespace DL
open PySem L2 ZG
section
variable {X : Cx} {K : PySem.W.Frag} {x : Str} {pos : Pos}
end
end DL
namespace L2
open PySem PySem.Spec PyProof.Rows
section
variable {X : Cx} {K : PySem.W.Frag}
def boolT (b : Bool) : Str := if b then "True" else "False"
def intT (i : Int) : Str := toString i
def rReprS : List V → Hp → VK → Prop := fun xs H Q => (xs = [.non] ∧ Q (.str "None") H) ∨ (∃ b, xs = [.bl b] ∧ Q (.str (boolT b)) H) ∨ (∃ i, xs = [.int i] ∧ i.natAbs.log2 < 1920 ∧ Q (.str (intT i)) H) ∨ ∃ z, xs = [.str z] ∧ (reprText z).length ≤ sizeLine ∧ Q (.str (reprText z)) H
def rReprA (K : PySem.W.Frag) : List V → Hp → VK → Prop := fun xs H Q => rRepr K xs H Q ∨ rReprS xs H Q
end
end L2
namespace DL
open PySem L2 ZG
section
variable {X : Cx} {K : PySem.W.Frag} {C : Fc} {Hs H : Hp} {σ : St} {ρ : DEnv}
def reprT : PyData → Str
  | .none => "None"
  | .bool b => boolT b
  | .int i => intT i
  | .str z => reprText z
  | d => d.shown
def reprC : PyData → Prop
  | .none => True
  | .bool _ => True
  | .int i => i.natAbs.log2 < 1920
  | .str z => (reprText z).length ≤ sizeLine
  | .list ds => reprOk (.list ds) = true
  | .tuple ds => reprOk (.tuple ds) = true
  | .dict _ => False
def bReprA : D1
  | [d], Q => reprC d ∧ Q (.dat (.str (reprT d)))
  | _, _ => False
end
end DL
namespace L2
open PySem PySem.Spec PyProof.Rows
section
variable {X : Cx} {K : PySem.W.Frag}
/-- xs with y put in ahead of place k -/
def putIn {α : Type} (xs : List α) (k : Nat) (y : α) : List α := xs.take k ++ y :: xs.drop k
def rInsert : V → List V → Hp → VK → Prop := fun x vs H Q => ∃ l xs i y, x = .ref l ∧ vs = [.int i, y] ∧ H l = some (.lst xs) ∧ 0 ≤ i ∧ i ≤ (xs.length : Int) ∧ xs.length < sizeLine ∧ Q .non (upd H l (.lst (putIn xs i.toNat y)))
end
end L2
namespace DL
open PySem L2 ZG
section
variable {X : Cx} {K : PySem.W.Frag} {C : Fc} {Hs H : Hp} {σ : St} {ρ : DEnv} {o e a b : Expr} {es : List Expr} {fo fa fb : DE} {fr : DA} {pos cpos apos : Pos}
def mInsert : MF := fun cs as => match as with
  | [.int i, d] => if 0 ≤ i ∧ i ≤ (cs.length : Int) ∧ cs.length < sizeLine then some (.none, putIn cs i.toNat d) else none
  | _ => none
/-- sorted(a list of texts), fewer than 64 -/
def bSortedS : D1
  | [.list ds], Q => ws (strsD ds) fun xs => xs.length < 64 ∧ ∀ ys : List Str, ys.Perm xs → PyProof.Rows.sortedS ys = true → Q (.new (ys.map PyData.str))
  | _, _ => False
end
end DL
namespace SS
open PySem
theorem orStandIn_led (t : SetTable) (n : Nat) : (t.orStandIn n).led = t.led := by
  unfold SetTable.orStandIn
  split <;> rfl
theorem put_led (t : SetTable) (j : Nat) : (t.put j).1.led = t.led := by
  unfold SetTable.put
  split <;> rfl
theorem layNew_led (t : SetTable) (es : Array (Int × Value)) (h : Int) (x : Value) : (layNew t es h x).2.1.led = t.led := by
  unfold layNew
  split
  · rename_i slot wd _
    show ((t.put slot).1.orStandIn _).led = _
    rw [orStandIn_led, put_led]
  · rfl
theorem relaid_led {t t' : SetTable} {hs : Array Int} {wanted : Nat} {order : Array Nat} (h : t.relaid hs wanted = some (t', order)) : t'.led = t.led ∧ t'.plain = t.plain := by
  unfold SetTable.relaid SetTable.laid at h
  obtain ⟨ow, e, h⟩ := Option.bind_eq_some_iff.mp h
  cases h
  exact ⟨rfl, rfl⟩
theorem relayAll_led (t : SetTable) (es : Array (Int × Value)) (wanted : Nat) : (relayAll t es wanted).2.1.led = t.led ∧ (t.plain = false → (relayAll t es wanted).2.1.plain = false) := by
  unfold relayAll
  split
  · rename_i t' order h
    have hl := relaid_led h
    dsimp only
    split
    · exact ⟨hl.1, fun e => by rw [← e]; exact hl.2⟩
    · exact ⟨rfl, fun _ => rfl⟩
  · exact ⟨rfl, fun _ => rfl⟩
end SS
namespace SS
open PySem
/-- whether sets are walked in the text's order -/
def byT (w : World) : Bool := w.params.followText "set-order"
def keyOf : Value → Str
  | .str y _ => y
  | _ => ""
def keys (es : List (Int × Value)) : List Str := es.map fun e => keyOf e.2
def Ent (w : World) (e : Int × Value) : Prop := ∃ y t, e = (hashStr w y, Value.str y t)
structure TabOk (w : World) (es : Array (Int × Value)) (t : SetTable) : Prop where
  ents : ∀ e ∈ es.toList, Ent w e
  nd : (keys es.toList).Nodup
  small : es.size < scanBound
  fits : t.fits es.size = true
  led : t.led = !byT w
  plain : 0 < es.size → t.plain = false
def TS (w : World) (h : Heap) (a : Addr) (ys : List Str) : Prop := ∃ o es ep t, h.get? a = some o ∧ o.ExactSet ∧ o.data = .set es ep t ∧ TabOk w es t ∧ (keys es.toList).Perm ys
section
variable {prog : Program} {w : World} {A : Around} {E : Value → Shared → Prop} {s : Shared}
theorem Ent.elems {es : List (Int × Value)} (h : ∀ e ∈ es, Ent w e) : ElemsOf (strKind prog w) es := fun e he => by
  obtain ⟨y, t, rfl⟩ := h e he
  exact ⟨⟨y, strKind_is _ _ _ _, rfl⟩, rfl⟩
theorem is_key {k : Str} {e : Int × Value} (h : Ent w e) : (strKind prog w).is k e.2 = true ↔ k = keyOf e.2 := by
  obtain ⟨y, t, rfl⟩ := h
  constructor
  · intro h
    exact (strKind prog w).inj _ _ _ h (strKind_is _ _ _ _)
  · intro h
    have h : k = y := h
    subst h
    exact strKind_is _ _ _ _
theorem find_none {k : Str} {es : List (Int × Value)} (h : ∀ e ∈ es, Ent w e) : es.findIdx? (fun e => (strKind prog w).is k e.2) = none ↔ k ∉ keys es := by
  rw [List.findIdx?_eq_none_iff]
  constructor
  · intro q hk
    obtain ⟨e, he, rfl⟩ := List.mem_map.mp hk
    have := q e he
    rw [(is_key (h e he)).mpr rfl] at this
    cases this
  · intro q e he
    cases hb : (strKind prog w).is k e.2 with
    | false => rfl
    | true => exact absurd (List.mem_map.mpr ⟨e, he, ((is_key (h e he)).mp hb).symm⟩) q
/-- what is stored -/
theorem store {h : Heap} {a : Addr} {o : Obj} {es es' : Array (Int × Value)} {ep : Nat} {t t' : SetTable} {ys : List Str} (ho : h.get? a = some o) (hex : o.ExactSet) (hd : o.data = .set es ep t) (ok : TabOk w es' t') (hp : (keys es'.toList).Perm ys) :
    ∃ o', (h.update a (Obj.putSet es' t')).get? a = some o' ∧ o'.ExactSet ∧ o'.data = .set es' (ep + 1) t' ∧ TS w (h.update a (Obj.putSet es' t')) a ys := by
  have hg : (h.update a (Obj.putSet es' t')).get? a = some { o with data := .set es' (ep + 1) t' } := by
    have := Heap.get?_update_self (Obj.putSet es' t') ho (by rw [putSet_of es' t' hd]; rfl)
    rw [putSet_of es' t' hd] at this; exact this
  exact ⟨_, hg, hex, rfl, _, es', ep + 1, t', hg, hex, rfl, ok, hp⟩
theorem keys_perm {l l' : List (Int × Value)} (p : l'.Perm l) : (keys l').Perm (keys l) := p.map _
theorem TabOk.perm {es es' : Array (Int × Value)} {t t' : SetTable} (h : TabOk w es t) (p : es'.toList.Perm es.toList) (hf : t'.fits es'.size = true) (hl : t'.led = t.led) (hp : t.plain = false → t'.plain = false) : TabOk w es' t' := by
  have hs : es'.size = es.size := by rw [← Array.length_toList, p.length_eq, Array.length_toList]
  exact ⟨fun e he => h.ents e (p.mem_iff.mp he), (keys_perm p).nodup_iff.mpr h.nd, by rw [hs]; exact h.small, hf, by rw [hl]; exact h.led, fun q => hp (h.plain (by rw [← hs]; exact q))⟩
theorem add_str {a : Addr} {ys : List Str} {k : Str} {tk : Tok} {Q : Bool → Shared → Prop} (hS : TS w s.heap a ys) (hroom : ys.length + 1 < scanBound)
    (h : ∀ (h' : Heap) (b : Bool), Heap.SameBut a s.heap h' → TS w h' a (if k ∈ ys then ys else ys ++ [k]) → Q b { s with heap := h' }) :
    wpAny (model prog w) A (setAddHashed a (.str k tk) (hashStr w k)) Q E s := by
  obtain ⟨o, es, ep, t, ho, hex, hd, ok, hp⟩ := hS
  have hel : ElemsOf (strKind prog w) es.toList := Ent.elems ok.ents
  have hsz : es.size = ys.length := by rw [← hp.length_eq]; unfold keys; rw [List.length_map, Array.length_toList]
  have hkey : (strKind prog w).is k (.str k tk) = true := strKind_is _ _ _ _
  have hsc : (Value.str k tk).scannable = true := rfl
  unfold setAddHashed setAddHashedIn
  refine wpAny_holding (wpAny_bind (wpAny_setState_of ho hd ok.fits ?_))
  dsimp only
  rw [byScan_of hsc ok.small hel]
  simp only [↓reduceIte]
  unfold setAddByScan
  refine wpAny_bind ?_
  refine wpAny_bind (wpAny_rule ?_)
  refine wpAny_bind (wpAny_setScan_of (knd := strKind prog w) (k := k) hkey ho hd ok.fits hel ?_)
  cases hr : List.findIdx? (fun e => (strKind prog w).is k e.2) es.toList with
  | some j =>
    dsimp only
    have hk : k ∈ ys := by
      refine hp.mem_iff.mp ?_
      refine Decidable.by_contra fun q => ?_
      rw [(find_none ok.ents).mpr q] at hr
      cases hr
    refine wpAny_pure (wpAny_pure ?_)
    have e : s = { s with heap := s.heap } := by cases s; rfl
    have := h s.heap false (Heap.SameBut.refl a s.heap) (by rw [if_pos hk]; exact ⟨o, es, ep, t, ho, hex, hd, ok, hp⟩)
    rw [e]; exact this
  | none =>
    dsimp only
    have hk : k ∉ ys := fun q => (find_none ok.ents).mp hr (hp.mem_iff.mpr q)
    have hgw : ∀ (b : Bool) {s₁ : Shared} {Q' : Unit → Shared → Prop}, Q' () s₁ → wpAny (model prog w) A (match b with | true => rule "set.scan.the-table-gave-way" | false => pure ()) Q' E s₁ :=
      fun b s₁ Q' hq => by cases b <;> first | exact wpAny_pure hq | exact wpAny_rule hq
    have hperm := layNew_perm t es (hashStr w k) (.str k tk)
    have hfits := layNew_fits t es (hashStr w k) (.str k tk)
    have hled := layNew_led t es (hashStr w k) (.str k tk)
    show wpAny _ _ (match layNew t es (hashStr w k) (.str k tk) with | (es, t, wasDummy, gave) => _) _ _ _
    generalize layNew t es (hashStr w k) (.str k tk) = L at hperm hfits hled ⊢
    obtain ⟨es1, t1, wasDummy, gave⟩ := L
    dsimp only at hperm hfits hled ⊢
    rw [Array.toList_push] at hperm
    have hks : (keys es1.toList).Perm (ys ++ [k]) := by
      refine (keys_perm hperm).trans ?_
      unfold keys
      rw [List.map_append]
      exact (show (keys es.toList ++ [k]).Perm (ys ++ [k]) from hp.append_right _)
    have hsz1 : es1.size = ys.length + 1 := by rw [← Array.length_toList, hperm.length_eq, List.length_append, Array.length_toList, hsz]; rfl
    have ok1 : ∀ t2 : SetTable, t2.fits es1.size = true → t2.led = t.led → t2.plain = false → TabOk w es1 t2 := fun t2 hf hl hp2 => by
      refine ⟨fun e he => ?_, hks.nodup_iff.mpr ?_, by omega, hf, by rw [hl]; exact ok.led, fun _ => hp2⟩
      · rcases List.mem_append.mp (hperm.mem_iff.mp he) with he | he
        · exact ok.ents e he
        · rw [List.mem_singleton.mp he]; exact ⟨k, tk, rfl⟩
      · have := hp.nodup_iff.mp ok.nd
        exact List.nodup_append.mpr ⟨this, List.nodup_cons.mpr ⟨by simp, List.nodup_nil⟩, fun a ha b hb => by rw [List.mem_singleton.mp hb]; exact fun e => hk (e ▸ ha)⟩
    have fin : ∀ (t2 : SetTable), t2.fits es1.size = true → t2.led = t.led → t2.plain = false → wpAny (model prog w) A (do
        storeSet a es1 t2
        if (!wasDummy && t2.tooFull) = true then do
            (match (relayAll t2 es1 (SetTable.grown es1.size)).2.2 with | true => rule "set.scan.the-table-gave-way" | false => pure ())
            storeSet a (relayAll t2 es1 (SetTable.grown es1.size)).1 (relayAll t2 es1 (SetTable.grown es1.size)).2.1
            pure (some true)
          else pure (some true)) (fun r s' => ∃ h', s' = { s with heap := h' } ∧ r = some true ∧ Heap.SameBut a s.heap h' ∧ TS w h' a (ys ++ [k])) E s := by
      intro t2 hf hl hp2
      have okt := ok1 t2 hf hl hp2
      refine wpAny_bind (wpAny_storeSet_of ho hd ?_ (fits_of_scanBound okt.small))
      obtain ⟨o1, ho1, hex1, hd1, hS1⟩ := store ho hex hd okt hks
      have hsb1 := Heap.SameBut.update s.heap a (Obj.putSet es1 t2)
      split
      · have hp3 := relayAll_perm t2 es1 (SetTable.grown es1.size)
        have hf3 := relayAll_fits t2 es1 (SetTable.grown es1.size)
        have hl3 := relayAll_led t2 es1 (SetTable.grown es1.size)
        generalize relayAll t2 es1 (SetTable.grown es1.size) = Rl at hp3 hf3 hl3 ⊢
        obtain ⟨es2, t3, gave2⟩ := Rl
        dsimp only at hp3 hf3 hl3 ⊢
        have ok3 := okt.perm hp3 hf3 hl3.1 hl3.2
        refine wpAny_bind (hgw _ ?_)
        refine wpAny_bind (wpAny_storeSet_of ho1 hd1 ?_ (fits_of_scanBound ok3.small))
        obtain ⟨_, _, _, _, hS2⟩ := store ho1 hex1 hd1 ok3 ((keys_perm hp3).trans hks)
        exact wpAny_pure ⟨_, rfl, rfl, hsb1.trans (Heap.SameBut.update _ a _), hS2⟩
      · exact wpAny_pure ⟨_, rfl, rfl, hsb1, hS1⟩
    have done : ∀ s', (∃ h', s' = { s with heap := h' } ∧ Heap.SameBut a s.heap h' ∧ TS w h' a (ys ++ [k])) → ∀ b, Q b s' := fun s' ⟨h', e, q1, q2⟩ b => by
      subst e
      exact h h' b q1 (by rw [if_neg hk]; exact q2)
    refine wpAny_bind (hgw _ ?_)
    split
    · refine wpAny_bind ?_
      rw [hashByValue_scannable 8 hsc]
      refine wpAny_pure ?_
      refine wpAny_mono (fin _ ?_ ?_ ?_) ?_ fun _ _ e => e
      · exact SetTable.fits_plain_off hfits
      · exact hled
      · rfl
      · rintro r s' ⟨h', rfl, rfl, q1, q2⟩
        exact wpAny_pure (done _ ⟨h', rfl, q1, q2⟩ _)
    · refine wpAny_bind (wpAny_pure ?_)
      simp only [↓reduceIte]
      refine wpAny_mono (fin t1 hfits hled ?_) ?_ fun _ _ e => e
      · rename_i hnp
        simpa using hnp
      · rintro r s' ⟨h', rfl, rfl, q1, q2⟩
        exact wpAny_pure (done _ ⟨h', rfl, q1, q2⟩ _)
end
end SS
namespace SS
open PySem PyProof.Rows
/-- each once, in the order met -/
def dd1 (acc : List Str) (x : Str) : List Str := if x ∈ acc then acc else acc ++ [x]
def dd (xs : List Str) : List Str := xs.foldl dd1 []
def ddN (val : Nat → Str) (i : Nat) : List Str := dd ((List.range i).map val)
theorem TS.at' {w : World} {h h' : Heap} {a : Addr} {ys : List Str} (x : TS w h a ys) (k : ∀ o, h.get? a = some o → h'.get? a = some o) : TS w h' a ys :=
  let ⟨o, es, ep, t, ho, r⟩ := x; ⟨o, es, ep, t, k o ho, r⟩
theorem TS.fresh {w : World} {h : Heap} {a : Addr} (hg : h.get? a = some { cls := .type "set", dict := none, data := .set #[] 0 (.fresh 0 0 (!byT w)) }) : TS w h a [] :=
  ⟨_, #[], 0, _, hg, ⟨rfl, rfl, rfl⟩, rfl, ⟨fun e he => by simp at he, List.nodup_nil, by unfold scanBound; show 0 < 4096; omega, rfl, rfl, fun h => absurd h (by simp)⟩, List.Perm.refl _⟩
section
variable {prog : Program} {w : World} {A : Around} {R : Result → Shared → Prop} {I : Addr} {fp wr : List Addr} {G : Array GenState → Array GenState → Prop} {n : Nat} {P : Nat → Value → Prop} {St : Nat → Shared → Prop}
end
end SS
namespace SS
open PySem
end SS
namespace PySem.F
end PySem.F
namespace SS
open PySem
def itObj (first : Value) (i : Nat) (S : Addr) (n ep : Nat) : Obj := { cls := .type "set_iterator", dict := none, data := .fields #[first, .int i 0, .ref S, .int n 0, .int ep 0], slots := #[] }
section
variable {prog : Program} {w : World} {A : Around} {E : Value → Shared → Prop} {s : Shared} {I S T : Addr} {i n ep slot : Nat} {o : Obj} {es : Array (Int × Value)} {t : SetTable} {x : Value} {Q : Option Value → Shared → Prop}
end
end SS
namespace SS
open PySem
theorem one_of {xs : Array Nat} (h : xs.size = 1) : ∃ p, xs = #[p] := by
  obtain ⟨l⟩ := xs
  match l, h with
  | [p], _ => exact ⟨p, rfl⟩
def PL (L : List (Int × Value)) (i : Nat) (v : Value) : Prop := ∃ h, L[i]? = some (h, v)
section
variable {prog : Program} {w : World} {A : Around} {E : Value → Shared → Prop} {s : Shared} {I S T : Addr} {i n ep slot : Nat} {o : Obj} {es : Array (Int × Value)} {t : SetTable} {x : Value}
end
end SS
namespace SS
open PySem
section
variable {prog : Program} {w : World} {A : Around} {E : Value → Shared → Prop} {s : Shared}
/-- a new empty set -/
def bare (w : World) : Obj := { cls := .type "set", dict := none, data := .set #[] 0 (.fresh 0 0 (!byT w)) }
end
end SS
namespace SS
open PySem
section
variable {prog : Program} {w : World} {A : Around} {E : Value → Shared → Prop} {s : Shared} {S : Addr} {ys : List Str}
open PyProof.Rows in
end
end SS
namespace L2
open PySem PySem.Spec PyProof.Rows
section
variable {X : Cx} {K : PySem.W.Frag} {e : Expr} {ta : TA} {p p2 pos pos2 : Pos}
/-- sorted(set(e)), e a list or a tuple of fewer than 64 texts -/
def rSset (K : PySem.W.Frag) : List V → Hp → VK → Prop := fun vs H Q => ∃ (a : Addr) (xs : List Str), vs = [V.ref a] ∧ (SqL K H a (xs.map V.str) ∨ SqT K H a (xs.map V.str)) ∧ xs.length < 63 ∧
  ∀ (ys : List Str) (p : Addr), ys.Perm (SS.dd xs) → sortedS ys = true → H p = none → Q (.ref p) (upd H p (.lst (ys.map V.str)))
end
end L2
namespace DL
open PySem L2 ZG
section
variable {X : Cx} {K : PySem.W.Frag} {e : Expr} {fr : DA} {p p2 pos pos2 : Pos}
def seqD : PyData → Option (List PyData)
  | .list ds => some ds
  | .tuple ds => some ds
  | _ => none
def bSset : D1
  | [d], Q => ws (seqD d) fun ds => ws (strsD ds) fun xs => xs.length < 63 ∧ ∀ ys : List Str, ys.Perm (SS.dd xs) → PyProof.Rows.sortedS ys = true → Q (.new (ys.map PyData.str))
  | _, _ => False
end
end DL
namespace L2
open PySem PySem.Spec PyProof.Rows
section
variable {X : Cx} {K : PySem.W.Frag}
/-- l.index(y), y in l -/
def rIndexD (K : PySem.W.Frag) : V → List V → Hp → VK → Prop := fun x xs H Q => ∃ a ds y e j, x = .ref a ∧ xs = [y] ∧ Dp K H (.ref a) (.list ds) ∧ Dp K H y e ∧ PyData.canLayAll0 ds = true ∧ e.canLay0 = true ∧ e.depth ≤ 64 ∧ ds.length < sizeLine ∧ ds.findIdx? (fun z => PyData.eqv z e) = some j ∧ Q (.int ((j : Nat) : Int)) H
end
end L2
namespace DL
open PySem L2 ZG
section
variable {X : Cx} {K : PySem.W.Frag} {C : Fc} {Hs H : Hp} {σ : St} {ρ : DEnv} {o e a b : Expr} {es : List Expr} {fo fa fb : DE} {fr : DA} {pos cpos apos : Pos} {name : Str} {id : String}
/-! l.index(y) -/
def ixD (dx dy : PyData) (k : Nat → Prop) : Prop := match dx with
  | .list ds => (PyData.canLayAll0 ds = true ∧ dy.canLay0 = true ∧ dy.depth ≤ 64 ∧ ds.length < sizeLine) ∧ ws (ds.findIdx? fun z => PyData.eqv z dy) k
  | _ => False
def dIndex (o a : DE) : DE := fun ρ Q => o ρ fun x ρ1 => wi (rd ρ1 (frz x)) fun dx => (∃ ds, dx = .list ds) ∧ a ρ1 fun y ρ2 => wi (rd ρ2 (frz x)) fun dx => wi (rd ρ2 (frz y)) fun dy => ixD dx dy fun n => Q (.dat (.int (n : Nat))) ρ2
end
end DL
namespace L2
open PySem PySem.Spec PyProof.Rows
section
variable {X : Cx} {K : PySem.W.Frag} {pos : Pos}
/-- d.update(o); d is locked for good behind it -/
def rUpdF : V → List V → Hp → VK → Prop := fun x xs H Q => ∃ (d o : Addr) (kvs more : List (Key × V)), x = .ref d ∧ xs = [.ref o] ∧ d ≠ o ∧ H d = some (.dK kvs) ∧ H o = some (.dK more) ∧ kvs.length + more.length ≤ sizeLine ∧ ∀ od, Q .non (upd H d (.frz od (.dK (mergeK kvs more))))
theorem KV.len {κ : Type} {a : List (κ × V)} {b : List (κ × Value)} (h : KV a b) : a.length = b.length := by
  unfold KV at h
  induction h with
  | nil => rfl
  | cons _ _ ih => rw [List.length_cons, List.length_cons, ih]
end
end L2
namespace DL
open PySem L2 ZG
section
variable {X : Cx} {K : PySem.W.Frag} {C : Fc} {Hs H : Hp} {σ : St} {ρ : DEnv} {e v : Expr} {fa : DE} {fr f1 f2 : DA} {fu : DS} {pos : Pos} {keys : List (Option Expr)} {values : List Expr} {ks ks1 ks2 : List Str} {sts : List Stmt}
/-! ### {'a': .., ..} -/
def dEmpD : DE := fun ρ Q => Q (.dat (.dict [])) ρ
def upP (K : PySem.W.Frag) (ks : List Str) (F : DA) (σ : St) (H : Hp) (Q : List (V × V) → Hp → Prop) : Prop := ∃ C Hs ρ QD, Rel K C Hs H σ ρ ∧ F ρ QD ∧ ∀ xs ρ' vs Hs' H', Rel K C Hs' H' σ ρ' → Same Hs Hs' → RVals K C Hs' H' σ ρ' xs vs → QD xs ρ' → Q ((ks.zip vs).map fun p => (V.str p.1, p.2)) H'
@[irreducible] def QP (K : PySem.W.Frag) (X : Cx) (pos : Pos) (keys : List (Option Expr)) (values : List Expr) (ks : List Str) (F : DA) : Prop := ∃ trs, PPs X pos keys values trs ∧ ∀ σ H Q, upP K ks F σ H Q → tPairs trs σ H Q
theorem QP.out (h : QP K X pos keys values ks fr) : ∃ trs, PPs X pos keys values trs ∧ ∀ σ H Q, upP K ks fr σ H Q → tPairs trs σ H Q := by
  with_unfolding_all
    exact h
def kvOf (ks : List Str) (vs : List V) : List (Key × V) := (ks.zip vs).map fun p => (.inr p.1, p.2)
def dkv (ks : List Str) (ds : List PyData) : List (PyData × PyData) := (ks.zip ds).map fun p => (.str p.1, p.2)
def dDup (i : Nat) (ks1 : List Str) (f1 : DA) (ks2 : List Str) (f2 : DA) (rest : DS) : DS := fun D ρ => f1 ρ fun xs ρ1 => wf (frzs ρ1 xs) fun ds ρ2 => (ds.length = ks1.length ∧ (ρ2[i]?).isSome = true) ∧ f2 (ρ2.set i .no) fun ys ρ3 => wf (frzs ρ3 ys) fun es ρ4 => es.length = ks2.length ∧ rest D (ρ4.set i (.dat (.dict (dkv ks1 ds ++ dkv ks2 es))))
end
end DL
namespace L2
open PySem PySem.Spec PyProof.Rows
section
variable {X : Cx} {K : PySem.W.Frag}
/-- t.index(y), y in t -/
def rIndexT (K : PySem.W.Frag) : V → List V → Hp → VK → Prop := fun x xs H Q => ∃ a ds y e j, x = .ref a ∧ xs = [y] ∧ Dp K H (.ref a) (.tuple ds) ∧ Dp K H y e ∧ PyData.canLayAll0 ds = true ∧ e.canLay0 = true ∧ e.depth ≤ 64 ∧ ds.findIdx? (fun z => PyData.eqv z e) = some j ∧ Q (.int ((j : Nat) : Int)) H
end
end L2
namespace DL
open PySem L2 ZG
section
variable {X : Cx} {K : PySem.W.Frag} {C : Fc} {Hs H : Hp} {σ : St} {ρ : DEnv} {o e a b : Expr} {es : List Expr} {fo fa fb : DE} {fr : DA} {pos cpos apos : Pos} {name : Str} {id : String}
/-! a store into a place: xs[k] = .. within a tuple of targets -/
def gdSub (j : Nat) (k : Int) : DG := fun d ρ Q => ws (lst? ρ j) fun cs => ws (ixN cs.length k) fun n => Q (reS ρ j (cs.set n d))
theorem ug_sub {j : Nat} {k : Int} : upG K (gdSub j k) (gSub (tVar j) (tC (.int k)) rSetL) := fun C Hs H σ ρ v d QD Q R dq h kk => by
  obtain ⟨cs, ec, h⟩ := ws_some h
  obtain ⟨m, em, h⟩ := ws_some h
  obtain ⟨a, ow, ol⟩ := lst_own R ec
  obtain ⟨us, e1, e2, e3, e4⟩ := id ol
  exact ⟨.ref a, ow.1, a, us, k, m, rfl, rfl, e1, by rw [dpa_len e3]; exact em, kk _ _ Hs _ (reS_set R ow ol (dpa_set dq m e3)) (Same.refl _) h⟩
end
end DL
namespace L2
open PySem PySem.Spec PyProof.Rows
section
variable {X : Cx} {K : PySem.W.Frag}
def rExtT (K : PySem.W.Frag) : V → List V → Hp → VK → Prop := fun x vs H Q => ∃ l b xs zs, x = .ref l ∧ vs = [.ref b] ∧ H l = some (.lst xs) ∧ SqT K H b zs ∧ xs.length + zs.length ≤ sizeLine ∧ Q .non (upd H l (.lst (xs ++ zs)))
end
end L2
namespace DL
open PySem L2 ZG
section
variable {X : Cx} {K : PySem.W.Frag} {C : Fc} {Hs H : Hp} {σ : St} {ρ : DEnv} {o e a b : Expr} {es : List Expr} {fo fa fb : DE} {fr : DA} {p pos cpos apos : Pos} {x name : Str} {id : String}
/-! G.index(y), G a tuple of the module -/
def dGIndex (cs : List PyData) (a : DE) : DE := fun ρ Q => a ρ fun y ρ1 => wi (rd ρ1 (frz y)) fun dy => (PyData.canLayAll0 cs = true ∧ dy.canLay0 = true ∧ dy.depth ≤ 64) ∧ ws (cs.findIdx? fun z => PyData.eqv z dy) fun j => Q (.dat (.int (j : Nat))) ρ1
def mExtT : MF := fun cs as => match as with
  | [.tuple ds] => if cs.length + ds.length ≤ sizeLine then some (.none, cs ++ ds) else none
  | _ => none
def LMutK (K : PySem.W.Frag) (r : V → List V → Hp → VK → Prop) (f : MF) : Prop := ∀ (Hs H : Hp) (l : Addr) (us : List V) (cs : List PyData) (vs : List V) (as : List PyData) (d : PyData) (cs' : List PyData) (Q : VK), Same Hs H → H l = some (.lst us) → DqAll K Hs us cs → DqAll K Hs vs as → f cs as = some (d, cs') →
  (∀ v us', Dq K Hs v d → DqAll K Hs us' cs' → Q v (upd H l (.lst us'))) → r (.ref l) vs H Q
end
end DL
namespace DL
open PySem L2 ZG
section
variable {X : Cx} {K : PySem.W.Frag} {x g y : Str} {k i : Nat} {ps ks : List Str} {sp : DSp} {p p' pos kpos : Pos} {e : Expr} {es : List Expr} {kws : List Keyword} {fe : DE} {fr fk : DA} {nm : Option Str}
/-! ### a def handed on -/
theorem pe_globN {f : Addr} (hg : Gl X x) (a : PySem.W.nsIn X.K mainGlobals x = some (some (.ref f))) (hd : (x == ("__debug__" : Str)) = false := by decide) : PE X (.Name x pos) (tC (.ref f)) :=
  fun _ _ _ H _ I h => ld_glob I hg (PySem.W.mg_of I.ok.mod.kin I.mod.glob a) ⟨.ref f, H, I, rfl, h⟩ hd
def dCallF (sp : DSp) (g : Str) (fe : DE) : DE := fun ρ Q => fe ρ fun x ρ1 => wf (frzs ρ1 [frz x]) fun ds ρ2 => sp (ds.map Slot.dat ++ [Slot.fn g]) fun s _ => ws (rvOf s) fun y => Q y ρ2
/-! ### a def of a slot, called -/
def tCallL (i : Nat) (K : PySem.W.Frag) (g : Str) (sp : Sp) (t : TA) : TE := fun σ H Q => (∃ v, σ[i]? = some (some v) ∧ FnV K g v) ∧ t σ H fun vs H1 => sp (vs ++ []) H1 Q E0
def dCallL (i : Nat) (g : Str) (sp : DSp) (r : DA) : DE := fun ρ Q => ρ[i]? = some (.fn g) ∧ dCall sp r ρ Q
/-! ### a call by keywords, defaults among the parameters -/
structure HasK (P : Program) (w : World) (K : PySem.W.Frag) (mg : Str → Option Value) (base : Heap) (x : Str) (k : Nat) (ps ks : List Str) (pd : List PyData → List PyData → List PyData) (sp : Sp) : Prop where
  ex : ∃ (f : Addr) (fd : FuncData) (g : List Value → List Value → List Value) (gV : List V → List V → List V), FnOk P w K mg base CX0 1 k f fd ps sp ∧ mg x = some (.ref f) ∧ PySem.W.keepIn K (.ref f) = true ∧ KBinds K fd ps ks g gV ∧
    ∀ (H : Hp) (vs : List V) (ds : List PyData) (zs : List V) (es : List PyData), DqAll K H vs ds → DqAll K H zs es → DqAll K H (gV vs zs) (pd ds es)
@[irreducible] def QK (K : PySem.W.Frag) (X : Cx) (kws : List Keyword) (F : DA) : Prop := PK X kws (upA K F)
theorem qk_nil : QK K X [] dNil := by
  with_unfolding_all
    exact fun pos pins s σ H Q I ⟨C, Hs, ρ, QD, R, q, k⟩ => pk_nil pos pins s σ H Q I (k [] ρ [] Hs H R (Same.refl _) .nil q)
theorem qk_cons (ha : QE K X e fe) (hr : QK K X kws fr) : QK K X (⟨nm, e, kpos⟩ :: kws) (dCons fe fr) := by
  with_unfolding_all
    refine fun pos pins s σ H Q I ⟨C, Hs, ρ, QD, R, q, k⟩ => pk_cons ha hr pos pins s σ H Q I ?_
    refine ⟨C, Hs, ρ, _, R, q, fun x ρ1 v Hs1 H1 R1 S1 V1 q1 => ?_⟩
    obtain ⟨Hs1', R1', S1', V1'⟩ := V1.frz R1
    exact ⟨C, Hs1', ρ1, _, R1', q1, fun xs ρ2 vs Hs2 H2 R2 S2 V2 q2 => k _ ρ2 _ Hs2 H2 R2 ((S1.trans S1').trans S2) (.cons (V1'.wait S2) V2) q2⟩
def dCallK (sp : DSp) (pd : List PyData → List PyData → List PyData) (r rk : DA) : DE := fun ρ Q => r ρ fun xs ρ1 => wf (frzs ρ1 xs) fun ds ρ2 => rk ρ2 fun ys ρ3 => wf (frzs ρ3 ys) fun es ρ4 => sp ((pd ds es).map .dat) fun s _ => ws (rvOf s) fun y => Q y ρ4
end
end DL
namespace DL
open PySem L2 ZG
section
variable {X : Cx} {K : PySem.W.Frag} {C : Fc} {Hs H : Hp} {σ : St} {ρ : DEnv} {e : Expr} {fe : DE} {pos : Pos}
/-! ### a written dict of numbers, asked -/
def dDIx (g : Int → Option Int) (a : DE) : DE := fun ρ Q => a ρ fun x ρ1 => wi (rd ρ1 x) fun d => asI d fun i => wi ((g i).map PyData.int) fun j => Q (.dat j) ρ1
def kvI (kvs : List (Int × Int)) : List (Key × V) := kvs.map fun p => (.inl p.1, .int p.2)
end
end DL
namespace ZG
open PySem PySem.Spec PyProof.Rows L2
open Builtin.SmallTypes (nextOf)
section
variable {prog : Program} {w : World} {A : Around} {E : Value → Shared → Prop} {s : Shared} {e it l : Addr} {i : Nat} {items : Array Value} {T : Nat → Heap → Prop} {x old : Value} {Q : Option Value → Shared → Prop}
/-! ### enumerate over a list or a tuple -/
end
def IteA (K : PySem.W.Frag) (a : Addr) (b : Bool) : It :=
  ⟨fun i H => ∃ (xs : List V) (x : V), SqA K H a b xs ∧ xs[i]? = some x, fun i H v H' => ∃ T x, v = .ref T ∧ H T = none ∧ H' = upd H T (.tup [.int (i : Nat), x]) ∧ ∀ xs, SqA K H a b xs → xs[i]? = some x, fun i H => ∃ xs : List V, SqA K H a b xs ∧ xs.length ≤ i⟩
def iEnumA (K : PySem.W.Frag) (ta : TA) : TI := fun σ H R => ta σ H fun vs H1 => ∃ a b xs, vs = [.ref a] ∧ SqA K H1 a b xs ∧ R (IteA K a b) H1
end ZG
namespace DL
open PySem L2 ZG
section
variable {X : Cx} {K : PySem.W.Frag} {C : Fc} {Hs H : Hp} {σ : St} {ρ : DEnv} {fr : DA}
def dEnumA (r : DA) : DI := fun ρ Q => r ρ fun xs ρ1 => wf (frzs ρ1 xs) fun ds ρ2 => one? ds fun d => ws (seq? d) fun cs => Q (enumD cs) ρ2
end
end DL
namespace DL
open PySem L2 ZG
/-! ### exceptions of the program's own as data -/
def excD (c : Str) (gs : List Str) (ds : List PyData) : PyData := .dict ((.none, .str c) :: (gs.zip ds).map fun p => (.none, .tuple [.str p.1, p.2]))
def spI (C : Addr) (gs : List Str) : Sp := fun vs H Q _ => ∃ e us, vs = .ref e :: us ∧ us.length = gs.length ∧ H e = some (XC.ExB C e) ∧
  ∀ dx H', H dx = none → dx ≠ e → H' e = some (XC.ExO C dx e) → H' dx = some (.xd (gs.zip us)) → (∀ b, b ≠ e → b ≠ dx → H' b = H b) → Q .non H'
/-- the class c of exceptions is made of the values of gs: m by place, those at ks by keyword -/
structure HasX (P : Program) (w : World) (K : PySem.W.Frag) (mg : Str → Option Value) (base : Heap) (c : Str) (gs ks : List Str) (m : Nat) (pd : List PyData → List PyData) : Prop where
  ex : ∃ (C f : Addr) (fd : FuncData) (g : List Value → List Value → List Value) (gV : List V → List V → List V), mg c = some (.ref C) ∧ XCls K c C ∧ (∀ x ∈ gs, NoAttr K C x) ∧ XC.MkX K C f m ks ∧ FnOk P w K mg base CX0 1 1 f fd ("self" :: gs) (spI C gs) ∧ KBinds K fd ("self" :: gs) ks g gV ∧
    ∀ (H : Hp) (e : Addr) (vs zs : List V) (ds es : List PyData), DqAll K H vs ds → DqAll K H zs es → vs.length = m → zs.length = ks.length → ∃ us, gV (.ref e :: vs) zs = .ref e :: us ∧ us.length = gs.length ∧ DqAll K H us (pd (ds ++ es))
theorem fs_zip {K : PySem.W.Frag} {H : Hp} : ∀ {gs : List Str} {us : List V} {ds : List PyData}, DqAll K H us ds → DqFs K H (gs.zip us) ((gs.zip ds).map fun p => (.none, .tuple [.str p.1, p.2]))
  | [], _, _, _ => .nil
  | _ :: _, _, _, .nil => .nil
  | _ :: _, _, _, .cons h t => .cons h (fs_zip t)
section
variable {X : Cx} {K : PySem.W.Frag} {x c fl : Str} {k i m : Nat} {gs ks : List Str} {p p' pos kpos : Pos} {e e2 : Expr} {es : List Expr} {kws : List Keyword} {fe : DE} {fr fk : DA} {pd : List PyData → List PyData}
theorem mk_end {C : Fc} {Hs Hs2 H2 : Hp} {σ : St} {ρ2 : DEnv} {a : Addr} {us : List V} {ds : List PyData} {Q : VK} {QD : Rv → DEnv → Prop} {Cl : Addr} (xc : XCls K c Cl) (nf : ∀ x ∈ gs, NoAttr K Cl x)
    (S : Same Hs Hs2) (R2 : Rel K C Hs2 H2 σ ρ2) (a2 : DqAll K Hs2 us ds) (hl : us.length = gs.length) (ha : H2 a = none) (q : QD (.dat (excD c gs ds)) ρ2) (k : ∀ x ρ' v Hs' H', Rel K C Hs' H' σ ρ' → Same Hs Hs' → RVal K C Hs' H' σ ρ' x v → QD x ρ' → Q v H') :
    spI Cl gs (.ref a :: us) (upd H2 a (XC.ExB Cl a)) (fun v H3 => v = .non ∧ Q (.ref a) H3) E0 := by
  refine ⟨a, us, rfl, hl, upd_same, fun dx H' hd ne e1 e2 e3 => ⟨rfl, ?_⟩⟩
  rw [upd_ne ne] at hd
  obtain rfl : H' = upd (upd H2 dx (.xd (gs.zip us))) a (XC.ExO Cl dx a) := by
    funext b
    by_cases z : b = a
    · subst z; rw [upd_same]; exact e1
    · rw [upd_ne z]
      by_cases y : b = dx
      · subst y; rw [upd_same]; exact e2
      · rw [upd_ne y, e3 b z y, upd_ne z]
  obtain ⟨R3, S3⟩ := R2.laid hd (.xd (gs.zip us))
  have ha3 : upd H2 dx (.xd (gs.zip us)) a = none := by rw [upd_ne (Ne.symm ne)]; exact ha
  obtain ⟨R4, S4⟩ := R3.laid ha3 (XC.ExO Cl dx a)
  refine k (.dat _) ρ2 _ _ _ R4 (S.trans (S3.trans S4)) ?_ q
  refine Dq.exc (fs := gs.zip us) (dx := dx) xc (fun z hz => nf _ (List.of_mem_zip hz).1) upd_same (by rw [upd_ne ne, upd_same]) (fs_zip (dpa_same (S3.trans S4) a2))
def dMkX (c : Str) (gs : List Str) (m : Nat) (pd : List PyData → List PyData) (r : DA) : DE := fun ρ Q => r ρ fun xs ρ1 => wf (frzs ρ1 xs) fun ds ρ2 => ds.length = m ∧ Q (.dat (excD c gs (pd ds))) ρ2
/-- C(e, ..) -/
theorem q_mkX (h : HasX X.prog X.w X.K X.mg X.base c gs [] m pd) (hr : Room 2 X.A) (hg : Gl X c) (ha : QA K X (e :: es) fr) (hK : X.K = K := by rfl) (hdb : (c == ("__debug__" : Str)) = false := by decide) (he : starEach (e :: es) X.env = (false, eval e X.env) :: starEach es X.env := by rfl) (hpl : (backTo pos (starEach es X.env)).any (·.1) = false := by rfl)
    (hn : 1 ≤ X.tk := by first | exact Nat.le_refl _ | assumption) : QE K X (.Call (.Name c p) (e :: es) [] pos) (dMkX c gs m pd fr) := by
  with_unfolding_all
    subst hK
    obtain ⟨Cl, f, fd, g, gV, hm, xc, nf, M, F, hb, hpd⟩ := h.ex
    refine PE.imp (XC.pe_makeX M F hr hg hm hb pass0 ha hdb he hpl hn) fun σ H Q ⟨C, Hs, ρ, QD, R, q, k⟩ => ?_
    refine ⟨C, Hs, ρ, _, R, q, fun xs ρ1 vs Hs1 H1 R1 S1 V1 q1 => ?_⟩
    obtain ⟨ds, ρ2, e, hl, q1⟩ := wf_some q1
    obtain ⟨Hs2, R2, S2, a2⟩ := frzs_ok R1 V1 e
    have hv : vs.length = m := (dpa_len a2).trans hl
    refine ⟨hv, fun a ha => ?_⟩
    obtain ⟨us, eu, hlu, du⟩ := hpd Hs2 a vs [] ds [] a2 .nil hv rfl
    rw [List.append_nil] at du
    rw [eu]
    exact mk_end xc nf (S1.trans S2) R2 du hlu ha q1 k
/-- C(k = e, ..) -/
theorem q_mkXK (h : HasX X.prog X.w X.K X.mg X.base c gs ks 0 pd) (hr : Room 2 X.A) (hg : Gl X c) (hkw : QK K X kws fk) (hK : X.K = K := by rfl)
    (hall : (backToKw pos (keywordEach kws X.env)).all (·.1.isSome) = true := by rfl) (hks : (backToKw pos (keywordEach kws X.env)).filterMap (·.1) = ks := by rfl) (hdb : (c == ("__debug__" : Str)) = false := by decide)
    (hpl : (backToKw pos (keywordEach kws X.env)).any (·.1.isNone) = false := by rfl) (hn : 1 ≤ X.tk := by first | exact Nat.le_refl _ | assumption) : QE K X (.Call (.Name c p) [] kws pos) (dMkX c gs ks.length pd fk) := by
  with_unfolding_all
    subst hK
    obtain ⟨Cl, f, fd, g, gV, hm, xc, nf, M, F, hb, hpd⟩ := h.ex
    refine PE.imp (XC.pe_makeXK M F hr hg hm hb pass0 hkw hall hks hdb hpl hn) fun σ H Q ⟨C, Hs, ρ, QD, R, q, k⟩ => ?_
    refine ⟨C, Hs, ρ, _, R, q, fun xs ρ1 vs Hs1 H1 R1 S1 V1 q1 => ?_⟩
    obtain ⟨ds, ρ2, e, hl, q1⟩ := wf_some q1
    obtain ⟨Hs2, R2, S2, a2⟩ := frzs_ok R1 V1 e
    have hv : vs.length = ks.length := (dpa_len a2).trans hl
    refine ⟨hv, fun a ha => ?_⟩
    obtain ⟨us, eu, hlu, du⟩ := hpd Hs2 a [] vs [] ds .nil a2 rfl hv
    rw [List.nil_append] at du
    rw [eu]
    exact mk_end xc nf (S1.trans S2) R2 du hlu ha q1 k
/-! a field -/
def lkF (f : Str) : List (PyData × PyData) → Option PyData
  | (.none, .tuple [.str g, d]) :: r => if g = f then some d else lkF f r
  | _ => none
def fldD (f : Str) : PyData → Option PyData
  | .dict ((.none, .str _) :: ds) => lkF f ds
  | _ => none
theorem lkF_of {H : Hp} : ∀ {fs : List (Str × V)} {ds : List (PyData × PyData)} {d : PyData}, DqFs K H fs ds → lkF fl ds = some d → ∃ v, fs.lookup fl = some v ∧ (∃ q ∈ fs, q.1 = fl) ∧ Dq K H v d
  | _, _, _, .nil, e => by cases e
  | _, _, _, .cons (f := g) (v := v) (d := d') h t, e => by
    unfold lkF at e
    by_cases z : g = fl
    · subst z
      rw [if_pos rfl] at e; cases e
      exact ⟨v, by rw [List.lookup_cons, beq_self_eq_true], ⟨_, List.mem_cons_self, rfl⟩, h⟩
    · rw [if_neg z] at e
      obtain ⟨u, e1, ⟨q, hq, eq⟩, e2⟩ := lkF_of t e
      exact ⟨u, by rw [List.lookup_cons, beq_eq_false_iff_ne.mpr (Ne.symm z)]; exact e1, ⟨q, List.mem_cons_of_mem _ hq, eq⟩, e2⟩
def dFldX (f : Str) (a : DE) : DE := fun ρ Q => a ρ fun x ρ1 => wi (rd ρ1 (frz x)) fun d => ws (fldD f d) fun r => Q (.dat r) ρ1
theorem q_fldX (ha : QE K X e fe) (hb : attributeBase e fl X.env (eval e X.env) = eval e X.env := by rfl) (hK : X.K = K := by rfl) : QE K X (.Attribute e fl pos) (dFldX fl fe) := by
  with_unfolding_all
    subst hK
    refine PE.imp (XC.pe_fldX ha hb) fun σ H Q ⟨C, Hs, ρ, QD, R, q, k⟩ => ?_
    refine ⟨C, Hs, ρ, _, R, q, fun x ρ1 v Hs1 H1 R1 S1 V1 q1 => ?_⟩
    obtain ⟨Hs1', R1', S1', V1'⟩ := V1.frz R1
    obtain ⟨d, e, q1⟩ := wi_some q1
    obtain ⟨r, er, q9⟩ := ws_some q1
    have rv := V1'.rd R1' e
    unfold fldD at er
    split at er
    · obtain ⟨a, dx, Cl, fs, rfl, xc, nf, h1, h2, h3⟩ := rv.exc
      obtain ⟨u, l, ⟨q0, hq, eq⟩, du⟩ := lkF_of h3 er
      exact ⟨a, Cl, dx, fs, u, rfl, R1'.sub _ _ h1, R1'.sub _ _ h2, xc.xc, by rw [← eq]; exact nf q0 hq, l, k (.dat r) ρ1 _ Hs1' H1 R1' (S1.trans S1') du q9⟩
    · cases er
/-! isinstance with a class of exceptions -/
def IsX (K : PySem.W.Frag) (XS : List Str) (T : Value) (L : List Str) : Prop := ∀ c ∈ XS, ∀ C, PySem.W.nsIn K mainGlobals c = some (some (.ref C)) → PySem.W.kitOne K (.ref C) T = some (L.contains c)
def isXD (XS L : List Str) : PyData → Option Bool
  | .dict ((.none, .str c) :: _) => if XS.contains c = true then some (L.contains c) else none
  | _ => none
def dIsX (XS L : List Str) (a : DE) : DE := fun ρ Q => a ρ fun x ρ1 => wi (rd ρ1 (frz x)) fun d => ws (isXD XS L d) fun b => Q (.dat (.bool b)) ρ1
theorem q_isXv {tv : V} {T : Value} {XS L : List Str} (hx : IsX K XS T L) (hT : ∀ u, RelV tv u → u = T) (hm : X.mg "isinstance" = none) (hg : Gl X "isinstance") (ha : QE K X e fe) (hb : PE X e2 (tC tv)) (hK : X.K = K := by rfl)
    (hs : starEach [e, e2] X.env = (false, eval e X.env) :: starEach [e2] X.env := by rfl) (hs2 : starEach [e2] X.env = (false, eval e2 X.env) :: starEach [] X.env := by rfl) (hpl : (backTo pos (starEach [e2] X.env)).any (·.1) = false := by rfl) : QE K X (.Call (.Name "isinstance" p) [e, e2] [] pos) (dIsX XS L fe) := by
  with_unfolding_all
    refine PE.imp (pe_callB (isiK hK) hg hm bt_isinstance (pa_cons ha (pa_cons hb pa_nil hs2) hs) (by decide) (by decide) hs hpl) fun σ H Q ⟨C, Hs, ρ, QD, R, q, k⟩ => ?_
    refine ⟨C, Hs, ρ, _, R, q, fun x ρ1 v Hs1 H1 R1 S1 V1 q1 => ?_⟩
    obtain ⟨Hs1', R1', S1', V1'⟩ := V1.frz R1
    obtain ⟨d, e, q1⟩ := wi_some q1
    obtain ⟨b, eb, q9⟩ := ws_some q1
    have rv := V1'.rd R1' e
    unfold isXD at eb
    split at eb
    · split at eb
      · rename_i hc
        cases eb
        obtain ⟨a, dx, Cl, fs, rfl, xc, nf, h1, h2, h3⟩ := rv.exc
        exact .inl ⟨_, .ref Cl, tv, T, _, rfl, hT, .exc (R1'.sub _ _ h1) (R1'.sub _ _ h2) xc.xc, hx _ (by simpa using hc) _ xc.nm, k (.dat (.bool _)) ρ1 _ Hs1' H1 R1' (S1.trans S1') (.bl _) q9⟩
      · cases eb
    · cases eb
/-- an own class -/
theorem q_isXo {T : Addr} {XS L : List Str} (hn : PySem.W.nsIn K mainGlobals x = some (some (.ref T))) (hx : IsX K XS (.ref T) L) (hgx : Gl X x) (hm : X.mg "isinstance" = none) (hg : Gl X "isinstance") (ha : QE K X e fe) (hK : X.K = K := by rfl) (hd : (x == ("__debug__" : Str)) = false := by decide)
    (hs : starEach [e, .Name x p'] X.env = (false, eval e X.env) :: starEach [.Name x p'] X.env := by rfl) (hs2 : starEach [.Name x p'] X.env = (false, eval (.Name x p') X.env) :: starEach [] X.env := by rfl) (hpl : (backTo pos (starEach [.Name x p'] X.env)).any (·.1) = false := by rfl) : QE K X (.Call (.Name "isinstance" p) [e, .Name x p'] [] pos) (dIsX XS L fe) :=
  q_isXv (tv := .ref T) hx (fun u hu => hu) hm hg ha (pe_globN hgx (by rw [hK]; exact hn) hd) hK hs hs2 hpl
end
end DL
namespace DL
open PySem PySem.W L2 ZG
/-! ### classes of exceptions: what is known of them, from the fragment -/
section
variable {K : PySem.W.Frag} {c : Str} {C : Addr} {cd : ClassData} {bm : List Value} {oc : Value} {od : Option Addr} {sl : Array (Option Value)}
structure XB (bm : List Value) (B : String) : Prop where
  b : bm.contains (.type B) = true
  bx : bm.contains (.type "BaseException") = true
  ob : bm.contains (.type "object") = true
  nr : ∀ a : Addr, bm.contains (.ref a) = false
  na : bm.contains (.type "AttributeError") = false
  nn : bm.contains (.type "NameError") = false
  kd : ∀ k ∈ kinds, bm.contains (.type k) = false
theorem cls_of (l : K.lookup C = some ⟨oc, od, .cls cd, sl⟩) : clsIn K C = some cd := by unfold clsIn; rw [l]
theorem mro_of (l : K.lookup C = some ⟨oc, od, .cls cd, sl⟩) (m : cd.mro = .ref C :: bm) (v : Value) : mroIn K C v = some ((Value.ref C :: bm).contains v) := by
  unfold mroIn; rw [cls_of l, Option.bind_some, m]; rfl
theorem mro_ty (l : K.lookup C = some ⟨oc, od, .cls cd, sl⟩) (m : cd.mro = .ref C :: bm) (T : String) : mroIn K C (.type T) = some (bm.contains (.type T)) := by
  rw [mro_of l m, List.contains_cons]; rfl
theorem kit_ty (l : K.lookup C = some ⟨oc, od, .cls cd, sl⟩) (m : cd.mro = .ref C :: bm) {T : String} (h : kitMeta T = true) : kitOne K (.ref C) (.type T) = some (bm.contains (.type T)) := by
  unfold kitOne
  rw [if_neg (by intro z; cases beq_iff_eq.mp z)]
  show (if kitMeta T = true then subIn K (.ref C) (.type T) else none) = _
  rw [if_pos h]
  exact mro_ty l m T
theorem kit_any2 {t a b : Value} {x y : Bool} (h1 : kitOne K t a = some x) (h2 : kitOne K t b = some y) : kitAny K t [a, b] = some (x || y) := by
  unfold kitAny; rw [h1]
  cases x with
  | true => rfl
  | false =>
    show kitAny K t [b] = _
    unfold kitAny; rw [h2]
    cases y <;> rfl
theorem kinds_meta : ∀ k ∈ kinds, kitMeta k = true := by
  intro k hk
  simp only [kinds, List.mem_cons, List.not_mem_nil, or_false] at hk
  rcases hk with rfl | rfl | rfl | rfl | rfl <;> decide +kernel
/-- an own class against an own class -/
theorem kit_own {C' : Addr} {cd' : ClassData} {oc' : Value} {od' : Option Addr} {sl' : Array (Option Value)} (l : K.lookup C = some ⟨oc, od, .cls cd, sl⟩) (m : cd.mro = .ref C :: bm) (nr : ∀ a : Addr, bm.contains (.ref a) = false) (l' : K.lookup C' = some ⟨oc', od', .cls cd', sl'⟩) (ty : typeIn K (.ref C') = some (.type "type")) :
    kitOne K (.ref C) (.ref C') = some (decide (C = C')) := by
  unfold kitOne
  by_cases z : C = C'
  · subst z; rw [if_pos (beq_self_eq_true _), decide_eq_true rfl]
  · rw [if_neg (fun q => z (Value.ref.inj (beq_iff_eq.mp q))), decide_eq_false z]
    show (if ((clsIn K C').isSome && typeIn K (.ref C') == some (.type "type")) = true then subIn K (.ref C) (.ref C') else none) = _
    rw [cls_of l', ty, if_pos (by simp)]
    show mroIn K C (.ref C') = _
    rw [mro_of l m, List.contains_cons, nr]
    have : (Value.ref C' == Value.ref C) = false := beq_eq_false_iff_ne.mpr fun q => z (Value.ref.inj q).symm
    rw [this]; rfl
theorem xcls_mk {B : String} (b : XB bm B) (xa : nsIn K mainGlobals c = some (some (.ref C))) (l : K.lookup C = some ⟨oc, od, .cls cd, sl⟩) (m : cd.mro = .ref C :: bm) (hd : cd.hasDict = true)
    (ga : findIn K (.ref C) "__getattribute__" = some (some (.builtin "BaseException.__getattribute__"))) (gt : findIn K (.ref C) "__getattr__" = some none) (ca : findIn K (.ref C) "__class__" = some (some (.builtin "object.__class__")))
    (cn : specialIn K (.builtin "object.__class__") "__get__" = some (some (.builtin "getset_descriptor.__get__"))) (ct : takesIn K (.builtin "object.__class__") = some true) : XCls K c C where
  nm := xa
  xc := ⟨ga, gt, by rw [mro_ty l m, b.bx], by unfold hasDictIn; rw [cls_of l]; exact hd, ca, cn, ct, by rw [mro_ty l m, b.ob]⟩
  kd := fun k hk => by rw [kit_ty l m (kinds_meta k hk), b.kd k hk]
  kd2 := fun k hk k' hk' => by rw [kit_any2 (kit_ty l m (kinds_meta k hk)) (kit_ty l m (kinds_meta k' hk')), b.kd k hk, b.kd k' hk']; rfl
theorem xst_mk {B : String} (SF : StoreFacts B bm "object.__setattr__" "object") (l : K.lookup C = some ⟨oc, od, .cls cd, sl⟩) (m : cd.mro = .ref C :: bm) (hd : cd.hasDict = true) (sa : findIn K (.ref C) "__setattr__" = some (some (.builtin "object.__setattr__"))) : XC.XSt K C := ⟨⟨B, bm, cd, SF, cls_of l, m, hd⟩, sa⟩
theorem makesX_mk {B newId : String} (b : XB bm B) (l : K.lookup C = some ⟨oc, od, .cls cd, sl⟩) (m : cd.mro = .ref C :: bm) (ab : cd.abstract = false) (dl : cd.hasDel = false) (s4 : (sl.toList[4]?).join = some (.builtin newId))
    (sc : specialIn K (.ref C) "__call__" = some (some (.builtin "type.__call__"))) (ii : instIn K (.ref C) (.type "type") = some true) : XC.makesX K C newId B = true := by
  unfold XC.makesX
  rw [l]
  dsimp only
  have h : ∀ T : String, (Value.ref C :: bm).contains (.type T) = bm.contains (.type T) := fun T => by rw [List.contains_cons]; rfl
  rw [ab, dl, s4, m, h, h, h, b.b, b.na, b.nn, sc, ii]
  simp
/-! how the __init__ of one field, of two runs -/
variable {P : Program} {w : World} {mg : Str → Option Value} {base : Heap} {f : Addr} {fd : FuncData}
theorem mkx_mk {B newId initId : String} {n : Nat} {ks : List Str} (EF : ExcBaseFacts B newId initId bm) (mk : XC.makesX K C newId B = true) (xi : findIn K (.ref C) "__init__" = some (some (.ref f))) (fn : isFn K (.ref f) = true) (kp : keepIn K (.ref C) = true) (hn : n ≤ 1000)
    (ha : ∀ us ws : List Value, us.length = n → ws.length = ks.length → Bind.checkArgs newId (XC.bexRow B) ⟨.ref C :: us, ks.zip ws⟩ = pure ()) : XC.MkX K C f n ks := ⟨⟨newId, B, initId, bm, EF, mk, ha⟩, xi, fn, kp, hn⟩
/-- made by place -/
theorem hasX_mk {gs : List Str} (xc : XCls K c C) (hm : mg c = some (.ref C)) (nf : ∀ x ∈ gs, NoAttr K C x) (M : XC.MkX K C f gs.length []) (F : FnOk P w K mg base CX0 1 1 f fd ("self" :: gs) (spI C gs)) (b : Binds K fd ("self" :: gs) []) : HasX P w K mg base c gs [] gs.length (fun ds => ds) := by
  have kb : KBinds K fd ("self" :: gs) [] (fun us _ => us) (fun vs _ => vs) := by
    refine KBinds.mk (fun s us ws hK hl => ?_) (fun r _ => r)
    have := b s us hK (by rw [List.append_nil]; exact hl)
    rw [List.append_nil] at this
    exact this
  refine ⟨C, f, fd, fun us _ => us, fun vs _ => vs, hm, xc, nf, M, F, kb, fun H e vs zs ds es a a' hl hz => ?_⟩
  cases zs with
  | cons _ _ => cases hz
  | nil => cases a'; exact ⟨vs, rfl, hl, by rw [List.append_nil]; exact a⟩
def g1 {α : Type} : List α → List α → List α
  | [u], [v] => [u, v]
  | _, _ => []
def g2r {α : Type} : List α → List α → List α
  | [u], [v2, v] => [u, v, v2]
  | _, _ => []
theorem g1_rel {vs : List V} {us : List Value} {zs : List V} {ws : List Value} (r : Vals vs us) (q : Vals zs ws) : Vals (g1 vs zs) (g1 us ws) := by
  cases r with
  | nil => exact .nil
  | cons a r => cases r with
    | nil => cases q with
      | nil => exact .nil
      | cons b q => cases q with
        | nil => exact .cons a (.cons b .nil)
        | cons _ _ => exact .nil
    | cons _ _ => exact .nil
theorem g2r_rel {vs : List V} {us : List Value} {zs : List V} {ws : List Value} (r : Vals vs us) (q : Vals zs ws) : Vals (g2r vs zs) (g2r us ws) := by
  cases r with
  | nil => exact .nil
  | cons a r => cases r with
    | nil => cases q with
      | nil => exact .nil
      | cons b q => cases q with
        | nil => exact .nil
        | cons b' q => cases q with
          | nil => exact .cons a (.cons b' (.cons b .nil))
          | cons _ _ => exact .nil
    | cons _ _ => exact .nil
theorem g1_len {us ws : List Value} {n : Nat} (h : (g1 us ws).length = n + 1) : ∃ u v, us = [u] ∧ ws = [v] := by
  unfold g1 at h
  split at h
  · exact ⟨_, _, rfl, rfl⟩
  · cases h
theorem g2r_len {us ws : List Value} {n : Nat} (h : (g2r us ws).length = n + 1) : ∃ u v v2, us = [u] ∧ ws = [v2, v] := by
  unfold g2r at h
  split at h
  · exact ⟨_, _, _, rfl, rfl⟩
  · cases h
/-- made by the one keyword -/
theorem hasX_kw1 {g : Str} (xc : XCls K c C) (hm : mg c = some (.ref C)) (nf : NoAttr K C g) (M : XC.MkX K C f 0 [g]) (F : FnOk P w K mg base CX0 1 1 f fd ["self", g] (spI C [g])) (b : ∀ (s : Shared) (u v : Value), K.In s.heap → BindsTo s fd ⟨[u], [(g, v)]⟩ [("self", u), (g, v)]) : HasX P w K mg base c [g] [g] 0 (fun ds => ds) := by
  have kb : KBinds K fd ["self", g] [g] g1 g1 := by
    refine KBinds.mk (fun s us ws hK hl => ?_) g1_rel
    obtain ⟨u, v, rfl, rfl⟩ := g1_len hl
    exact b s u v hK
  refine ⟨C, f, fd, g1, g1, hm, xc, fun x hx => by rw [List.mem_singleton.mp hx]; exact nf, M, F, kb, fun H e vs zs ds es a a' hl hz => ?_⟩
  cases a with
  | cons _ _ => cases hl
  | nil => cases a' with
    | nil => cases hz
    | cons x a' => cases a' with
      | cons _ _ => cases hz
      | nil => exact ⟨_, rfl, rfl, .cons x .nil⟩
/-- made by two keywords, the second first -/
theorem hasX_kw2 {g g' : Str} (xc : XCls K c C) (hm : mg c = some (.ref C)) (nf : NoAttr K C g) (nf2 : NoAttr K C g') (M : XC.MkX K C f 0 [g', g]) (F : FnOk P w K mg base CX0 1 1 f fd ["self", g, g'] (spI C [g, g'])) (b : ∀ (s : Shared) (u v v2 : Value), K.In s.heap → BindsTo s fd ⟨[u], [(g', v2), (g, v)]⟩ [("self", u), (g, v), (g', v2)]) :
    HasX P w K mg base c [g, g'] [g', g] 0 List.reverse := by
  have kb : KBinds K fd ["self", g, g'] [g', g] g2r g2r := by
    refine KBinds.mk (fun s us ws hK hl => ?_) g2r_rel
    obtain ⟨u, v, v2, rfl, rfl⟩ := g2r_len hl
    exact b s u v v2 hK
  have nfs : ∀ x ∈ [g, g'], NoAttr K C x := fun x hx => by
    rcases List.mem_cons.mp hx with rfl | hx
    · exact nf
    · rw [List.mem_singleton.mp hx]; exact nf2
  refine ⟨C, f, fd, g2r, g2r, hm, xc, nfs, M, F, kb, fun H e vs zs ds es a a' hl hz => ?_⟩
  cases a with
  | cons _ _ => cases hl
  | nil => cases a' with
    | nil => cases hz
    | cons x a' => cases a' with
      | nil => cases hz
      | cons y a' => cases a' with
        | cons _ _ => cases hz
        | nil => exact ⟨_, rfl, rfl, .cons y (.cons x .nil)⟩
end
end DL
namespace K1
open PySem L2 TK ZG DL
def top (i : Nat) : Stmt := PySem.Challenge.pw_pagemaker_k03_errors.main.body.getD i (.Pass ⟨0, 0, 0, 0⟩)
abbrev s__law_dip : Stmt := top 21
abbrev N__law_dip : List Str := ["_law_script", "_law_k", "_law_cell"]
theorem sc__law_dip : FnScope N__law_dip ["_law_script", "_law_k"] (defScope s__law_dip) := ⟨rfl, rfl, rfl, by decide +kernel, rfl, by decide +kernel, by decide +kernel⟩
abbrev s__law_take : Stmt := top 22
abbrev N__law_take : List Str := ["_law_box", "_law_wide", "_law_once", "_law_twice", "_law_found"]
theorem sc__law_take : FnScope N__law_take ["_law_box", "_law_wide"] (defScope s__law_take) := ⟨rfl, rfl, rfl, by decide +kernel, rfl, by decide +kernel, by decide +kernel⟩
abbrev s__law_folded : Stmt := top 23
abbrev N__law_folded : List Str := ["_law_script", "_law_size", "_law_cells", "_law_k", "_law_cell"]
theorem sc__law_folded : FnScope N__law_folded ["_law_script", "_law_size"] (defScope s__law_folded) := ⟨rfl, rfl, rfl, by decide +kernel, rfl, by decide +kernel, by decide +kernel⟩
abbrev s__law_same : Stmt := top 24
abbrev N__law_same : List Str := ["_law_found", "_law_due", "_law_one", "_law_other"]
theorem sc__law_same : FnScope N__law_same ["_law_found", "_law_due"] (defScope s__law_same) := ⟨rfl, rfl, rfl, by decide +kernel, rfl, by decide +kernel, by decide +kernel⟩
abbrev s__law_own : Stmt := top 25
abbrev N__law_own : List Str := ["_law_one", "_law_found", "_law_k", "_law_is_one"]
theorem sc__law_own : FnScope N__law_own ["_law_one"] (defScope s__law_own) := ⟨rfl, rfl, rfl, by decide +kernel, rfl, by decide +kernel, by decide +kernel⟩
abbrev s__law_over : Stmt := top 26
abbrev N__law_over : List Str := ["_law_one", "_law_words", "_law_found", "_law_label", "_law_is_one"]
theorem sc__law_over : FnScope N__law_over ["_law_one"] (defScope s__law_over) := ⟨rfl, rfl, rfl, by decide +kernel, rfl, by decide +kernel, by decide +kernel⟩
abbrev s__law_made : Stmt := top 27
abbrev N__law_made : List Str := ["_law_a", "_law_b", "_law_found"]
theorem sc__law_made : FnScope N__law_made ["_law_a", "_law_b"] (defScope s__law_made) := ⟨rfl, rfl, rfl, by decide +kernel, rfl, by decide +kernel, by decide +kernel⟩
abbrev s__law_called : Stmt := top 28
abbrev N__law_called : List Str := ["_law_a", "_law_b", "_law_found"]
theorem sc__law_called : FnScope N__law_called ["_law_a", "_law_b"] (defScope s__law_called) := ⟨rfl, rfl, rfl, by decide +kernel, rfl, by decide +kernel, by decide +kernel⟩
abbrev s__law_fields : Stmt := top 29
abbrev N__law_fields : List Str := ["_law_some", "_law_found"]
theorem sc__law_fields : FnScope N__law_fields ["_law_some"] (defScope s__law_fields) := ⟨rfl, rfl, rfl, by decide +kernel, rfl, by decide +kernel, by decide +kernel⟩
abbrev s__law_thing : Stmt := top 30
abbrev N__law_thing : List Str := ["_law_box", "_law_some"]
theorem sc__law_thing : FnScope N__law_thing ["_law_box"] (defScope s__law_thing) := ⟨rfl, rfl, rfl, by decide +kernel, rfl, by decide +kernel, by decide +kernel⟩
abbrev s__law_right : Stmt := top 31
abbrev N__law_right : List Str := ["_law_a", "_law_b", "_law_higher", "_law_due", "_law_some", "_law_one", "_law_k"]
theorem sc__law_right : FnScope N__law_right ["_law_a", "_law_b"] (defScope s__law_right) := ⟨rfl, rfl, rfl, by decide +kernel, rfl, by decide +kernel, by decide +kernel⟩
abbrev s_law : Stmt := top 32
abbrev N_law : List Str := ["_law_script", "_law_cells", "_law_k", "_law_box", "_law_turn"]
theorem sc_law : FnScope N_law ["_law_script"] (defScope s_law) := ⟨rfl, rfl, rfl, by decide +kernel, rfl, by decide +kernel, by decide +kernel⟩
abbrev s_BadSource : Stmt := inClass (top 1) 0
theorem sc_BadSource : FnScope ["self", "part"] ["self", "part"] (defScope s_BadSource) := ⟨rfl, rfl, rfl, by decide +kernel, rfl, by decide +kernel, by decide +kernel⟩
abbrev s_BadRow : Stmt := inClass (top 2) 0
theorem sc_BadRow : FnScope ["self", "row"] ["self", "row"] (defScope s_BadRow) := ⟨rfl, rfl, rfl, by decide +kernel, rfl, by decide +kernel, by decide +kernel⟩
abbrev s_BadText : Stmt := inClass (top 3) 0
theorem sc_BadText : FnScope ["self", "at"] ["self", "at"] (defScope s_BadText) := ⟨rfl, rfl, rfl, by decide +kernel, rfl, by decide +kernel, by decide +kernel⟩
abbrev s_BadPath : Stmt := inClass (top 4) 0
theorem sc_BadPath : FnScope ["self", "path"] ["self", "path"] (defScope s_BadPath) := ⟨rfl, rfl, rfl, by decide +kernel, rfl, by decide +kernel, by decide +kernel⟩
abbrev s_BadName : Stmt := inClass (top 5) 0
theorem sc_BadName : FnScope ["self", "name"] ["self", "name"] (defScope s_BadName) := ⟨rfl, rfl, rfl, by decide +kernel, rfl, by decide +kernel, by decide +kernel⟩
abbrev s_BadTemplate : Stmt := inClass (top 6) 0
theorem sc_BadTemplate : FnScope ["self", "name"] ["self", "name"] (defScope s_BadTemplate) := ⟨rfl, rfl, rfl, by decide +kernel, rfl, by decide +kernel, by decide +kernel⟩
abbrev s_BadNumber : Stmt := inClass (top 7) 0
theorem sc_BadNumber : FnScope ["self", "number"] ["self", "number"] (defScope s_BadNumber) := ⟨rfl, rfl, rfl, by decide +kernel, rfl, by decide +kernel, by decide +kernel⟩
abbrev s_BadDeed : Stmt := inClass (top 8) 0
theorem sc_BadDeed : FnScope ["self", "number"] ["self", "number"] (defScope s_BadDeed) := ⟨rfl, rfl, rfl, by decide +kernel, rfl, by decide +kernel, by decide +kernel⟩
abbrev s_NoLead : Stmt := inClass (top 9) 0
theorem sc_NoLead : FnScope ["self", "path"] ["self", "path"] (defScope s_NoLead) := ⟨rfl, rfl, rfl, by decide +kernel, rfl, by decide +kernel, by decide +kernel⟩
abbrev s_NoName : Stmt := inClass (top 10) 0
theorem sc_NoName : FnScope ["self", "name"] ["self", "name"] (defScope s_NoName) := ⟨rfl, rfl, rfl, by decide +kernel, rfl, by decide +kernel, by decide +kernel⟩
abbrev s_NoRead : Stmt := inClass (top 11) 0
theorem sc_NoRead : FnScope ["self", "key"] ["self", "key"] (defScope s_NoRead) := ⟨rfl, rfl, rfl, by decide +kernel, rfl, by decide +kernel, by decide +kernel⟩
abbrev s_BadKey : Stmt := inClass (top 12) 0
theorem sc_BadKey : FnScope ["self", "key"] ["self", "key"] (defScope s_BadKey) := ⟨rfl, rfl, rfl, by decide +kernel, rfl, by decide +kernel, by decide +kernel⟩
abbrev s_NoPath : Stmt := inClass (top 13) 0
theorem sc_NoPath : FnScope ["self", "path"] ["self", "path"] (defScope s_NoPath) := ⟨rfl, rfl, rfl, by decide +kernel, rfl, by decide +kernel, by decide +kernel⟩
abbrev s_NoPage : Stmt := inClass (top 14) 0
theorem sc_NoPage : FnScope ["self", "path"] ["self", "path"] (defScope s_NoPage) := ⟨rfl, rfl, rfl, by decide +kernel, rfl, by decide +kernel, by decide +kernel⟩
abbrev s_NoAddress : Stmt := inClass (top 15) 0
theorem sc_NoAddress : FnScope ["self", "address"] ["self", "address"] (defScope s_NoAddress) := ⟨rfl, rfl, rfl, by decide +kernel, rfl, by decide +kernel, by decide +kernel⟩
abbrev s_NoPart : Stmt := inClass (top 16) 0
theorem sc_NoPart : FnScope ["self", "tag", "number"] ["self", "tag", "number"] (defScope s_NoPart) := ⟨rfl, rfl, rfl, by decide +kernel, rfl, by decide +kernel, by decide +kernel⟩
abbrev s_TooMany : Stmt := inClass (top 17) 0
theorem sc_TooMany : FnScope ["self", "many"] ["self", "many"] (defScope s_TooMany) := ⟨rfl, rfl, rfl, by decide +kernel, rfl, by decide +kernel, by decide +kernel⟩
abbrev s_Taken : Stmt := inClass (top 18) 0
theorem sc_Taken : FnScope ["self", "path"] ["self", "path"] (defScope s_Taken) := ⟨rfl, rfl, rfl, by decide +kernel, rfl, by decide +kernel, by decide +kernel⟩
abbrev s_Fault : Stmt := inClass (top 19) 0
theorem sc_Fault : FnScope ["self", "word", "what"] ["self", "word", "what"] (defScope s_Fault) := ⟨rfl, rfl, rfl, by decide +kernel, rfl, by decide +kernel, by decide +kernel⟩

structure Txt (mg : Str → Option Value) : Prop where
  len : mg "len" = none
  abs : mg "abs" = none
  int : mg "int" = none
  str : mg "str" = none
  bool : mg "bool" = none
  list : mg "list" = none
  tuple : mg "tuple" = none
  all : mg "all" = none
  range : mg "range" = none
  zip : mg "zip" = none
  enumerate : mg "enumerate" = none
  isinstance : mg "isinstance" = none
  ValueError : mg "ValueError" = none
  KeyError : mg "KeyError" = none
  LookupError : mg "LookupError" = none
  IndexError : mg "IndexError" = none
  RuntimeError : mg "RuntimeError" = none
  ArithmeticError : mg "ArithmeticError" = none
  OverflowError : mg "OverflowError" = none
theorem bt_ValueError : bootBuiltins "ValueError" = some (.type "ValueError") := by decide +kernel
theorem bt_KeyError : bootBuiltins "KeyError" = some (.type "KeyError") := by decide +kernel
theorem bt_LookupError : bootBuiltins "LookupError" = some (.type "LookupError") := by decide +kernel
theorem bt_IndexError : bootBuiltins "IndexError" = some (.type "IndexError") := by decide +kernel
theorem bt_RuntimeError : bootBuiltins "RuntimeError" = some (.type "RuntimeError") := by decide +kernel
theorem bt_ArithmeticError : bootBuiltins "ArithmeticError" = some (.type "ArithmeticError") := by decide +kernel
theorem bt_OverflowError : bootBuiltins "OverflowError" = some (.type "OverflowError") := by decide +kernel
theorem small {n : Nat} (h : n ≤ 1000000) : n ≤ sizeLine := Nat.le_trans h (by decide)
theorem lt1000 {n : Nat} (h : n ≤ 100000) : n < sizeLine := Nat.lt_of_le_of_lt h (by decide)
theorem mAppend_ok {cs : List PyData} {d : PyData} (h : cs.length < sizeLine) : mAppend cs [d] = some (.none, cs ++ [d]) := if_pos h
theorem b01 (b : Bool) : 0 ≤ (if b = true then (1 : Int) else 0) := by cases b <;> decide
theorem atD {α : Type} {xs : List α} {z : Int} {j : Nat} {v : α} (h : z = (j : Int)) (e : xs[j]? = some v) : atI xs z = some v := by
  have hj : j < xs.length := lt_of_get e
  unfold atI ixN
  rw [if_pos (by omega), if_pos (by omega)]
  show xs[z.toNat]? = _
  rw [show z.toNat = j by omega]
  exact e
/-! ### draws -/
def BoxD (cs : List PyData) (n : Nat) : Prop := ∃ x0 x1 x2 : Int, cs = [.int x0, .int x1, .int x2] ∧ 0 ≤ x0 ∧ 0 ≤ x1 ∧ x1 < 4611686018427387904 ∧ 0 ≤ x2 ∧ x2 ≤ (n : Int)
theorem BoxD.mono {cs : List PyData} {n m : Nat} (x : BoxD cs n) (h : n ≤ m) : BoxD cs m := let ⟨x0, x1, x2, e, h0, h1, h2, h3, h4⟩ := x; ⟨x0, x1, x2, e, h0, h1, h2, h3, by omega⟩
def spTake : DSp := fun ss Q => ∃ (cs : List PyData) (m : Int) (n : Nat), ss = [.own cs, .dat (.int m)] ∧ BoxD cs n ∧ n ≤ 1000000000 ∧ 0 < m ∧ m < 1073741824 ∧
  ∀ (r : Int) (cs' : List PyData), 0 ≤ r → r < m → BoxD cs' (n + 1) → Q (.dat (.int r)) [.own cs', .dat (.int m)]
def spDip : DSp := fun ss Q => ∃ (ns : List Int) (k : Int), ss = [.dat (.list (ns.map PyData.int)), .dat (.int k)] ∧ 0 ≤ k ∧ k ≤ 100 ∧ ∀ cs, BoxD cs 0 → Q (.own cs) ss
/-! ### the nineteen -/
def xsN : List Str := ["BadSource", "BadRow", "BadText", "BadPath", "BadName", "BadTemplate", "BadNumber", "BadDeed", "NoLead", "NoName", "NoRead", "BadKey", "NoPath", "NoPage", "NoAddress", "NoPart", "TooMany", "Taken", "Fault"]
def exs (a b : PyData) : List PyData := [excD "BadSource" ["part"] [a], excD "BadRow" ["row"] [a], excD "BadText" ["at"] [a], excD "BadPath" ["path"] [a], excD "BadName" ["name"] [a], excD "BadTemplate" ["name"] [a], excD "BadNumber" ["number"] [a], excD "BadDeed" ["number"] [a], excD "NoLead" ["path"] [a], excD "NoName" ["name"] [a], excD "NoRead" ["key"] [a], excD "BadKey" ["key"] [a], excD "NoPath" ["path"] [a], excD "NoPage" ["path"] [a], excD "NoAddress" ["address"] [a], excD "NoPart" ["tag", "number"] [a, b], excD "TooMany" ["many"] [a], excD "Taken" ["path"] [a], excD "Fault" ["word", "what"] [a, b]]
def up_ValueError : List Str := ["BadSource", "BadRow", "BadText", "BadPath", "BadName", "BadTemplate", "BadNumber", "BadDeed"]
def up_KeyError : List Str := ["NoLead", "NoName", "NoRead", "BadKey"]
def up_LookupError : List Str := ["NoLead", "NoName", "NoRead", "BadKey", "NoPath", "NoPage", "NoAddress", "NoPart"]
def up_IndexError : List Str := ["NoPart"]
def up_RuntimeError : List Str := ["Taken", "Fault"]
def up_ArithmeticError : List Str := ["TooMany"]
def up_OverflowError : List Str := ["TooMany"]
def overs : List PyData := [.list [.str "value"], .list [.str "value"], .list [.str "value"], .list [.str "value"], .list [.str "value"], .list [.str "value"], .list [.str "value"], .list [.str "value"], .list [.str "key", .str "lookup"], .list [.str "key", .str "lookup"], .list [.str "key", .str "lookup"], .list [.str "key", .str "lookup"], .list [.str "lookup"], .list [.str "lookup"], .list [.str "lookup"], .list [.str "lookup", .str "index"], .list [.str "sums", .str "over"], .list [.str "runtime"], .list [.str "runtime"]]
def spOwn : DSp := fun ss Q => ∃ (a b d : PyData) (j : Nat), ss = [.dat d] ∧ (exs a b)[j]? = some d ∧ Q (.own [.int j]) ss
def spOver : DSp := fun ss Q => ∃ (a b d : PyData) (j : Nat) (os : List PyData), ss = [.dat d] ∧ (exs a b)[j]? = some d ∧ overs[j]? = some (.list os) ∧ Q (.own os) ss
def spMade : DSp := fun ss Q => ∃ a b : PyData, ss = [.dat a, .dat b] ∧ Q (.own (exs a b)) ss
def dueD (a b : PyData) : List PyData := [a, a, a, a, a, a, a, a, a, a, a, a, a, a, a, .tuple [a, b], a, a, .tuple [a, b]]
def spFields : DSp := fun ss Q => ∃ a b : PyData, ss = [.dat (.list (exs a b))] ∧ Q (.own (dueD a b)) ss
end K1
namespace K1
open PySem L2 TK ZG DL
section
variable {P : Program} {w : World} {K : PySem.W.Frag} {mg : Str → Option Value} {base : Heap} {f : Addr} {fd : FuncData}
theorem fi_BadSource {C : Addr} (F : Fun K "__init__" "BadSource.__init__" s_BadSource f fd) (st : XC.XSt K C) (nf0 : NoAttr K C "part") : FnOk P w K mg base CX0 1 1 f fd ("self" :: ["part"]) (spI C ["part"]) := by
  refine F.ok sc_BadSource (fun vs H Q E ⟨e, us, h, hl, _⟩ => by rw [h, List.length_cons, hl]; rfl) fun cdv A outer s H vs Q E hr ⟨e, us, hv, hl, he, q⟩ => ?_
  obtain ⟨v, rfl⟩ := List.length_eq_one_iff.mp hl
  subst hv
  exact ⟨_, pss_one (XC.ps_fldX0 (pv 0) (pv 1) rfl), v, rfl, .ref e, rfl, e, C, rfl, he, st, nf0, fun dx hd ne => q dx _ hd ne upd_same (by rw [upd_ne ne, upd_same]; rfl) fun b b1 b2 => by rw [upd_ne b1, upd_ne b2]⟩
theorem fi_BadRow {C : Addr} (F : Fun K "__init__" "BadRow.__init__" s_BadRow f fd) (st : XC.XSt K C) (nf0 : NoAttr K C "row") : FnOk P w K mg base CX0 1 1 f fd ("self" :: ["row"]) (spI C ["row"]) := by
  refine F.ok sc_BadRow (fun vs H Q E ⟨e, us, h, hl, _⟩ => by rw [h, List.length_cons, hl]; rfl) fun cdv A outer s H vs Q E hr ⟨e, us, hv, hl, he, q⟩ => ?_
  obtain ⟨v, rfl⟩ := List.length_eq_one_iff.mp hl
  subst hv
  exact ⟨_, pss_one (XC.ps_fldX0 (pv 0) (pv 1) rfl), v, rfl, .ref e, rfl, e, C, rfl, he, st, nf0, fun dx hd ne => q dx _ hd ne upd_same (by rw [upd_ne ne, upd_same]; rfl) fun b b1 b2 => by rw [upd_ne b1, upd_ne b2]⟩
theorem fi_BadText {C : Addr} (F : Fun K "__init__" "BadText.__init__" s_BadText f fd) (st : XC.XSt K C) (nf0 : NoAttr K C "at") : FnOk P w K mg base CX0 1 1 f fd ("self" :: ["at"]) (spI C ["at"]) := by
  refine F.ok sc_BadText (fun vs H Q E ⟨e, us, h, hl, _⟩ => by rw [h, List.length_cons, hl]; rfl) fun cdv A outer s H vs Q E hr ⟨e, us, hv, hl, he, q⟩ => ?_
  obtain ⟨v, rfl⟩ := List.length_eq_one_iff.mp hl
  subst hv
  exact ⟨_, pss_one (XC.ps_fldX0 (pv 0) (pv 1) rfl), v, rfl, .ref e, rfl, e, C, rfl, he, st, nf0, fun dx hd ne => q dx _ hd ne upd_same (by rw [upd_ne ne, upd_same]; rfl) fun b b1 b2 => by rw [upd_ne b1, upd_ne b2]⟩
theorem fi_BadPath {C : Addr} (F : Fun K "__init__" "BadPath.__init__" s_BadPath f fd) (st : XC.XSt K C) (nf0 : NoAttr K C "path") : FnOk P w K mg base CX0 1 1 f fd ("self" :: ["path"]) (spI C ["path"]) := by
  refine F.ok sc_BadPath (fun vs H Q E ⟨e, us, h, hl, _⟩ => by rw [h, List.length_cons, hl]; rfl) fun cdv A outer s H vs Q E hr ⟨e, us, hv, hl, he, q⟩ => ?_
  obtain ⟨v, rfl⟩ := List.length_eq_one_iff.mp hl
  subst hv
  exact ⟨_, pss_one (XC.ps_fldX0 (pv 0) (pv 1) rfl), v, rfl, .ref e, rfl, e, C, rfl, he, st, nf0, fun dx hd ne => q dx _ hd ne upd_same (by rw [upd_ne ne, upd_same]; rfl) fun b b1 b2 => by rw [upd_ne b1, upd_ne b2]⟩
theorem fi_BadName {C : Addr} (F : Fun K "__init__" "BadName.__init__" s_BadName f fd) (st : XC.XSt K C) (nf0 : NoAttr K C "name") : FnOk P w K mg base CX0 1 1 f fd ("self" :: ["name"]) (spI C ["name"]) := by
  refine F.ok sc_BadName (fun vs H Q E ⟨e, us, h, hl, _⟩ => by rw [h, List.length_cons, hl]; rfl) fun cdv A outer s H vs Q E hr ⟨e, us, hv, hl, he, q⟩ => ?_
  obtain ⟨v, rfl⟩ := List.length_eq_one_iff.mp hl
  subst hv
  exact ⟨_, pss_one (XC.ps_fldX0 (pv 0) (pv 1) rfl), v, rfl, .ref e, rfl, e, C, rfl, he, st, nf0, fun dx hd ne => q dx _ hd ne upd_same (by rw [upd_ne ne, upd_same]; rfl) fun b b1 b2 => by rw [upd_ne b1, upd_ne b2]⟩
theorem fi_BadTemplate {C : Addr} (F : Fun K "__init__" "BadTemplate.__init__" s_BadTemplate f fd) (st : XC.XSt K C) (nf0 : NoAttr K C "name") : FnOk P w K mg base CX0 1 1 f fd ("self" :: ["name"]) (spI C ["name"]) := by
  refine F.ok sc_BadTemplate (fun vs H Q E ⟨e, us, h, hl, _⟩ => by rw [h, List.length_cons, hl]; rfl) fun cdv A outer s H vs Q E hr ⟨e, us, hv, hl, he, q⟩ => ?_
  obtain ⟨v, rfl⟩ := List.length_eq_one_iff.mp hl
  subst hv
  exact ⟨_, pss_one (XC.ps_fldX0 (pv 0) (pv 1) rfl), v, rfl, .ref e, rfl, e, C, rfl, he, st, nf0, fun dx hd ne => q dx _ hd ne upd_same (by rw [upd_ne ne, upd_same]; rfl) fun b b1 b2 => by rw [upd_ne b1, upd_ne b2]⟩
theorem fi_BadNumber {C : Addr} (F : Fun K "__init__" "BadNumber.__init__" s_BadNumber f fd) (st : XC.XSt K C) (nf0 : NoAttr K C "number") : FnOk P w K mg base CX0 1 1 f fd ("self" :: ["number"]) (spI C ["number"]) := by
  refine F.ok sc_BadNumber (fun vs H Q E ⟨e, us, h, hl, _⟩ => by rw [h, List.length_cons, hl]; rfl) fun cdv A outer s H vs Q E hr ⟨e, us, hv, hl, he, q⟩ => ?_
  obtain ⟨v, rfl⟩ := List.length_eq_one_iff.mp hl
  subst hv
  exact ⟨_, pss_one (XC.ps_fldX0 (pv 0) (pv 1) rfl), v, rfl, .ref e, rfl, e, C, rfl, he, st, nf0, fun dx hd ne => q dx _ hd ne upd_same (by rw [upd_ne ne, upd_same]; rfl) fun b b1 b2 => by rw [upd_ne b1, upd_ne b2]⟩
theorem fi_BadDeed {C : Addr} (F : Fun K "__init__" "BadDeed.__init__" s_BadDeed f fd) (st : XC.XSt K C) (nf0 : NoAttr K C "number") : FnOk P w K mg base CX0 1 1 f fd ("self" :: ["number"]) (spI C ["number"]) := by
  refine F.ok sc_BadDeed (fun vs H Q E ⟨e, us, h, hl, _⟩ => by rw [h, List.length_cons, hl]; rfl) fun cdv A outer s H vs Q E hr ⟨e, us, hv, hl, he, q⟩ => ?_
  obtain ⟨v, rfl⟩ := List.length_eq_one_iff.mp hl
  subst hv
  exact ⟨_, pss_one (XC.ps_fldX0 (pv 0) (pv 1) rfl), v, rfl, .ref e, rfl, e, C, rfl, he, st, nf0, fun dx hd ne => q dx _ hd ne upd_same (by rw [upd_ne ne, upd_same]; rfl) fun b b1 b2 => by rw [upd_ne b1, upd_ne b2]⟩
theorem fi_NoLead {C : Addr} (F : Fun K "__init__" "NoLead.__init__" s_NoLead f fd) (st : XC.XSt K C) (nf0 : NoAttr K C "path") : FnOk P w K mg base CX0 1 1 f fd ("self" :: ["path"]) (spI C ["path"]) := by
  refine F.ok sc_NoLead (fun vs H Q E ⟨e, us, h, hl, _⟩ => by rw [h, List.length_cons, hl]; rfl) fun cdv A outer s H vs Q E hr ⟨e, us, hv, hl, he, q⟩ => ?_
  obtain ⟨v, rfl⟩ := List.length_eq_one_iff.mp hl
  subst hv
  exact ⟨_, pss_one (XC.ps_fldX0 (pv 0) (pv 1) rfl), v, rfl, .ref e, rfl, e, C, rfl, he, st, nf0, fun dx hd ne => q dx _ hd ne upd_same (by rw [upd_ne ne, upd_same]; rfl) fun b b1 b2 => by rw [upd_ne b1, upd_ne b2]⟩
theorem fi_NoName {C : Addr} (F : Fun K "__init__" "NoName.__init__" s_NoName f fd) (st : XC.XSt K C) (nf0 : NoAttr K C "name") : FnOk P w K mg base CX0 1 1 f fd ("self" :: ["name"]) (spI C ["name"]) := by
  refine F.ok sc_NoName (fun vs H Q E ⟨e, us, h, hl, _⟩ => by rw [h, List.length_cons, hl]; rfl) fun cdv A outer s H vs Q E hr ⟨e, us, hv, hl, he, q⟩ => ?_
  obtain ⟨v, rfl⟩ := List.length_eq_one_iff.mp hl
  subst hv
  exact ⟨_, pss_one (XC.ps_fldX0 (pv 0) (pv 1) rfl), v, rfl, .ref e, rfl, e, C, rfl, he, st, nf0, fun dx hd ne => q dx _ hd ne upd_same (by rw [upd_ne ne, upd_same]; rfl) fun b b1 b2 => by rw [upd_ne b1, upd_ne b2]⟩
theorem fi_NoRead {C : Addr} (F : Fun K "__init__" "NoRead.__init__" s_NoRead f fd) (st : XC.XSt K C) (nf0 : NoAttr K C "key") : FnOk P w K mg base CX0 1 1 f fd ("self" :: ["key"]) (spI C ["key"]) := by
  refine F.ok sc_NoRead (fun vs H Q E ⟨e, us, h, hl, _⟩ => by rw [h, List.length_cons, hl]; rfl) fun cdv A outer s H vs Q E hr ⟨e, us, hv, hl, he, q⟩ => ?_
  obtain ⟨v, rfl⟩ := List.length_eq_one_iff.mp hl
  subst hv
  exact ⟨_, pss_one (XC.ps_fldX0 (pv 0) (pv 1) rfl), v, rfl, .ref e, rfl, e, C, rfl, he, st, nf0, fun dx hd ne => q dx _ hd ne upd_same (by rw [upd_ne ne, upd_same]; rfl) fun b b1 b2 => by rw [upd_ne b1, upd_ne b2]⟩
theorem fi_BadKey {C : Addr} (F : Fun K "__init__" "BadKey.__init__" s_BadKey f fd) (st : XC.XSt K C) (nf0 : NoAttr K C "key") : FnOk P w K mg base CX0 1 1 f fd ("self" :: ["key"]) (spI C ["key"]) := by
  refine F.ok sc_BadKey (fun vs H Q E ⟨e, us, h, hl, _⟩ => by rw [h, List.length_cons, hl]; rfl) fun cdv A outer s H vs Q E hr ⟨e, us, hv, hl, he, q⟩ => ?_
  obtain ⟨v, rfl⟩ := List.length_eq_one_iff.mp hl
  subst hv
  exact ⟨_, pss_one (XC.ps_fldX0 (pv 0) (pv 1) rfl), v, rfl, .ref e, rfl, e, C, rfl, he, st, nf0, fun dx hd ne => q dx _ hd ne upd_same (by rw [upd_ne ne, upd_same]; rfl) fun b b1 b2 => by rw [upd_ne b1, upd_ne b2]⟩
theorem fi_NoPath {C : Addr} (F : Fun K "__init__" "NoPath.__init__" s_NoPath f fd) (st : XC.XSt K C) (nf0 : NoAttr K C "path") : FnOk P w K mg base CX0 1 1 f fd ("self" :: ["path"]) (spI C ["path"]) := by
  refine F.ok sc_NoPath (fun vs H Q E ⟨e, us, h, hl, _⟩ => by rw [h, List.length_cons, hl]; rfl) fun cdv A outer s H vs Q E hr ⟨e, us, hv, hl, he, q⟩ => ?_
  obtain ⟨v, rfl⟩ := List.length_eq_one_iff.mp hl
  subst hv
  exact ⟨_, pss_one (XC.ps_fldX0 (pv 0) (pv 1) rfl), v, rfl, .ref e, rfl, e, C, rfl, he, st, nf0, fun dx hd ne => q dx _ hd ne upd_same (by rw [upd_ne ne, upd_same]; rfl) fun b b1 b2 => by rw [upd_ne b1, upd_ne b2]⟩
theorem fi_NoPage {C : Addr} (F : Fun K "__init__" "NoPage.__init__" s_NoPage f fd) (st : XC.XSt K C) (nf0 : NoAttr K C "path") : FnOk P w K mg base CX0 1 1 f fd ("self" :: ["path"]) (spI C ["path"]) := by
  refine F.ok sc_NoPage (fun vs H Q E ⟨e, us, h, hl, _⟩ => by rw [h, List.length_cons, hl]; rfl) fun cdv A outer s H vs Q E hr ⟨e, us, hv, hl, he, q⟩ => ?_
  obtain ⟨v, rfl⟩ := List.length_eq_one_iff.mp hl
  subst hv
  exact ⟨_, pss_one (XC.ps_fldX0 (pv 0) (pv 1) rfl), v, rfl, .ref e, rfl, e, C, rfl, he, st, nf0, fun dx hd ne => q dx _ hd ne upd_same (by rw [upd_ne ne, upd_same]; rfl) fun b b1 b2 => by rw [upd_ne b1, upd_ne b2]⟩
theorem fi_NoAddress {C : Addr} (F : Fun K "__init__" "NoAddress.__init__" s_NoAddress f fd) (st : XC.XSt K C) (nf0 : NoAttr K C "address") : FnOk P w K mg base CX0 1 1 f fd ("self" :: ["address"]) (spI C ["address"]) := by
  refine F.ok sc_NoAddress (fun vs H Q E ⟨e, us, h, hl, _⟩ => by rw [h, List.length_cons, hl]; rfl) fun cdv A outer s H vs Q E hr ⟨e, us, hv, hl, he, q⟩ => ?_
  obtain ⟨v, rfl⟩ := List.length_eq_one_iff.mp hl
  subst hv
  exact ⟨_, pss_one (XC.ps_fldX0 (pv 0) (pv 1) rfl), v, rfl, .ref e, rfl, e, C, rfl, he, st, nf0, fun dx hd ne => q dx _ hd ne upd_same (by rw [upd_ne ne, upd_same]; rfl) fun b b1 b2 => by rw [upd_ne b1, upd_ne b2]⟩
theorem fi_NoPart {C : Addr} (F : Fun K "__init__" "NoPart.__init__" s_NoPart f fd) (st : XC.XSt K C) (nf0 : NoAttr K C "tag") (nf1 : NoAttr K C "number") : FnOk P w K mg base CX0 1 1 f fd ("self" :: ["tag", "number"]) (spI C ["tag", "number"]) := by
  refine F.ok sc_NoPart (fun vs H Q E ⟨e, us, h, hl, _⟩ => by rw [h, List.length_cons, hl]; rfl) fun cdv A outer s H vs Q E hr ⟨e, us, hv, hl, he, q⟩ => ?_
  obtain ⟨v, v2, rfl⟩ : ∃ v v2, us = [v, v2] := match us, hl with | [v, v2], _ => ⟨v, v2, rfl⟩
  subst hv
  refine ⟨_, pss_cons (XC.ps_fldX0 (pv 0) (pv 1) rfl) (pss_one (XC.ps_fldX1 (pv 0) (pv 2) rfl)), v, rfl, .ref e, rfl, e, C, rfl, he, st, nf0, fun dx hd ne => ⟨v2, rfl, .ref e, rfl, e, C, dx, _, rfl, upd_same, (by rw [upd_ne ne, upd_same]), (by show 1 ≤ 1000; decide), st, nf1, ?_⟩⟩
  exact q dx _ hd ne (by rw [upd_ne (Ne.symm ne), upd_same]) (by rw [upd_same]; rfl) fun b b1 b2 => by rw [upd_ne b2, upd_ne b1, upd_ne b2]
theorem fi_TooMany {C : Addr} (F : Fun K "__init__" "TooMany.__init__" s_TooMany f fd) (st : XC.XSt K C) (nf0 : NoAttr K C "many") : FnOk P w K mg base CX0 1 1 f fd ("self" :: ["many"]) (spI C ["many"]) := by
  refine F.ok sc_TooMany (fun vs H Q E ⟨e, us, h, hl, _⟩ => by rw [h, List.length_cons, hl]; rfl) fun cdv A outer s H vs Q E hr ⟨e, us, hv, hl, he, q⟩ => ?_
  obtain ⟨v, rfl⟩ := List.length_eq_one_iff.mp hl
  subst hv
  exact ⟨_, pss_one (XC.ps_fldX0 (pv 0) (pv 1) rfl), v, rfl, .ref e, rfl, e, C, rfl, he, st, nf0, fun dx hd ne => q dx _ hd ne upd_same (by rw [upd_ne ne, upd_same]; rfl) fun b b1 b2 => by rw [upd_ne b1, upd_ne b2]⟩
theorem fi_Taken {C : Addr} (F : Fun K "__init__" "Taken.__init__" s_Taken f fd) (st : XC.XSt K C) (nf0 : NoAttr K C "path") : FnOk P w K mg base CX0 1 1 f fd ("self" :: ["path"]) (spI C ["path"]) := by
  refine F.ok sc_Taken (fun vs H Q E ⟨e, us, h, hl, _⟩ => by rw [h, List.length_cons, hl]; rfl) fun cdv A outer s H vs Q E hr ⟨e, us, hv, hl, he, q⟩ => ?_
  obtain ⟨v, rfl⟩ := List.length_eq_one_iff.mp hl
  subst hv
  exact ⟨_, pss_one (XC.ps_fldX0 (pv 0) (pv 1) rfl), v, rfl, .ref e, rfl, e, C, rfl, he, st, nf0, fun dx hd ne => q dx _ hd ne upd_same (by rw [upd_ne ne, upd_same]; rfl) fun b b1 b2 => by rw [upd_ne b1, upd_ne b2]⟩
theorem fi_Fault {C : Addr} (F : Fun K "__init__" "Fault.__init__" s_Fault f fd) (st : XC.XSt K C) (nf0 : NoAttr K C "word") (nf1 : NoAttr K C "what") : FnOk P w K mg base CX0 1 1 f fd ("self" :: ["word", "what"]) (spI C ["word", "what"]) := by
  refine F.ok sc_Fault (fun vs H Q E ⟨e, us, h, hl, _⟩ => by rw [h, List.length_cons, hl]; rfl) fun cdv A outer s H vs Q E hr ⟨e, us, hv, hl, he, q⟩ => ?_
  obtain ⟨v, v2, rfl⟩ : ∃ v v2, us = [v, v2] := match us, hl with | [v, v2], _ => ⟨v, v2, rfl⟩
  subst hv
  refine ⟨_, pss_cons (XC.ps_fldX0 (pv 0) (pv 1) rfl) (pss_one (XC.ps_fldX1 (pv 0) (pv 2) rfl)), v, rfl, .ref e, rfl, e, C, rfl, he, st, nf0, fun dx hd ne => ⟨v2, rfl, .ref e, rfl, e, C, dx, _, rfl, upd_same, (by rw [upd_ne ne, upd_same]), (by show 1 ≤ 1000; decide), st, nf1, ?_⟩⟩
  exact q dx _ hd ne (by rw [upd_ne (Ne.symm ne), upd_same]) (by rw [upd_same]; rfl) fun b b1 b2 => by rw [upd_ne b2, upd_ne b1, upd_ne b2]
end
end K1
namespace K1
open PySem L2 TK ZG DL
section
variable {P : Program} {w : World} {K : PySem.W.Frag} {mg : Str → Option Value} {base : Heap} {f : Addr} {fd : FuncData}
def blist (j : Nat) : List PyData := (List.range 19).map fun i => .bool (decide (i = j))
theorem enum_at {j i : Nat} (h : i < 19) : (enumD (blist j))[i]? = some (.tuple [.int (i : Nat), .bool (decide (i = j))]) := by
  unfold enumD blist
  rw [List.getElem?_map, List.getElem?_zipIdx, List.getElem?_map, List.getElem?_range h]
  simp
theorem enum_len {j : Nat} : (enumD (blist j)).length = 19 := by
  unfold enumD blist
  simp
theorem drop_cons {α : Type} {L : List α} {i : Nat} {x : α} {r : List α} (h : x :: r = L.drop i) : L[i]? = some x ∧ r = L.drop (i + 1) := by
  have e : (L.drop i)[0]? = some x := by rw [← h]; rfl
  rw [List.getElem?_drop] at e
  exact ⟨e, by rw [← List.drop_drop, ← h]; rfl⟩
theorem own_tail {Q : DL.Slot → List DL.Slot → Prop} {d : PyData} {j : Nat} (hj : j < 19) (k : Q (.own [.int j]) [.dat d]) : (dRet (dLc (dEnum (dCons (dVar 1) dNil)) (gdTup 2 (gdCons (gdName 2) (gdCons (gdName 3) gdNil))) (dTest (dVar 3)) (dVar 2) [2, 3])) (endsD [.dat d] Q) [.dat d, .own (blist j), .no, .no] := by
  refine ⟨rfl, ?_⟩
  refine lcL_inv (fun L acc ρ => ∃ i : Nat, ρ = [.dat d, .dat (.list (blist j)), .no, .no] ∧ L = (enumD (blist j)).drop i ∧ acc = (if j < i then [.int (j : Nat)] else [])) ?_ ?_ _ _ _ ⟨0, rfl, rfl, rfl⟩
  · rintro x L acc ρ ⟨i, rfl, eL, rfl⟩ nxt
    obtain ⟨e1, e2⟩ := drop_cons eL
    have hi : i < 19 := by
      have := lt_of_get e1
      rw [enum_len] at this; exact this
    rw [enum_at hi] at e1
    cases e1
    by_cases z : i = j
    · subst z
      rw [decide_eq_true rfl, if_neg (Nat.lt_irrefl _)] at *
      exact ⟨rfl, rfl, (by show 0 < sizeLine; decide), nxt _ _ ⟨i + 1, rfl, e2, by rw [if_pos (Nat.lt_succ_self _)]; rfl⟩⟩
    · rw [decide_eq_false z]
      refine ⟨rfl, rfl, nxt _ _ ⟨i + 1, rfl, e2, ?_⟩⟩
      by_cases y : j < i
      · rw [if_pos y, if_pos (by omega)]
      · rw [if_neg y, if_neg (by omega)]
  · rintro acc ρ ⟨i, rfl, eL, rfl⟩
    have hi : 19 ≤ i := by
      have := congrArg List.length eL
      rw [List.length_drop, enum_len] at this
      have : 0 = 19 - i := this
      omega
    rw [if_pos (by omega)]
    exact k
theorem own_run {Q : DL.Slot → List DL.Slot → Prop} {a b d : PyData} {j : Nat} (hj : (exs a b)[j]? = some d) (k : Q (.own [.int j]) [.dat d]) : (dSeq (dSet 1 (dLst (dCons (dIsX xsN ["BadSource"] (dVar 0)) (dCons (dIsX xsN ["BadRow"] (dVar 0)) (dCons (dIsX xsN ["BadText"] (dVar 0)) (dCons (dIsX xsN ["BadPath"] (dVar 0)) dNil)))))) (dSeq (dSet 1 (dOp oAdd (dVar 1) (dLst (dCons (dIsX xsN ["BadName"] (dVar 0)) (dCons (dIsX xsN ["BadTemplate"] (dVar 0)) (dCons (dIsX xsN ["BadNumber"] (dVar 0)) dNil)))))) (dSeq (dSet 1 (dOp oAdd (dVar 1) (dLst (dCons (dIsX xsN ["BadDeed"] (dVar 0)) (dCons (dIsX xsN ["NoLead"] (dVar 0)) (dCons (dIsX xsN ["NoName"] (dVar 0)) dNil)))))) (dSeq (dSet 1 (dOp oAdd (dVar 1) (dLst (dCons (dIsX xsN ["NoRead"] (dVar 0)) (dCons (dIsX xsN ["BadKey"] (dVar 0)) (dCons (dIsX xsN ["NoPath"] (dVar 0)) (dCons (dIsX xsN ["NoPage"] (dVar 0)) dNil))))))) (dSeq (dSet 1 (dOp oAdd (dVar 1) (dLst (dCons (dIsX xsN ["NoAddress"] (dVar 0)) (dCons (dIsX xsN ["NoPart"] (dVar 0)) (dCons (dIsX xsN ["TooMany"] (dVar 0)) dNil)))))) (dSeq (dSet 1 (dOp oAdd (dVar 1) (dLst (dCons (dIsX xsN ["Taken"] (dVar 0)) (dCons (dIsX xsN ["Fault"] (dVar 0)) dNil))))) (dRet (dLc (dEnum (dCons (dVar 1) dNil)) (gdTup 2 (gdCons (gdName 2) (gdCons (gdName 3) gdNil))) (dTest (dVar 3)) (dVar 2) [2, 3])))))))) (endsD [.dat d] Q) [.dat d, .no, .no, .no] := by
  have hj19 : j < 19 := lt_of_get hj
  match j, hj19 with
  | 0, _ =>
    cases hj
    refine ⟨(by show 4 ≤ sizeLine; decide), (by show 3 ≤ sizeLine; decide), (by show 4 + 3 ≤ sizeLine; decide), (by show 3 ≤ sizeLine; decide), (by show 7 + 3 ≤ sizeLine; decide), (by show 4 ≤ sizeLine; decide), (by show 10 + 4 ≤ sizeLine; decide), (by show 3 ≤ sizeLine; decide), (by show 14 + 3 ≤ sizeLine; decide), (by show 2 ≤ sizeLine; decide), (by show 17 + 2 ≤ sizeLine; decide), ?_⟩
    exact own_tail (j := 0) (by decide) k
  | 1, _ =>
    cases hj
    refine ⟨(by show 4 ≤ sizeLine; decide), (by show 3 ≤ sizeLine; decide), (by show 4 + 3 ≤ sizeLine; decide), (by show 3 ≤ sizeLine; decide), (by show 7 + 3 ≤ sizeLine; decide), (by show 4 ≤ sizeLine; decide), (by show 10 + 4 ≤ sizeLine; decide), (by show 3 ≤ sizeLine; decide), (by show 14 + 3 ≤ sizeLine; decide), (by show 2 ≤ sizeLine; decide), (by show 17 + 2 ≤ sizeLine; decide), ?_⟩
    exact own_tail (j := 1) (by decide) k
  | 2, _ =>
    cases hj
    refine ⟨(by show 4 ≤ sizeLine; decide), (by show 3 ≤ sizeLine; decide), (by show 4 + 3 ≤ sizeLine; decide), (by show 3 ≤ sizeLine; decide), (by show 7 + 3 ≤ sizeLine; decide), (by show 4 ≤ sizeLine; decide), (by show 10 + 4 ≤ sizeLine; decide), (by show 3 ≤ sizeLine; decide), (by show 14 + 3 ≤ sizeLine; decide), (by show 2 ≤ sizeLine; decide), (by show 17 + 2 ≤ sizeLine; decide), ?_⟩
    exact own_tail (j := 2) (by decide) k
  | 3, _ =>
    cases hj
    refine ⟨(by show 4 ≤ sizeLine; decide), (by show 3 ≤ sizeLine; decide), (by show 4 + 3 ≤ sizeLine; decide), (by show 3 ≤ sizeLine; decide), (by show 7 + 3 ≤ sizeLine; decide), (by show 4 ≤ sizeLine; decide), (by show 10 + 4 ≤ sizeLine; decide), (by show 3 ≤ sizeLine; decide), (by show 14 + 3 ≤ sizeLine; decide), (by show 2 ≤ sizeLine; decide), (by show 17 + 2 ≤ sizeLine; decide), ?_⟩
    exact own_tail (j := 3) (by decide) k
  | 4, _ =>
    cases hj
    refine ⟨(by show 4 ≤ sizeLine; decide), (by show 3 ≤ sizeLine; decide), (by show 4 + 3 ≤ sizeLine; decide), (by show 3 ≤ sizeLine; decide), (by show 7 + 3 ≤ sizeLine; decide), (by show 4 ≤ sizeLine; decide), (by show 10 + 4 ≤ sizeLine; decide), (by show 3 ≤ sizeLine; decide), (by show 14 + 3 ≤ sizeLine; decide), (by show 2 ≤ sizeLine; decide), (by show 17 + 2 ≤ sizeLine; decide), ?_⟩
    exact own_tail (j := 4) (by decide) k
  | 5, _ =>
    cases hj
    refine ⟨(by show 4 ≤ sizeLine; decide), (by show 3 ≤ sizeLine; decide), (by show 4 + 3 ≤ sizeLine; decide), (by show 3 ≤ sizeLine; decide), (by show 7 + 3 ≤ sizeLine; decide), (by show 4 ≤ sizeLine; decide), (by show 10 + 4 ≤ sizeLine; decide), (by show 3 ≤ sizeLine; decide), (by show 14 + 3 ≤ sizeLine; decide), (by show 2 ≤ sizeLine; decide), (by show 17 + 2 ≤ sizeLine; decide), ?_⟩
    exact own_tail (j := 5) (by decide) k
  | 6, _ =>
    cases hj
    refine ⟨(by show 4 ≤ sizeLine; decide), (by show 3 ≤ sizeLine; decide), (by show 4 + 3 ≤ sizeLine; decide), (by show 3 ≤ sizeLine; decide), (by show 7 + 3 ≤ sizeLine; decide), (by show 4 ≤ sizeLine; decide), (by show 10 + 4 ≤ sizeLine; decide), (by show 3 ≤ sizeLine; decide), (by show 14 + 3 ≤ sizeLine; decide), (by show 2 ≤ sizeLine; decide), (by show 17 + 2 ≤ sizeLine; decide), ?_⟩
    exact own_tail (j := 6) (by decide) k
  | 7, _ =>
    cases hj
    refine ⟨(by show 4 ≤ sizeLine; decide), (by show 3 ≤ sizeLine; decide), (by show 4 + 3 ≤ sizeLine; decide), (by show 3 ≤ sizeLine; decide), (by show 7 + 3 ≤ sizeLine; decide), (by show 4 ≤ sizeLine; decide), (by show 10 + 4 ≤ sizeLine; decide), (by show 3 ≤ sizeLine; decide), (by show 14 + 3 ≤ sizeLine; decide), (by show 2 ≤ sizeLine; decide), (by show 17 + 2 ≤ sizeLine; decide), ?_⟩
    exact own_tail (j := 7) (by decide) k
  | 8, _ =>
    cases hj
    refine ⟨(by show 4 ≤ sizeLine; decide), (by show 3 ≤ sizeLine; decide), (by show 4 + 3 ≤ sizeLine; decide), (by show 3 ≤ sizeLine; decide), (by show 7 + 3 ≤ sizeLine; decide), (by show 4 ≤ sizeLine; decide), (by show 10 + 4 ≤ sizeLine; decide), (by show 3 ≤ sizeLine; decide), (by show 14 + 3 ≤ sizeLine; decide), (by show 2 ≤ sizeLine; decide), (by show 17 + 2 ≤ sizeLine; decide), ?_⟩
    exact own_tail (j := 8) (by decide) k
  | 9, _ =>
    cases hj
    refine ⟨(by show 4 ≤ sizeLine; decide), (by show 3 ≤ sizeLine; decide), (by show 4 + 3 ≤ sizeLine; decide), (by show 3 ≤ sizeLine; decide), (by show 7 + 3 ≤ sizeLine; decide), (by show 4 ≤ sizeLine; decide), (by show 10 + 4 ≤ sizeLine; decide), (by show 3 ≤ sizeLine; decide), (by show 14 + 3 ≤ sizeLine; decide), (by show 2 ≤ sizeLine; decide), (by show 17 + 2 ≤ sizeLine; decide), ?_⟩
    exact own_tail (j := 9) (by decide) k
  | 10, _ =>
    cases hj
    refine ⟨(by show 4 ≤ sizeLine; decide), (by show 3 ≤ sizeLine; decide), (by show 4 + 3 ≤ sizeLine; decide), (by show 3 ≤ sizeLine; decide), (by show 7 + 3 ≤ sizeLine; decide), (by show 4 ≤ sizeLine; decide), (by show 10 + 4 ≤ sizeLine; decide), (by show 3 ≤ sizeLine; decide), (by show 14 + 3 ≤ sizeLine; decide), (by show 2 ≤ sizeLine; decide), (by show 17 + 2 ≤ sizeLine; decide), ?_⟩
    exact own_tail (j := 10) (by decide) k
  | 11, _ =>
    cases hj
    refine ⟨(by show 4 ≤ sizeLine; decide), (by show 3 ≤ sizeLine; decide), (by show 4 + 3 ≤ sizeLine; decide), (by show 3 ≤ sizeLine; decide), (by show 7 + 3 ≤ sizeLine; decide), (by show 4 ≤ sizeLine; decide), (by show 10 + 4 ≤ sizeLine; decide), (by show 3 ≤ sizeLine; decide), (by show 14 + 3 ≤ sizeLine; decide), (by show 2 ≤ sizeLine; decide), (by show 17 + 2 ≤ sizeLine; decide), ?_⟩
    exact own_tail (j := 11) (by decide) k
  | 12, _ =>
    cases hj
    refine ⟨(by show 4 ≤ sizeLine; decide), (by show 3 ≤ sizeLine; decide), (by show 4 + 3 ≤ sizeLine; decide), (by show 3 ≤ sizeLine; decide), (by show 7 + 3 ≤ sizeLine; decide), (by show 4 ≤ sizeLine; decide), (by show 10 + 4 ≤ sizeLine; decide), (by show 3 ≤ sizeLine; decide), (by show 14 + 3 ≤ sizeLine; decide), (by show 2 ≤ sizeLine; decide), (by show 17 + 2 ≤ sizeLine; decide), ?_⟩
    exact own_tail (j := 12) (by decide) k
  | 13, _ =>
    cases hj
    refine ⟨(by show 4 ≤ sizeLine; decide), (by show 3 ≤ sizeLine; decide), (by show 4 + 3 ≤ sizeLine; decide), (by show 3 ≤ sizeLine; decide), (by show 7 + 3 ≤ sizeLine; decide), (by show 4 ≤ sizeLine; decide), (by show 10 + 4 ≤ sizeLine; decide), (by show 3 ≤ sizeLine; decide), (by show 14 + 3 ≤ sizeLine; decide), (by show 2 ≤ sizeLine; decide), (by show 17 + 2 ≤ sizeLine; decide), ?_⟩
    exact own_tail (j := 13) (by decide) k
  | 14, _ =>
    cases hj
    refine ⟨(by show 4 ≤ sizeLine; decide), (by show 3 ≤ sizeLine; decide), (by show 4 + 3 ≤ sizeLine; decide), (by show 3 ≤ sizeLine; decide), (by show 7 + 3 ≤ sizeLine; decide), (by show 4 ≤ sizeLine; decide), (by show 10 + 4 ≤ sizeLine; decide), (by show 3 ≤ sizeLine; decide), (by show 14 + 3 ≤ sizeLine; decide), (by show 2 ≤ sizeLine; decide), (by show 17 + 2 ≤ sizeLine; decide), ?_⟩
    exact own_tail (j := 14) (by decide) k
  | 15, _ =>
    cases hj
    refine ⟨(by show 4 ≤ sizeLine; decide), (by show 3 ≤ sizeLine; decide), (by show 4 + 3 ≤ sizeLine; decide), (by show 3 ≤ sizeLine; decide), (by show 7 + 3 ≤ sizeLine; decide), (by show 4 ≤ sizeLine; decide), (by show 10 + 4 ≤ sizeLine; decide), (by show 3 ≤ sizeLine; decide), (by show 14 + 3 ≤ sizeLine; decide), (by show 2 ≤ sizeLine; decide), (by show 17 + 2 ≤ sizeLine; decide), ?_⟩
    exact own_tail (j := 15) (by decide) k
  | 16, _ =>
    cases hj
    refine ⟨(by show 4 ≤ sizeLine; decide), (by show 3 ≤ sizeLine; decide), (by show 4 + 3 ≤ sizeLine; decide), (by show 3 ≤ sizeLine; decide), (by show 7 + 3 ≤ sizeLine; decide), (by show 4 ≤ sizeLine; decide), (by show 10 + 4 ≤ sizeLine; decide), (by show 3 ≤ sizeLine; decide), (by show 14 + 3 ≤ sizeLine; decide), (by show 2 ≤ sizeLine; decide), (by show 17 + 2 ≤ sizeLine; decide), ?_⟩
    exact own_tail (j := 16) (by decide) k
  | 17, _ =>
    cases hj
    refine ⟨(by show 4 ≤ sizeLine; decide), (by show 3 ≤ sizeLine; decide), (by show 4 + 3 ≤ sizeLine; decide), (by show 3 ≤ sizeLine; decide), (by show 7 + 3 ≤ sizeLine; decide), (by show 4 ≤ sizeLine; decide), (by show 10 + 4 ≤ sizeLine; decide), (by show 3 ≤ sizeLine; decide), (by show 14 + 3 ≤ sizeLine; decide), (by show 2 ≤ sizeLine; decide), (by show 17 + 2 ≤ sizeLine; decide), ?_⟩
    exact own_tail (j := 17) (by decide) k
  | 18, _ =>
    cases hj
    refine ⟨(by show 4 ≤ sizeLine; decide), (by show 3 ≤ sizeLine; decide), (by show 4 + 3 ≤ sizeLine; decide), (by show 3 ≤ sizeLine; decide), (by show 7 + 3 ≤ sizeLine; decide), (by show 4 ≤ sizeLine; decide), (by show 10 + 4 ≤ sizeLine; decide), (by show 3 ≤ sizeLine; decide), (by show 14 + 3 ≤ sizeLine; decide), (by show 2 ≤ sizeLine; decide), (by show 17 + 2 ≤ sizeLine; decide), ?_⟩
    exact own_tail (j := 18) (by decide) k
  | n + 19, h => exact absurd h (by omega)
theorem ok_own (F : Fun K "_law_own" "_law_own" s__law_own f fd) (T : Txt mg) {C_BadSource : Addr} (n_BadSource : PySem.W.nsIn K mainGlobals "BadSource" = some (some (.ref C_BadSource))) (ix_BadSource : IsX K xsN (.ref C_BadSource) ["BadSource"]) {C_BadRow : Addr} (n_BadRow : PySem.W.nsIn K mainGlobals "BadRow" = some (some (.ref C_BadRow))) (ix_BadRow : IsX K xsN (.ref C_BadRow) ["BadRow"]) {C_BadText : Addr} (n_BadText : PySem.W.nsIn K mainGlobals "BadText" = some (some (.ref C_BadText))) (ix_BadText : IsX K xsN (.ref C_BadText) ["BadText"]) {C_BadPath : Addr} (n_BadPath : PySem.W.nsIn K mainGlobals "BadPath" = some (some (.ref C_BadPath))) (ix_BadPath : IsX K xsN (.ref C_BadPath) ["BadPath"]) {C_BadName : Addr} (n_BadName : PySem.W.nsIn K mainGlobals "BadName" = some (some (.ref C_BadName))) (ix_BadName : IsX K xsN (.ref C_BadName) ["BadName"]) {C_BadTemplate : Addr} (n_BadTemplate : PySem.W.nsIn K mainGlobals "BadTemplate" = some (some (.ref C_BadTemplate))) (ix_BadTemplate : IsX K xsN (.ref C_BadTemplate) ["BadTemplate"]) {C_BadNumber : Addr} (n_BadNumber : PySem.W.nsIn K mainGlobals "BadNumber" = some (some (.ref C_BadNumber))) (ix_BadNumber : IsX K xsN (.ref C_BadNumber) ["BadNumber"]) {C_BadDeed : Addr} (n_BadDeed : PySem.W.nsIn K mainGlobals "BadDeed" = some (some (.ref C_BadDeed))) (ix_BadDeed : IsX K xsN (.ref C_BadDeed) ["BadDeed"]) {C_NoLead : Addr} (n_NoLead : PySem.W.nsIn K mainGlobals "NoLead" = some (some (.ref C_NoLead))) (ix_NoLead : IsX K xsN (.ref C_NoLead) ["NoLead"]) {C_NoName : Addr} (n_NoName : PySem.W.nsIn K mainGlobals "NoName" = some (some (.ref C_NoName))) (ix_NoName : IsX K xsN (.ref C_NoName) ["NoName"]) {C_NoRead : Addr} (n_NoRead : PySem.W.nsIn K mainGlobals "NoRead" = some (some (.ref C_NoRead))) (ix_NoRead : IsX K xsN (.ref C_NoRead) ["NoRead"]) {C_BadKey : Addr} (n_BadKey : PySem.W.nsIn K mainGlobals "BadKey" = some (some (.ref C_BadKey))) (ix_BadKey : IsX K xsN (.ref C_BadKey) ["BadKey"]) {C_NoPath : Addr} (n_NoPath : PySem.W.nsIn K mainGlobals "NoPath" = some (some (.ref C_NoPath))) (ix_NoPath : IsX K xsN (.ref C_NoPath) ["NoPath"]) {C_NoPage : Addr} (n_NoPage : PySem.W.nsIn K mainGlobals "NoPage" = some (some (.ref C_NoPage))) (ix_NoPage : IsX K xsN (.ref C_NoPage) ["NoPage"]) {C_NoAddress : Addr} (n_NoAddress : PySem.W.nsIn K mainGlobals "NoAddress" = some (some (.ref C_NoAddress))) (ix_NoAddress : IsX K xsN (.ref C_NoAddress) ["NoAddress"]) {C_NoPart : Addr} (n_NoPart : PySem.W.nsIn K mainGlobals "NoPart" = some (some (.ref C_NoPart))) (ix_NoPart : IsX K xsN (.ref C_NoPart) ["NoPart"]) {C_TooMany : Addr} (n_TooMany : PySem.W.nsIn K mainGlobals "TooMany" = some (some (.ref C_TooMany))) (ix_TooMany : IsX K xsN (.ref C_TooMany) ["TooMany"]) {C_Taken : Addr} (n_Taken : PySem.W.nsIn K mainGlobals "Taken" = some (some (.ref C_Taken))) (ix_Taken : IsX K xsN (.ref C_Taken) ["Taken"]) {C_Fault : Addr} (n_Fault : PySem.W.nsIn K mainGlobals "Fault" = some (some (.ref C_Fault))) (ix_Fault : IsX K xsN (.ref C_Fault) ["Fault"]) : FnOk P w K mg base CX0 1 1 f fd ["_law_one"] (upSp K spOwn) := by
  refine fn_d F sc__law_own (fun ss Q h => ?_) (fun cdv A outer s H E hr => ⟨_, (qss_cons (qs_set (i := 1) sc__law_own.nd rfl (by first | exact Or.inl rfl | exact Or.inr rfl) (q_lst (qa_cons (q_isXo n_BadSource ix_BadSource rfl T.isinstance rfl (qv 0)) (qa_cons (q_isXo n_BadRow ix_BadRow rfl T.isinstance rfl (qv 0)) (qa_cons (q_isXo n_BadText ix_BadText rfl T.isinstance rfl (qv 0)) (qa_cons (q_isXo n_BadPath ix_BadPath rfl T.isinstance rfl (qv 0)) qa_nil))))))
      (qss_cons (qs_set (i := 1) sc__law_own.nd rfl (by first | exact Or.inl rfl | exact Or.inr rfl) (q_op (add2K (K := K)) od_add (qv 1) (q_lst (qa_cons (q_isXo n_BadName ix_BadName rfl T.isinstance rfl (qv 0)) (qa_cons (q_isXo n_BadTemplate ix_BadTemplate rfl T.isinstance rfl (qv 0)) (qa_cons (q_isXo n_BadNumber ix_BadNumber rfl T.isinstance rfl (qv 0)) qa_nil))))))
      (qss_cons (qs_set (i := 1) sc__law_own.nd rfl (by first | exact Or.inl rfl | exact Or.inr rfl) (q_op (add2K (K := K)) od_add (qv 1) (q_lst (qa_cons (q_isXo n_BadDeed ix_BadDeed rfl T.isinstance rfl (qv 0)) (qa_cons (q_isXo n_NoLead ix_NoLead rfl T.isinstance rfl (qv 0)) (qa_cons (q_isXo n_NoName ix_NoName rfl T.isinstance rfl (qv 0)) qa_nil))))))
      (qss_cons (qs_set (i := 1) sc__law_own.nd rfl (by first | exact Or.inl rfl | exact Or.inr rfl) (q_op (add2K (K := K)) od_add (qv 1) (q_lst (qa_cons (q_isXo n_NoRead ix_NoRead rfl T.isinstance rfl (qv 0)) (qa_cons (q_isXo n_BadKey ix_BadKey rfl T.isinstance rfl (qv 0)) (qa_cons (q_isXo n_NoPath ix_NoPath rfl T.isinstance rfl (qv 0)) (qa_cons (q_isXo n_NoPage ix_NoPage rfl T.isinstance rfl (qv 0)) qa_nil)))))))
      (qss_cons (qs_set (i := 1) sc__law_own.nd rfl (by first | exact Or.inl rfl | exact Or.inr rfl) (q_op (add2K (K := K)) od_add (qv 1) (q_lst (qa_cons (q_isXo n_NoAddress ix_NoAddress rfl T.isinstance rfl (qv 0)) (qa_cons (q_isXo n_NoPart ix_NoPart rfl T.isinstance rfl (qv 0)) (qa_cons (q_isXo n_TooMany ix_TooMany rfl T.isinstance rfl (qv 0)) qa_nil))))))
      (qss_cons (qs_set (i := 1) sc__law_own.nd rfl (by first | exact Or.inl rfl | exact Or.inr rfl) (q_op (add2K (K := K)) od_add (qv 1) (q_lst (qa_cons (q_isXo n_Taken ix_Taken rfl T.isinstance rfl (qv 0)) (qa_cons (q_isXo n_Fault ix_Fault rfl T.isinstance rfl (qv 0)) qa_nil)))))
      (qss_one (qs_ret (q_lc (own := [("_law_k", 2), ("_law_is_one", 3)]) (t := (gTup K 2 (gCons (gName 2) (gCons (gName 3) gNil)))) (ug_tup (ugs_cons ug_name (ugs_cons ug_name ugs_nil))) (gl_tup (gls_cons (gl_name (by simp)) gm_name (gls_cons (gl_name (by simp)) gm_name gls_nil gsm_nil) (gsm_cons gm_name gsm_nil))) (gm_tup (gsm_cons gm_name (gsm_cons gm_name gsm_nil))) rfl sc__law_own.nd (qi_enum rfl T.enumerate (qa_cons (qv 1) qa_nil)) (blkOk_by (own := [("_law_k", 2), ("_law_is_one", 3)]) (N := N__law_own) (sc := defScope s__law_own) (by first | decide +kernel | rfl)) (fun _ _ _ _ _ => (pg_tup rfl (pgs_cons (pg_name (i := 2) sc__law_own.nd rfl (by first | exact Or.inl rfl | exact Or.inr rfl)) (pgs_cons (pg_name (i := 3) sc__law_own.nd rfl (by first | exact Or.inl rfl | exact Or.inr rfl)) pgs_nil)))) (fun _ _ _ _ _ => (qts_one (qt_val (qv 3)))) (fun _ _ _ _ _ => (qv 2))))))))))), fun ss Q h => ?_⟩)
  · obtain ⟨a, b, d, j, rfl, _⟩ := h
    rfl
  obtain ⟨a, b, d, j, rfl, hj, k⟩ := h
  -- 0=_law_one 1=_law_found 2=_law_k 3=_law_is_one
  exact own_run hj k
end
end K1
namespace K1
open PySem L2 TK ZG DL
section
variable {P : Program} {w : World} {K : PySem.W.Frag} {mg : Str → Option Value} {base : Heap} {f : Addr} {fd : FuncData}
def wordsL : List Str := ["value", "key", "lookup", "index", "runtime", "sums", "over"]
def pickW : List Str → List Bool → List PyData
  | w :: ws, b :: bs => if b = true then .str w :: pickW ws bs else pickW ws bs
  | _, _ => []
def zipW : List Str → List Bool → List PyData
  | w :: ws, b :: bs => .tuple [.str w, .bool b] :: zipW ws bs
  | _, _ => []
theorem zipW_eq : ∀ (ws : List Str) (bs : List Bool), zipD (ws.map PyData.str) (bs.map PyData.bool) = zipW ws bs
  | [], _ => rfl
  | _ :: _, [] => rfl
  | w :: ws, b :: bs => by
    show _ :: zipD (ws.map PyData.str) (bs.map PyData.bool) = _
    rw [zipW_eq]; rfl
theorem over_tail {Q : DL.Slot → List DL.Slot → Prop} {d : PyData} {bs : List Bool} (k : Q (.own (pickW wordsL bs)) [.dat d]) : (dRet (dLc (dZip (dCons (dVar 1) (dCons (dVar 2) dNil))) (gdTup 2 (gdCons (gdName 3) (gdCons (gdName 4) gdNil))) (dTest (dVar 4)) (dVar 3) [3, 4])) (endsD [.dat d] Q) [.dat d, .own (wordsL.map PyData.str), .own (bs.map PyData.bool), .no, .no] := by
  refine ⟨rfl, ?_⟩
  refine lcL_inv (fun L acc ρ => ∃ ws bs', ρ = [.dat d, .dat (.list (wordsL.map PyData.str)), .dat (.list (bs.map PyData.bool)), .no, .no] ∧ L = zipW ws bs' ∧ acc ++ pickW ws bs' = pickW wordsL bs ∧ acc.length + ws.length ≤ 7) ?_ ?_ _ _ _ ⟨wordsL, bs, rfl, zipW_eq _ _, rfl, by decide⟩
  · rintro x L acc ρ ⟨ws, bs', rfl, eL, ha, hl⟩ nxt
    match ws, bs', eL, ha, hl with
    | w :: ws, b :: bs', eL, ha, hl =>
      injection eL with e1 e2
      subst e1
      rw [List.length_cons] at hl
      cases b with
      | true => exact ⟨rfl, rfl, lt1000 (by omega), nxt _ _ ⟨ws, bs', rfl, e2, by rw [List.append_assoc]; exact ha, by rw [List.length_append]; show acc.length + 1 + ws.length ≤ 7; omega⟩⟩
      | false => exact ⟨rfl, rfl, nxt _ _ ⟨ws, bs', rfl, e2, ha, by omega⟩⟩
    | [], _, eL, _, _ => cases eL
    | _ :: _, [], eL, _, _ => cases eL
  · rintro acc ρ ⟨ws, bs', rfl, eL, ha, hl⟩
    have e : pickW ws bs' = [] := by
      match ws, bs', eL with
      | [], _, _ => rfl
      | _ :: _, [], _ => rfl
    rw [e, List.append_nil] at ha
    rw [ha]
    exact k
theorem ws_of' {α : Type} {o : Option α} {d : α} {k : α → Prop} (e : o = some d) (h : k d) : ws o k := by subst e; exact h
theorem over_app {Q : DL.Slot → List DL.Slot → Prop} {d : PyData} {bs : List Bool} {b : Bool} (h7 : isXD xsN up_OverflowError d = some b) (hl : bs.length = 6) (k : Q (.own (pickW wordsL (bs ++ [b]))) [.dat d]) : (dSeq (dDrop (dMut mAppend (dVar 2) (dCons (dIsX xsN up_OverflowError (dVar 0)) dNil))) (dRet (dLc (dZip (dCons (dVar 1) (dCons (dVar 2) dNil))) (gdTup 2 (gdCons (gdName 3) (gdCons (gdName 4) gdNil))) (dTest (dVar 4)) (dVar 3) [3, 4]))) (endsD [.dat d] Q) [.dat d, .own (wordsL.map PyData.str), .own (bs.map PyData.bool), .no, .no] := by
  refine ⟨rfl, ?_⟩
  refine ws_of' h7 ?_
  show ws (mAppend (bs.map PyData.bool) [.bool b]) _
  rw [mAppend_ok (by rw [List.length_map, hl]; decide)]
  have e : bs.map PyData.bool ++ [.bool b] = (bs ++ [b]).map PyData.bool := by rw [List.map_append]; rfl
  rw [e]
  exact over_tail k
theorem over_run {Q : DL.Slot → List DL.Slot → Prop} {a b d : PyData} {j : Nat} {os : List PyData} (hj : (exs a b)[j]? = some d) (ho : overs[j]? = some (.list os)) (k : Q (.own os) [.dat d]) : (dSeq (dSet 1 (dLst (dConsts [(.str "value"), (.str "key"), (.str "lookup"), (.str "index"), (.str "runtime"), (.str "sums"), (.str "over")]))) (dSeq (dSet 2 (dLst (dCons (dIsX xsN up_ValueError (dVar 0)) (dCons (dIsX xsN up_KeyError (dVar 0)) (dCons (dIsX xsN up_LookupError (dVar 0)) dNil))))) (dSeq (dSet 2 (dOp oAdd (dVar 2) (dLst (dCons (dIsX xsN up_IndexError (dVar 0)) (dCons (dIsX xsN up_RuntimeError (dVar 0)) (dCons (dIsX xsN up_ArithmeticError (dVar 0)) dNil)))))) (dSeq (dDrop (dMut mAppend (dVar 2) (dCons (dIsX xsN up_OverflowError (dVar 0)) dNil))) (dRet (dLc (dZip (dCons (dVar 1) (dCons (dVar 2) dNil))) (gdTup 2 (gdCons (gdName 3) (gdCons (gdName 4) gdNil))) (dTest (dVar 4)) (dVar 3) [3, 4])))))) (endsD [.dat d] Q) [.dat d, .no, .no, .no, .no] := by
  have hj19 : j < 19 := lt_of_get hj
  match j, hj19 with
  | 0, _ =>
    cases hj
    cases ho
    refine ⟨(by show 7 ≤ sizeLine; decide), (by show 3 ≤ sizeLine; decide), (by show 3 ≤ sizeLine; decide), (by show 3 + 3 ≤ sizeLine; decide), ?_⟩
    exact over_app (bs := [true, false, false, false, false, false]) (b := false) rfl rfl k
  | 1, _ =>
    cases hj
    cases ho
    refine ⟨(by show 7 ≤ sizeLine; decide), (by show 3 ≤ sizeLine; decide), (by show 3 ≤ sizeLine; decide), (by show 3 + 3 ≤ sizeLine; decide), ?_⟩
    exact over_app (bs := [true, false, false, false, false, false]) (b := false) rfl rfl k
  | 2, _ =>
    cases hj
    cases ho
    refine ⟨(by show 7 ≤ sizeLine; decide), (by show 3 ≤ sizeLine; decide), (by show 3 ≤ sizeLine; decide), (by show 3 + 3 ≤ sizeLine; decide), ?_⟩
    exact over_app (bs := [true, false, false, false, false, false]) (b := false) rfl rfl k
  | 3, _ =>
    cases hj
    cases ho
    refine ⟨(by show 7 ≤ sizeLine; decide), (by show 3 ≤ sizeLine; decide), (by show 3 ≤ sizeLine; decide), (by show 3 + 3 ≤ sizeLine; decide), ?_⟩
    exact over_app (bs := [true, false, false, false, false, false]) (b := false) rfl rfl k
  | 4, _ =>
    cases hj
    cases ho
    refine ⟨(by show 7 ≤ sizeLine; decide), (by show 3 ≤ sizeLine; decide), (by show 3 ≤ sizeLine; decide), (by show 3 + 3 ≤ sizeLine; decide), ?_⟩
    exact over_app (bs := [true, false, false, false, false, false]) (b := false) rfl rfl k
  | 5, _ =>
    cases hj
    cases ho
    refine ⟨(by show 7 ≤ sizeLine; decide), (by show 3 ≤ sizeLine; decide), (by show 3 ≤ sizeLine; decide), (by show 3 + 3 ≤ sizeLine; decide), ?_⟩
    exact over_app (bs := [true, false, false, false, false, false]) (b := false) rfl rfl k
  | 6, _ =>
    cases hj
    cases ho
    refine ⟨(by show 7 ≤ sizeLine; decide), (by show 3 ≤ sizeLine; decide), (by show 3 ≤ sizeLine; decide), (by show 3 + 3 ≤ sizeLine; decide), ?_⟩
    exact over_app (bs := [true, false, false, false, false, false]) (b := false) rfl rfl k
  | 7, _ =>
    cases hj
    cases ho
    refine ⟨(by show 7 ≤ sizeLine; decide), (by show 3 ≤ sizeLine; decide), (by show 3 ≤ sizeLine; decide), (by show 3 + 3 ≤ sizeLine; decide), ?_⟩
    exact over_app (bs := [true, false, false, false, false, false]) (b := false) rfl rfl k
  | 8, _ =>
    cases hj
    cases ho
    refine ⟨(by show 7 ≤ sizeLine; decide), (by show 3 ≤ sizeLine; decide), (by show 3 ≤ sizeLine; decide), (by show 3 + 3 ≤ sizeLine; decide), ?_⟩
    exact over_app (bs := [false, true, true, false, false, false]) (b := false) rfl rfl k
  | 9, _ =>
    cases hj
    cases ho
    refine ⟨(by show 7 ≤ sizeLine; decide), (by show 3 ≤ sizeLine; decide), (by show 3 ≤ sizeLine; decide), (by show 3 + 3 ≤ sizeLine; decide), ?_⟩
    exact over_app (bs := [false, true, true, false, false, false]) (b := false) rfl rfl k
  | 10, _ =>
    cases hj
    cases ho
    refine ⟨(by show 7 ≤ sizeLine; decide), (by show 3 ≤ sizeLine; decide), (by show 3 ≤ sizeLine; decide), (by show 3 + 3 ≤ sizeLine; decide), ?_⟩
    exact over_app (bs := [false, true, true, false, false, false]) (b := false) rfl rfl k
  | 11, _ =>
    cases hj
    cases ho
    refine ⟨(by show 7 ≤ sizeLine; decide), (by show 3 ≤ sizeLine; decide), (by show 3 ≤ sizeLine; decide), (by show 3 + 3 ≤ sizeLine; decide), ?_⟩
    exact over_app (bs := [false, true, true, false, false, false]) (b := false) rfl rfl k
  | 12, _ =>
    cases hj
    cases ho
    refine ⟨(by show 7 ≤ sizeLine; decide), (by show 3 ≤ sizeLine; decide), (by show 3 ≤ sizeLine; decide), (by show 3 + 3 ≤ sizeLine; decide), ?_⟩
    exact over_app (bs := [false, false, true, false, false, false]) (b := false) rfl rfl k
  | 13, _ =>
    cases hj
    cases ho
    refine ⟨(by show 7 ≤ sizeLine; decide), (by show 3 ≤ sizeLine; decide), (by show 3 ≤ sizeLine; decide), (by show 3 + 3 ≤ sizeLine; decide), ?_⟩
    exact over_app (bs := [false, false, true, false, false, false]) (b := false) rfl rfl k
  | 14, _ =>
    cases hj
    cases ho
    refine ⟨(by show 7 ≤ sizeLine; decide), (by show 3 ≤ sizeLine; decide), (by show 3 ≤ sizeLine; decide), (by show 3 + 3 ≤ sizeLine; decide), ?_⟩
    exact over_app (bs := [false, false, true, false, false, false]) (b := false) rfl rfl k
  | 15, _ =>
    cases hj
    cases ho
    refine ⟨(by show 7 ≤ sizeLine; decide), (by show 3 ≤ sizeLine; decide), (by show 3 ≤ sizeLine; decide), (by show 3 + 3 ≤ sizeLine; decide), ?_⟩
    exact over_app (bs := [false, false, true, true, false, false]) (b := false) rfl rfl k
  | 16, _ =>
    cases hj
    cases ho
    refine ⟨(by show 7 ≤ sizeLine; decide), (by show 3 ≤ sizeLine; decide), (by show 3 ≤ sizeLine; decide), (by show 3 + 3 ≤ sizeLine; decide), ?_⟩
    exact over_app (bs := [false, false, false, false, false, true]) (b := true) rfl rfl k
  | 17, _ =>
    cases hj
    cases ho
    refine ⟨(by show 7 ≤ sizeLine; decide), (by show 3 ≤ sizeLine; decide), (by show 3 ≤ sizeLine; decide), (by show 3 + 3 ≤ sizeLine; decide), ?_⟩
    exact over_app (bs := [false, false, false, false, true, false]) (b := false) rfl rfl k
  | 18, _ =>
    cases hj
    cases ho
    refine ⟨(by show 7 ≤ sizeLine; decide), (by show 3 ≤ sizeLine; decide), (by show 3 ≤ sizeLine; decide), (by show 3 + 3 ≤ sizeLine; decide), ?_⟩
    exact over_app (bs := [false, false, false, false, true, false]) (b := false) rfl rfl k
  | n + 19, h => exact absurd h (by omega)
theorem ok_over (F : Fun K "_law_over" "_law_over" s__law_over f fd) (T : Txt mg) (ix_ValueError : IsX K xsN (.type "ValueError") up_ValueError) (ix_KeyError : IsX K xsN (.type "KeyError") up_KeyError) (ix_LookupError : IsX K xsN (.type "LookupError") up_LookupError) (ix_IndexError : IsX K xsN (.type "IndexError") up_IndexError) (ix_RuntimeError : IsX K xsN (.type "RuntimeError") up_RuntimeError) (ix_ArithmeticError : IsX K xsN (.type "ArithmeticError") up_ArithmeticError) (ix_OverflowError : IsX K xsN (.type "OverflowError") up_OverflowError) : FnOk P w K mg base CX0 1 1 f fd ["_law_one"] (upSp K spOver) := by
  refine fn_d F sc__law_over (fun ss Q h => ?_) (fun cdv A outer s H E hr => ⟨_, (qss_cons (qs_set (i := 1) sc__law_over.nd rfl (by first | exact Or.inl rfl | exact Or.inr rfl) (q_lst (qa_consts rfl)))
      (qss_cons (qs_set (i := 2) sc__law_over.nd rfl (by first | exact Or.inl rfl | exact Or.inr rfl) (q_lst (qa_cons (q_isXv (tv := .ty "ValueError") ix_ValueError (fun _ hu => hu) T.isinstance rfl (qv 0) (pe_bltn (v := .ty "ValueError") rfl T.ValueError bt_ValueError rfl)) (qa_cons (q_isXv (tv := .ty "KeyError") ix_KeyError (fun _ hu => hu) T.isinstance rfl (qv 0) (pe_bltn (v := .ty "KeyError") rfl T.KeyError bt_KeyError rfl)) (qa_cons (q_isXv (tv := .ty "LookupError") ix_LookupError (fun _ hu => hu) T.isinstance rfl (qv 0) (pe_bltn (v := .ty "LookupError") rfl T.LookupError bt_LookupError rfl)) qa_nil)))))
      (qss_cons (qs_set (i := 2) sc__law_over.nd rfl (by first | exact Or.inl rfl | exact Or.inr rfl) (q_op (add2K (K := K)) od_add (qv 2) (q_lst (qa_cons (q_isXv (tv := .ty "IndexError") ix_IndexError (fun _ hu => hu) T.isinstance rfl (qv 0) (pe_bltn (v := .ty "IndexError") rfl T.IndexError bt_IndexError rfl)) (qa_cons (q_isXv (tv := .ty "RuntimeError") ix_RuntimeError (fun _ hu => hu) T.isinstance rfl (qv 0) (pe_bltn (v := .ty "RuntimeError") rfl T.RuntimeError bt_RuntimeError rfl)) (qa_cons (q_isXv (tv := .ty "ArithmeticError") ix_ArithmeticError (fun _ hu => hu) T.isinstance rfl (qv 0) (pe_bltn (v := .ty "ArithmeticError") rfl T.ArithmeticError bt_ArithmeticError rfl)) qa_nil))))))
      (qss_cons (qs_expr (q_append (qv 2) (qa_cons (q_isXv (tv := .ty "OverflowError") ix_OverflowError (fun _ hu => hu) T.isinstance rfl (qv 0) (pe_bltn (v := .ty "OverflowError") rfl T.OverflowError bt_OverflowError rfl)) qa_nil)))
      (qss_one (qs_ret (q_lc (own := [("_law_label", 3), ("_law_is_one", 4)]) (t := (gTup K 2 (gCons (gName 3) (gCons (gName 4) gNil)))) (ug_tup (ugs_cons ug_name (ugs_cons ug_name ugs_nil))) (gl_tup (gls_cons (gl_name (by simp)) gm_name (gls_cons (gl_name (by simp)) gm_name gls_nil gsm_nil) (gsm_cons gm_name gsm_nil))) (gm_tup (gsm_cons gm_name (gsm_cons gm_name gsm_nil))) rfl sc__law_over.nd (qi_zip rfl T.zip (qa_cons (qv 1) (qa_cons (qv 2) qa_nil))) (blkOk_by (own := [("_law_label", 3), ("_law_is_one", 4)]) (N := N__law_over) (sc := defScope s__law_over) (by first | decide +kernel | rfl)) (fun _ _ _ _ _ => (pg_tup rfl (pgs_cons (pg_name (i := 3) sc__law_over.nd rfl (by first | exact Or.inl rfl | exact Or.inr rfl)) (pgs_cons (pg_name (i := 4) sc__law_over.nd rfl (by first | exact Or.inl rfl | exact Or.inr rfl)) pgs_nil)))) (fun _ _ _ _ _ => (qts_one (qt_val (qv 4)))) (fun _ _ _ _ _ => (qv 3))))))))), fun ss Q h => ?_⟩)
  · obtain ⟨a, b, d, j, os, rfl, _⟩ := h
    rfl
  obtain ⟨a, b, d, j, os, rfl, hj, ho, k⟩ := h
  -- 0=_law_one 1=_law_words 2=_law_found 3=_law_label 4=_law_is_one
  exact over_run hj ho k
end
end K1
namespace K1
open PySem L2 TK ZG DL
section
variable {P : Program} {w : World} {K : PySem.W.Frag} {mg : Str → Option Value} {base : Heap} {f : Addr} {fd : FuncData}
theorem ok_made (F : Fun K "_law_made" "_law_made" s__law_made f fd) (T : Txt mg) (hx_BadSource : HasX P w K mg base "BadSource" ["part"] [] 1 (fun ds => ds)) (hx_BadRow : HasX P w K mg base "BadRow" ["row"] [] 1 (fun ds => ds)) (hx_BadText : HasX P w K mg base "BadText" ["at"] [] 1 (fun ds => ds)) (hx_BadPath : HasX P w K mg base "BadPath" ["path"] [] 1 (fun ds => ds)) (hx_BadName : HasX P w K mg base "BadName" ["name"] [] 1 (fun ds => ds)) (hx_BadTemplate : HasX P w K mg base "BadTemplate" ["name"] [] 1 (fun ds => ds)) (hx_BadNumber : HasX P w K mg base "BadNumber" ["number"] [] 1 (fun ds => ds)) (hx_BadDeed : HasX P w K mg base "BadDeed" ["number"] [] 1 (fun ds => ds)) (hx_NoLead : HasX P w K mg base "NoLead" ["path"] [] 1 (fun ds => ds)) (hx_NoName : HasX P w K mg base "NoName" ["name"] [] 1 (fun ds => ds)) (hx_NoRead : HasX P w K mg base "NoRead" ["key"] [] 1 (fun ds => ds)) (hx_BadKey : HasX P w K mg base "BadKey" ["key"] [] 1 (fun ds => ds)) (hx_NoPath : HasX P w K mg base "NoPath" ["path"] [] 1 (fun ds => ds)) (hx_NoPage : HasX P w K mg base "NoPage" ["path"] [] 1 (fun ds => ds)) (hx_NoAddress : HasX P w K mg base "NoAddress" ["address"] [] 1 (fun ds => ds)) (hx_NoPart : HasX P w K mg base "NoPart" ["tag", "number"] [] 2 (fun ds => ds)) (hx_TooMany : HasX P w K mg base "TooMany" ["many"] [] 1 (fun ds => ds)) (hx_Taken : HasX P w K mg base "Taken" ["path"] [] 1 (fun ds => ds)) (hx_Fault : HasX P w K mg base "Fault" ["word", "what"] [] 2 (fun ds => ds)) : FnOk P w K mg base CX0 1 3 f fd ["_law_a", "_law_b"] (upSp K spMade) := by
  refine fn_d F sc__law_made (fun ss Q h => ?_) (fun cdv A outer s H E hr => ⟨_, (qss_cons (qs_set (i := 2) sc__law_made.nd rfl (by first | exact Or.inl rfl | exact Or.inr rfl) (q_lst (qa_cons (q_mkX hx_BadSource (hr.mono (by decide)) rfl (qa_cons (qv 0) qa_nil)) (qa_cons (q_mkX hx_BadRow (hr.mono (by decide)) rfl (qa_cons (qv 0) qa_nil)) (qa_cons (q_mkX hx_BadText (hr.mono (by decide)) rfl (qa_cons (qv 0) qa_nil)) (qa_cons (q_mkX hx_BadPath (hr.mono (by decide)) rfl (qa_cons (qv 0) qa_nil)) (qa_cons (q_mkX hx_BadName (hr.mono (by decide)) rfl (qa_cons (qv 0) qa_nil)) (qa_cons (q_mkX hx_BadTemplate (hr.mono (by decide)) rfl (qa_cons (qv 0) qa_nil)) (qa_cons (q_mkX hx_BadNumber (hr.mono (by decide)) rfl (qa_cons (qv 0) qa_nil)) (qa_cons (q_mkX hx_BadDeed (hr.mono (by decide)) rfl (qa_cons (qv 0) qa_nil)) qa_nil))))))))))
      (qss_cons (qs_set (i := 2) sc__law_made.nd rfl (by first | exact Or.inl rfl | exact Or.inr rfl) (q_op (add2K (K := K)) od_add (qv 2) (q_lst (qa_cons (q_mkX hx_NoLead (hr.mono (by decide)) rfl (qa_cons (qv 0) qa_nil)) (qa_cons (q_mkX hx_NoName (hr.mono (by decide)) rfl (qa_cons (qv 0) qa_nil)) (qa_cons (q_mkX hx_NoRead (hr.mono (by decide)) rfl (qa_cons (qv 0) qa_nil)) (qa_cons (q_mkX hx_BadKey (hr.mono (by decide)) rfl (qa_cons (qv 0) qa_nil)) (qa_cons (q_mkX hx_NoPath (hr.mono (by decide)) rfl (qa_cons (qv 0) qa_nil)) (qa_cons (q_mkX hx_NoPage (hr.mono (by decide)) rfl (qa_cons (qv 0) qa_nil)) (qa_cons (q_mkX hx_NoAddress (hr.mono (by decide)) rfl (qa_cons (qv 0) qa_nil)) (qa_cons (q_mkX hx_NoPart (hr.mono (by decide)) rfl (qa_cons (qv 0) (qa_cons (qv 1) qa_nil))) qa_nil)))))))))))
      (qss_one (qs_ret (q_op (add2K (K := K)) od_add (qv 2) (q_lst (qa_cons (q_mkX hx_TooMany (hr.mono (by decide)) rfl (qa_cons (qv 0) qa_nil)) (qa_cons (q_mkX hx_Taken (hr.mono (by decide)) rfl (qa_cons (qv 0) qa_nil)) (qa_cons (q_mkX hx_Fault (hr.mono (by decide)) rfl (qa_cons (qv 0) (qa_cons (qv 1) qa_nil))) qa_nil))))))))), fun ss Q h => ?_⟩)
  · obtain ⟨a, b, rfl, _⟩ := h
    rfl
  obtain ⟨a, b, rfl, k⟩ := h
  -- 0=_law_a 1=_law_b 2=_law_found
  refine ⟨rfl, rfl, rfl, rfl, rfl, rfl, rfl, rfl, (by show 8 ≤ sizeLine; decide), rfl, rfl, rfl, rfl, rfl, rfl, rfl, rfl, (by show 8 ≤ sizeLine; decide), (by show 8 + 8 ≤ sizeLine; decide), rfl, rfl, rfl, (by show 3 ≤ sizeLine; decide), (by show 16 + 3 ≤ sizeLine; decide), k⟩
theorem ok_called (F : Fun K "_law_called" "_law_called" s__law_called f fd) (T : Txt mg) (hk_BadSource : HasX P w K mg base "BadSource" ["part"] ["part"] 0 (fun ds => ds)) (hk_BadRow : HasX P w K mg base "BadRow" ["row"] ["row"] 0 (fun ds => ds)) (hk_BadText : HasX P w K mg base "BadText" ["at"] ["at"] 0 (fun ds => ds)) (hk_BadPath : HasX P w K mg base "BadPath" ["path"] ["path"] 0 (fun ds => ds)) (hk_BadName : HasX P w K mg base "BadName" ["name"] ["name"] 0 (fun ds => ds)) (hk_BadTemplate : HasX P w K mg base "BadTemplate" ["name"] ["name"] 0 (fun ds => ds)) (hk_BadNumber : HasX P w K mg base "BadNumber" ["number"] ["number"] 0 (fun ds => ds)) (hk_BadDeed : HasX P w K mg base "BadDeed" ["number"] ["number"] 0 (fun ds => ds)) (hk_NoLead : HasX P w K mg base "NoLead" ["path"] ["path"] 0 (fun ds => ds)) (hk_NoName : HasX P w K mg base "NoName" ["name"] ["name"] 0 (fun ds => ds)) (hk_NoRead : HasX P w K mg base "NoRead" ["key"] ["key"] 0 (fun ds => ds)) (hk_BadKey : HasX P w K mg base "BadKey" ["key"] ["key"] 0 (fun ds => ds)) (hk_NoPath : HasX P w K mg base "NoPath" ["path"] ["path"] 0 (fun ds => ds)) (hk_NoPage : HasX P w K mg base "NoPage" ["path"] ["path"] 0 (fun ds => ds)) (hk_NoAddress : HasX P w K mg base "NoAddress" ["address"] ["address"] 0 (fun ds => ds)) (hk_NoPart : HasX P w K mg base "NoPart" ["tag", "number"] ["number", "tag"] 0 List.reverse) (hk_TooMany : HasX P w K mg base "TooMany" ["many"] ["many"] 0 (fun ds => ds)) (hk_Taken : HasX P w K mg base "Taken" ["path"] ["path"] 0 (fun ds => ds)) (hk_Fault : HasX P w K mg base "Fault" ["word", "what"] ["what", "word"] 0 List.reverse) : FnOk P w K mg base CX0 1 3 f fd ["_law_a", "_law_b"] (upSp K spMade) := by
  refine fn_d F sc__law_called (fun ss Q h => ?_) (fun cdv A outer s H E hr => ⟨_, (qss_cons (qs_set (i := 2) sc__law_called.nd rfl (by first | exact Or.inl rfl | exact Or.inr rfl) (q_lst (qa_cons (q_mkXK hk_BadSource (hr.mono (by decide)) rfl (qk_cons (qv 0) qk_nil)) (qa_cons (q_mkXK hk_BadRow (hr.mono (by decide)) rfl (qk_cons (qv 0) qk_nil)) (qa_cons (q_mkXK hk_BadText (hr.mono (by decide)) rfl (qk_cons (qv 0) qk_nil)) (qa_cons (q_mkXK hk_BadPath (hr.mono (by decide)) rfl (qk_cons (qv 0) qk_nil)) (qa_cons (q_mkXK hk_BadName (hr.mono (by decide)) rfl (qk_cons (qv 0) qk_nil)) (qa_cons (q_mkXK hk_BadTemplate (hr.mono (by decide)) rfl (qk_cons (qv 0) qk_nil)) qa_nil))))))))
      (qss_cons (qs_set (i := 2) sc__law_called.nd rfl (by first | exact Or.inl rfl | exact Or.inr rfl) (q_op (add2K (K := K)) od_add (qv 2) (q_lst (qa_cons (q_mkXK hk_BadNumber (hr.mono (by decide)) rfl (qk_cons (qv 0) qk_nil)) (qa_cons (q_mkXK hk_BadDeed (hr.mono (by decide)) rfl (qk_cons (qv 0) qk_nil)) (qa_cons (q_mkXK hk_NoLead (hr.mono (by decide)) rfl (qk_cons (qv 0) qk_nil)) (qa_cons (q_mkXK hk_NoName (hr.mono (by decide)) rfl (qk_cons (qv 0) qk_nil)) (qa_cons (q_mkXK hk_NoRead (hr.mono (by decide)) rfl (qk_cons (qv 0) qk_nil)) qa_nil))))))))
      (qss_cons (qs_set (i := 2) sc__law_called.nd rfl (by first | exact Or.inl rfl | exact Or.inr rfl) (q_op (add2K (K := K)) od_add (qv 2) (q_lst (qa_cons (q_mkXK hk_BadKey (hr.mono (by decide)) rfl (qk_cons (qv 0) qk_nil)) (qa_cons (q_mkXK hk_NoPath (hr.mono (by decide)) rfl (qk_cons (qv 0) qk_nil)) (qa_cons (q_mkXK hk_NoPage (hr.mono (by decide)) rfl (qk_cons (qv 0) qk_nil)) (qa_cons (q_mkXK hk_NoAddress (hr.mono (by decide)) rfl (qk_cons (qv 0) qk_nil)) (qa_cons (q_mkXK hk_NoPart (hr.mono (by decide)) rfl (qk_cons (qv 1) (qk_cons (qv 0) qk_nil))) qa_nil))))))))
      (qss_one (qs_ret (q_op (add2K (K := K)) od_add (qv 2) (q_lst (qa_cons (q_mkXK hk_TooMany (hr.mono (by decide)) rfl (qk_cons (qv 0) qk_nil)) (qa_cons (q_mkXK hk_Taken (hr.mono (by decide)) rfl (qk_cons (qv 0) qk_nil)) (qa_cons (q_mkXK hk_Fault (hr.mono (by decide)) rfl (qk_cons (qv 1) (qk_cons (qv 0) qk_nil))) qa_nil)))))))))), fun ss Q h => ?_⟩)
  · obtain ⟨a, b, rfl, _⟩ := h
    rfl
  obtain ⟨a, b, rfl, k⟩ := h
  -- 0=_law_a 1=_law_b 2=_law_found
  refine ⟨rfl, rfl, rfl, rfl, rfl, rfl, (by show 6 ≤ sizeLine; decide), rfl, rfl, rfl, rfl, rfl, (by show 5 ≤ sizeLine; decide), (by show 6 + 5 ≤ sizeLine; decide), rfl, rfl, rfl, rfl, rfl, (by show 5 ≤ sizeLine; decide), (by show 11 + 5 ≤ sizeLine; decide), rfl, rfl, rfl, (by show 3 ≤ sizeLine; decide), (by show 16 + 3 ≤ sizeLine; decide), k⟩
theorem ok_fields (F : Fun K "_law_fields" "_law_fields" s__law_fields f fd) (T : Txt mg) : FnOk P w K mg base CX0 1 1 f fd ["_law_some"] (upSp K spFields) := by
  refine fn_d F sc__law_fields (fun ss Q h => ?_) (fun cdv A outer s H E hr => ⟨_, (qss_cons (qs_set (i := 1) sc__law_fields.nd rfl (by first | exact Or.inl rfl | exact Or.inr rfl) (q_lst (qa_cons (q_fldX (q_ix (ixK (K := K)) od_ix (qv 0) q_int (fun _ _ => rfl))) (qa_cons (q_fldX (q_ix (ixK (K := K)) od_ix (qv 0) q_int (fun _ _ => rfl))) (qa_cons (q_fldX (q_ix (ixK (K := K)) od_ix (qv 0) q_int (fun _ _ => rfl))) (qa_cons (q_fldX (q_ix (ixK (K := K)) od_ix (qv 0) q_int (fun _ _ => rfl))) (qa_cons (q_fldX (q_ix (ixK (K := K)) od_ix (qv 0) q_int (fun _ _ => rfl))) (qa_cons (q_fldX (q_ix (ixK (K := K)) od_ix (qv 0) q_int (fun _ _ => rfl))) (qa_cons (q_fldX (q_ix (ixK (K := K)) od_ix (qv 0) q_int (fun _ _ => rfl))) qa_nil)))))))))
      (qss_cons (qs_set (i := 1) sc__law_fields.nd rfl (by first | exact Or.inl rfl | exact Or.inr rfl) (q_op (add2K (K := K)) od_add (qv 1) (q_lst (qa_cons (q_fldX (q_ix (ixK (K := K)) od_ix (qv 0) q_int (fun _ _ => rfl))) (qa_cons (q_fldX (q_ix (ixK (K := K)) od_ix (qv 0) q_int (fun _ _ => rfl))) (qa_cons (q_fldX (q_ix (ixK (K := K)) od_ix (qv 0) q_int (fun _ _ => rfl))) (qa_cons (q_fldX (q_ix (ixK (K := K)) od_ix (qv 0) q_int (fun _ _ => rfl))) (qa_cons (q_fldX (q_ix (ixK (K := K)) od_ix (qv 0) q_int (fun _ _ => rfl))) (qa_cons (q_fldX (q_ix (ixK (K := K)) od_ix (qv 0) q_int (fun _ _ => rfl))) qa_nil)))))))))
      (qss_cons (qs_set (i := 1) sc__law_fields.nd rfl (by first | exact Or.inl rfl | exact Or.inr rfl) (q_op (add2K (K := K)) od_add (qv 1) (q_lst (qa_cons (q_fldX (q_ix (ixK (K := K)) od_ix (qv 0) q_int (fun _ _ => rfl))) (qa_cons (q_fldX (q_ix (ixK (K := K)) od_ix (qv 0) q_int (fun _ _ => rfl))) (qa_cons (q_tup (qa_cons (q_fldX (q_ix (ixK (K := K)) od_ix (qv 0) q_int (fun _ _ => rfl))) (qa_cons (q_fldX (q_ix (ixK (K := K)) od_ix (qv 0) q_int (fun _ _ => rfl))) qa_nil))) (qa_cons (q_fldX (q_ix (ixK (K := K)) od_ix (qv 0) q_int (fun _ _ => rfl))) (qa_cons (q_fldX (q_ix (ixK (K := K)) od_ix (qv 0) q_int (fun _ _ => rfl))) qa_nil))))))))
      (qss_one (qs_ret (q_op (add2K (K := K)) od_add (qv 1) (q_lst (qa_cons (q_tup (qa_cons (q_fldX (q_ix (ixK (K := K)) od_ix (qv 0) q_int (fun _ _ => rfl))) (qa_cons (q_fldX (q_ix (ixK (K := K)) od_ix (qv 0) q_int (fun _ _ => rfl))) qa_nil))) qa_nil)))))))), fun ss Q h => ?_⟩)
  · obtain ⟨a, b, rfl, _⟩ := h
    rfl
  obtain ⟨a, b, rfl, k⟩ := h
  -- 0=_law_some 1=_law_found
  refine ⟨(by show 7 ≤ sizeLine; decide), (by show 6 ≤ sizeLine; decide), (by show 7 + 6 ≤ sizeLine; decide), (by show 2 ≤ sizeLine; decide), (by show 5 ≤ sizeLine; decide), (by show 13 + 5 ≤ sizeLine; decide), (by show 2 ≤ sizeLine; decide), (by show 1 ≤ sizeLine; decide), (by show 18 + 1 ≤ sizeLine; decide), k⟩
end
end K1
namespace K1
open PySem L2 TK ZG DL
section
variable {P : Program} {w : World} {K : PySem.W.Frag} {mg : Str → Option Value} {base : Heap} {f : Addr} {fd : FuncData}
theorem ok_take (F : Fun K "_law_take" "_law_take" s__law_take f fd) : FnOk P w K mg base CX0 1 1 f fd ["_law_box", "_law_wide"] (upSp K spTake) := by
  refine fn_d F sc__law_take (fun ss Q h => ?_) (fun cdv A outer s H E hr => ⟨_, (qss_cons (qs_if (qt_cmp op_gtA od_gt (q_ix (ixK (K := K)) od_ix (qv 0) q_int (fun _ _ => rfl)) q_int (nomark _)) (qss_cons (qs_set (i := 4) sc__law_take.nd rfl (by first | exact Or.inl rfl | exact Or.inr rfl) (q_op op_mod od_I (q_ix (ixK (K := K)) od_ix (qv 0) q_int (fun _ _ => rfl)) (qv 1)))
      (qss_cons (qs_put (q_op op_fdiv od_I (q_ix (ixK (K := K)) od_ix (qv 0) q_int (fun _ _ => rfl)) (qv 1)) (qv 0) q_int)
      (qss_one (qs_ret (qv 4))))) qss_nil)
      (qss_cons (qs_put (q_op (add2K (K := K)) od_add (q_ix (ixK (K := K)) od_ix (qv 0) q_int (fun _ _ => rfl)) q_int) (qv 0) q_int)
      (qss_cons (qs_set (i := 2) sc__law_take.nd rfl (by first | exact Or.inl rfl | exact Or.inr rfl) (q_op op_mod od_I (q_op op_pow od_I (q_op (add2K (K := K)) od_add (q_ix (ixK (K := K)) od_ix (qv 0) q_int (fun _ _ => rfl)) (q_op op_mul2 od_mul q_int (q_ix (ixK (K := K)) od_ix (qv 0) q_int (fun _ _ => rfl)))) q_int) q_int))
      (qss_cons (qs_set (i := 3) sc__law_take.nd rfl (by first | exact Or.inl rfl | exact Or.inr rfl) (q_op op_mod od_I (q_op op_mul2 od_mul (q_op (add2K (K := K)) od_add (q_op (add2K (K := K)) od_add (qv 2) (q_ix (ixK (K := K)) od_ix (qv 0) q_int (fun _ _ => rfl))) (q_op op_fdiv od_I (q_ix (ixK (K := K)) od_ix (qv 0) q_int (fun _ _ => rfl)) q_int)) (q_op (add2K (K := K)) od_add (q_op (add2K (K := K)) od_add (q_op op_mod od_I (qv 2) q_int) q_int) (q_ix (ixK (K := K)) od_ix (qv 0) q_int (fun _ _ => rfl)))) q_int))
      (qss_one (qs_ret (q_op op_mod od_I (q_op op_fdiv od_I (q_op op_mod od_I (q_op (add2K (K := K)) od_add (q_op op_mul2 od_mul (qv 3) q_int) (qv 2)) q_int) q_int) (qv 1)))))))), fun ss Q h => ?_⟩)
  · obtain ⟨cs, m, n, rfl, _⟩ := h
    rfl
  obtain ⟨cs, m, n, rfl, ⟨x0, x1, x2, rfl, p0, p1, q1, p2, q2⟩, hn, hm, hm', k⟩ := h
  -- 0=_law_box 1=_law_wide 2=_law_once 3=_law_twice 4=_law_found
  refine ifB_of (fun c => ?_) (fun c => ?_)
  · refine ⟨hm, ⟨hm, hm'⟩, ?_⟩
    exact k (x0 % m) [.int (x0 / m), .int x1, .int x2] (Int.emod_nonneg _ (by omega)) (Int.emod_lt_of_pos _ hm) ⟨x0 / m, x1, x2, rfl, Int.ediv_nonneg p0 (by omega), p1, q1, p2, by omega⟩
  · refine ⟨.inl ⟨by decide, by decide⟩, ⟨by decide, by decide, ?_⟩, (by show (0 : Int) < 2147483647; decide), ⟨by decide, by decide⟩, (by show (0 : Int) < 40009; decide), ?_, (by show (0 : Int) < 2147483629; decide), .inr ⟨by decide, by decide⟩, (by show (0 : Int) < 2147483587; decide), ⟨by decide, by decide⟩, hm, ?_⟩
    · show (x1 + 39373 * (x2 + 1)).natAbs < 2 ^ 64
      omega
    · have m0 : 0 ≤ (x1 + 39373 * (x2 + 1)) ^ (5 : Int).toNat % 2147483647 % 40009 := Int.emod_nonneg _ (by decide)
      have m1 : (x1 + 39373 * (x2 + 1)) ^ (5 : Int).toNat % 2147483647 % 40009 < 40009 := Int.emod_lt_of_pos _ (by decide)
      refine .inr ?_
      show -(2 ^ 64) < (x1 + 39373 * (x2 + 1)) ^ (5 : Int).toNat % 2147483647 % 40009 + 7 + (x2 + 1) ∧ (x1 + 39373 * (x2 + 1)) ^ (5 : Int).toNat % 2147483647 % 40009 + 7 + (x2 + 1) < 2 ^ 64
      generalize (x1 + 39373 * (x2 + 1)) ^ (5 : Int).toNat % 2147483647 % 40009 = z at m0 m1 ⊢
      omega
    · exact k _ [.int x0, .int x1, .int (x2 + 1)] (Int.emod_nonneg _ (by omega)) (Int.emod_lt_of_pos _ hm) ⟨x0, x1, x2 + 1, rfl, p0, p1, q1, by omega, by omega⟩
theorem ok_dip (F : Fun K "_law_dip" "_law_dip" s__law_dip f fd) (T : Txt mg) : FnOk P w K mg base CX0 1 1 f fd ["_law_script", "_law_k"] (upSp K spDip) := by
  refine fn_d F sc__law_dip (fun ss Q h => ?_) (fun cdv A outer s H E hr => ⟨_, (qss_cons (qs_set (i := 2) sc__law_dip.nd rfl (by first | exact Or.inl rfl | exact Or.inr rfl) (q_ifExp (qt_cmp op_ltA od_lt (qv 1) (q_bi (lenK (K := K)) cd_len rfl T.len bt_len (qa_cons (qv 0) qa_nil)) (nomark _)) (q_ix (ixK (K := K)) od_ix (qv 0) (qv 1) (fun _ _ => rfl)) q_int))
      (qss_one (qs_ret (q_lst (qa_cons (q_op op_mul2 od_mul (q_bi call_abs cd_abs rfl T.abs bt_abs (qa_cons (qv 2) qa_nil)) (q_ty c_int cd_int rfl T.int bt_int (qa_cons (q_cmp op_geA od_ge (q_bi call_abs cd_abs rfl T.abs bt_abs (qa_cons (qv 2) qa_nil)) (q_op op_pow od_I q_int q_int) (nomark _)) qa_nil))) (qa_cons (q_op (add2K (K := K)) od_add (q_op (add2K (K := K)) od_add (q_op op_mod od_I (qv 2) q_int) (q_op op_mul2 od_mul q_int (qv 1))) q_int) (qa_cons q_int qa_nil))))))), fun ss Q h => ?_⟩)
  · obtain ⟨ns, i, rfl, _⟩ := h
    rfl
  obtain ⟨ns, i, rfl, h0, h1, k⟩ := h
  -- 0=_law_script 1=_law_k 2=_law_cell
  have fin : ∀ c : Int, dRet (dLst (dCons (dOp oMul (dCB bAbs (dCons (dVar 2) dNil)) (dCB bInt (dCons (dOp oGe (dCB bAbs (dCons (dVar 2) dNil)) (dOp (oI CPow fun i j => i ^ j.toNat) (dC (.int 10)) (dC (.int 18)))) dNil)))
      (dCons (dOp oAdd (dOp oAdd (dOp (oI (fun _ j => 0 < j) HMod.hMod) (dVar 2) (dC (.int 2305843009213693951))) (dOp oMul (dC (.int 39373)) (dVar 1))) (dC (.int 17))) (dCons (dC (.int 0)) dNil)))) (endsD [.dat (.list (ns.map PyData.int)), .dat (.int i)] Q) [.dat (.list (ns.map PyData.int)), .dat (.int i), .dat (.int c)] := by
    intro c
    refine ⟨⟨by decide, by decide, by decide⟩, (.inr ?_), (by show (0 : Int) < 2305843009213693951; decide), .inl ⟨by decide, by decide⟩, (by show 3 ≤ sizeLine; decide), ?_⟩
    · show -(2 ^ 64) < (if decide ((10 : Int) ^ (18 : Int).toNat ≤ if c < 0 then -c else c) = true then (1 : Int) else 0) ∧ (if decide ((10 : Int) ^ (18 : Int).toNat ≤ if c < 0 then -c else c) = true then (1 : Int) else 0) < 2 ^ 64
      by_cases q : decide ((10 : Int) ^ (18 : Int).toNat ≤ if c < 0 then -c else c) = true
      · rw [if_pos q]; exact ⟨by decide, by decide⟩
      · rw [if_neg q]; exact ⟨by decide, by decide⟩
    · have e0 : 0 ≤ c % 2305843009213693951 := Int.emod_nonneg _ (by decide)
      have e1 : c % 2305843009213693951 < 2305843009213693951 := Int.emod_lt_of_pos _ (by decide)
      refine k [_, _, _] ⟨_, _, _, rfl, ?_, by omega, by omega, by omega, by omega⟩
      refine Int.mul_nonneg ?_ (b01 _)
      split <;> omega
  refine ifB_of (fun c => ?_) (fun c => ?_)
  · have c' : i < (((ns.map PyData.int).length : Nat) : Int) := of_decide_eq_true c
    rw [List.length_map] at c'
    have q : atI (ns.map PyData.int) i = some (.int (ns[i.toNat]'(by omega))) := atD (j := i.toNat) (by omega) (by rw [List.getElem?_map, List.getElem?_eq_getElem (by omega)] <;> rfl)
    show wi (atI (ns.map PyData.int) i) _
    rw [q]
    exact fin _
  · exact fin 0
end
end K1
namespace K1
open PySem L2 TK ZG DL
section
variable {P : Program} {w : World} {K : PySem.W.Frag} {mg : Str → Option Value} {base : Heap} {f : Addr} {fd : FuncData}
def dep : Nat → PyData → Prop
  | _, .none => True
  | _, .bool _ => True
  | _, .int _ => True
  | _, .str _ => True
  | 0, .list _ => False
  | 0, .tuple _ => False
  | n + 1, .list ds => ds.length ≤ 100000 ∧ ∀ d ∈ ds, dep n d
  | n + 1, .tuple ds => ds.length ≤ 100000 ∧ ∀ d ∈ ds, dep n d
  | _, .dict _ => False
def spSame : Nat → DSp
  | 0 => fun _ _ => False
  | n + 1 => fun ss Q => ∃ d, ss = [.dat d, .dat d] ∧ dep n d ∧ Q (.dat (.bool true)) ss
def trues (n : Nat) : List PyData := List.replicate n (.bool true)
theorem bools_true : ∀ n, bools (trues n) = some (List.replicate n true)
  | 0 => rfl
  | n + 1 => by
    show (bools (trues n)).map _ = _
    rw [bools_true n]
    rfl
theorem all_true : ∀ n, (List.replicate n true).all id = true
  | 0 => rfl
  | n + 1 => by rw [List.replicate_succ, List.all_cons, all_true n]; rfl
theorem zip_self : ∀ ds : List PyData, zipD ds ds = ds.map fun d => .tuple [d, d]
  | [] => rfl
  | d :: r => by
    show _ :: zipD r r = _
    rw [zip_self r]; rfl
theorem eqv_int (i : Int) : PyData.eqv (.int i) (.int i) = true := by simp [PyData.eqv]
theorem eqv_bool (i : Bool) : PyData.eqv (.bool i) (.bool i) = true := by simp [PyData.eqv]
theorem eqv_str (i : Str) : PyData.eqv (.str i) (.str i) = true := by simp [PyData.eqv]
theorem ok_same {n k : Nat} (F : Fun K "_law_same" "_law_same" s__law_same f fd) (T : Txt mg) (h__law_same : Has P w K mg base "_law_same" k ["_law_found", "_law_due"] (upSp K (spSame n))) : FnOk P w K mg base CX0 1 (k + 1) f fd ["_law_found", "_law_due"] (upSp K (spSame (n + 1))) := by
  refine fn_d F sc__law_same (fun ss Q h => ?_) (fun cdv A outer s H E hr => ⟨_, (qss_cons (qs_if (qt_val (q_isi2 T.isinstance rfl (qv 1) (pe_tup (pa_cons (pe_bltn (v := .ty "list") rfl T.list bt_list rfl) (pa_cons (pe_bltn (v := .ty "tuple") rfl T.tuple bt_tuple rfl) pa_nil))))) (qss_cons (qs_if (QW.qt (qw_or (qt_cmp (neK (K := K) hr.units) od_ne (q_isi T.isinstance rfl (qv 0) (pe_bltn (v := .ty "list") rfl T.list bt_list rfl)) (q_isi T.isinstance rfl (qv 1) (pe_bltn (v := .ty "list") rfl T.list bt_list rfl)) (nomark _)) (qw_or1 (qt_cmp (neK (K := K) hr.units) od_ne (q_isi T.isinstance rfl (qv 0) (pe_bltn (v := .ty "tuple") rfl T.tuple bt_tuple rfl)) (q_isi T.isinstance rfl (qv 1) (pe_bltn (v := .ty "tuple") rfl T.tuple bt_tuple rfl)) (nomark _))))) (qss_one (qs_ret q_bl)) qss_nil)
      (qss_one (qs_ret (q_and (q_cmp (eqK (K := K) hr.units) od_eq (q_bi (lenK (K := K)) cd_len rfl T.len bt_len (qa_cons (qv 0) qa_nil)) (q_bi (lenK (K := K)) cd_len rfl T.len bt_len (qa_cons (qv 1) qa_nil)) (nomark _)) (q_one (q_bi (allK (K := K) rfl) cd_all rfl T.all bt_all (qa_cons (q_lc (own := [("_law_one", 2), ("_law_other", 3)]) (t := (gTup K 2 (gCons (gName 2) (gCons (gName 3) gNil)))) (ug_tup (ugs_cons ug_name (ugs_cons ug_name ugs_nil))) (gl_tup (gls_cons (gl_name (by simp)) gm_name (gls_cons (gl_name (by simp)) gm_name gls_nil gsm_nil) (gsm_cons gm_name gsm_nil))) (gm_tup (gsm_cons gm_name (gsm_cons gm_name gsm_nil))) rfl sc__law_same.nd (qi_zip rfl T.zip (qa_cons (qv 0) (qa_cons (qv 1) qa_nil))) (blkOk_by (own := [("_law_one", 2), ("_law_other", 3)]) (N := N__law_same) (sc := defScope s__law_same) (by first | decide +kernel | rfl)) (fun _ _ _ _ _ => (pg_tup rfl (pgs_cons (pg_name (i := 2) sc__law_same.nd rfl (by first | exact Or.inl rfl | exact Or.inr rfl)) (pgs_cons (pg_name (i := 3) sc__law_same.nd rfl (by first | exact Or.inl rfl | exact Or.inr rfl)) pgs_nil)))) (fun _ _ _ _ _ => qts_nil) (fun _ _ _ _ _ => (q_call h__law_same hr rfl (qa_cons (qv 2) (qa_cons (qv 3) qa_nil))))) qa_nil))))))) qss_nil)
      (qss_cons (qs_if (QW.qt (qw_or (qt_cmp op_isN od_is (qv 1) q_non (nomark _)) (qw_or1 (qt_cmp op_isN od_is (qv 0) q_non (nomark _))))) (qss_one (qs_ret (q_and (q_cmp op_isN od_is (qv 1) q_non (nomark _)) (q_one (q_cmp op_isN od_is (qv 0) q_non (nomark _)))))) qss_nil)
      (qss_cons (qs_if (QW.qt (qw_or (qt_val (q_isi T.isinstance rfl (qv 1) (pe_bltn (v := .ty "bool") rfl T.bool bt_bool rfl))) (qw_or1 (qt_val (q_isi T.isinstance rfl (qv 1) (pe_bltn (v := .ty "str") rfl T.str bt_str rfl)))))) (qss_one (qs_ret (q_and (q_cmp (eqK (K := K) hr.units) od_eq (q_isi T.isinstance rfl (qv 0) (pe_bltn (v := .ty "bool") rfl T.bool bt_bool rfl)) (q_isi T.isinstance rfl (qv 1) (pe_bltn (v := .ty "bool") rfl T.bool bt_bool rfl)) (nomark _)) (q_one (q_cmp (eqK (K := K) hr.units) od_eq (qv 0) (qv 1) (nomark _)))))) qss_nil)
      (qss_one (qs_ret (q_and (q_isi T.isinstance rfl (qv 0) (pe_bltn (v := .ty "int") rfl T.int bt_int rfl)) (q_and (q_not (q_isi T.isinstance rfl (qv 0) (pe_bltn (v := .ty "bool") rfl T.bool bt_bool rfl))) (q_one (q_cmp (eqK (K := K) hr.units) od_eq (qv 0) (qv 1) (nomark _)))))))))), fun ss Q h => ?_⟩)
  · obtain ⟨d, rfl, _⟩ := h
    rfl
  obtain ⟨d, rfl, hd, q⟩ := h
  -- 0=_law_found 1=_law_due 2=_law_one 3=_law_other
  have items : ∀ (ds : List PyData) (v : PyData), (∀ d ∈ ds, dep (n - 1) d) → ds.length ≤ 100000 → n ≠ 0 → ∀ (Q' : List PyData → DEnv → Prop), Q' (trues ds.length) [.dat v, .dat v, .no, .no] → lcL (gdTup 2 (gdCons (gdName 2) (gdCons (gdName 3) gdNil))) dYes (dCall (spSame n) (dCons (dVar 2) (dCons (dVar 3) dNil))) [2, 3] [.dat v, .dat v, .no, .no] (zipD ds ds) [] [.dat v, .dat v, .no, .no] Q' := by
    intro ds v hds hl hn Q' hq
    rw [zip_self]
    refine lcL_inv (fun L acc ρ => ∃ i r, ρ = [.dat v, .dat v, .no, .no] ∧ acc = trues i ∧ L = r.map (fun d => PyData.tuple [d, d]) ∧ i + r.length = ds.length ∧ ∀ d ∈ r, d ∈ ds) ?_ ?_ _ _ _ ⟨0, ds, rfl, rfl, rfl, by omega, fun d h => h⟩
    · rintro d L acc ρ ⟨i, r, rfl, rfl, eL, hi, hr⟩ nxt
      cases r with
      | nil => cases eL
      | cons x r =>
        rw [List.map_cons] at eL
        injection eL with e1 e2
        subst e1
        rw [List.length_cons] at hi
        cases n with
        | zero => exact absurd rfl hn
        | succ n' =>
          refine ⟨rfl, rfl, x, rfl, hds x (hr x (by simp)), ?_⟩
          refine ⟨by unfold trues; rw [List.length_replicate]; exact lt1000 (by omega), nxt _ _ ⟨i + 1, r, rfl, by unfold trues; rw [List.replicate_succ'], e2, by omega, fun d hd => hr d (by simp [hd])⟩⟩
    · rintro acc ρ ⟨i, r, rfl, rfl, eL, hi, hr⟩
      cases r with
      | nil => simp at hi; rw [hi]; exact hq
      | cons x r => cases eL
  cases d with
  | none => exact q
  | bool b =>
    refine ⟨rfl, rfl, ?_⟩
    show Q (.dat (.bool (PyData.eqv (.bool b) (.bool b)))) _
    rw [eqv_bool]; exact q
  | int i =>
    refine ⟨rfl, ?_⟩
    show Q (.dat (.bool (PyData.eqv (.int i) (.int i)))) _
    rw [eqv_int]; exact q
  | str z =>
    refine ⟨rfl, rfl, ?_⟩
    show Q (.dat (.bool (PyData.eqv (.str z) (.str z)))) _
    rw [eqv_str]; exact q
  | list ds =>
    cases n with
    | zero => exact hd.elim
    | succ n' =>
      refine ⟨rfl, rfl, rfl, ifB_t (eqv_int _) ⟨rfl, items ds _ hd.2 hd.1 (by omega) _ ?_⟩⟩
      show ws (bools (trues ds.length)) _
      rw [bools_true]
      show Q (.dat (.bool ((List.replicate ds.length true).all id))) _
      rw [all_true]; exact q
  | tuple ds =>
    cases n with
    | zero => exact hd.elim
    | succ n' =>
      refine ⟨rfl, rfl, rfl, ifB_t (eqv_int _) ⟨rfl, items ds _ hd.2 hd.1 (by omega) _ ?_⟩⟩
      show ws (bools (trues ds.length)) _
      rw [bools_true]
      show Q (.dat (.bool ((List.replicate ds.length true).all id))) _
      rw [all_true]; exact q
  | dict kvs => cases n <;> exact hd.elim
end
end K1
namespace K1
open PySem L2 TK ZG DL
section
variable {P : Program} {w : World} {K : PySem.W.Frag} {mg : Str → Option Value} {base : Heap} {f : Addr} {fd : FuncData}
def spThing : DSp := fun ss Q => ∃ (cs : List PyData) (n : Nat), ss = [.own cs] ∧ BoxD cs n ∧ n + 2 ≤ 1000000000 ∧ ∀ d cs', dep 1 d → BoxD cs' (n + 2) → Q (.dat d) [.own cs']
theorem ok_thing (F : Fun K "_law_thing" "_law_thing" s__law_thing f fd) (T : Txt mg) (h__law_take : Has P w K mg base "_law_take" 1 ["_law_box", "_law_wide"] (upSp K spTake)) : FnOk P w K mg base CX0 1 2 f fd ["_law_box"] (upSp K spThing) := by
  refine fn_d F sc__law_thing (fun ss Q h => ?_) (fun cdv A outer s H E hr => ⟨_, (qss_cons (qs_set (i := 1) sc__law_thing.nd rfl (by first | exact Or.inl rfl | exact Or.inr rfl) (q_lst (qa_cons (q_callM [true, false] h__law_take (hr.mono (by decide)) rfl (qa_cons (qv 0) (qa_cons (q_op op_pow od_I q_int q_int) qa_nil))) (qa_cons q_str (qa_cons q_str (qa_cons q_str (qa_cons (q_tup (qa_cons q_str (qa_cons q_str qa_nil))) (qa_cons (q_lst (qa_cons q_str (qa_cons q_str qa_nil))) (qa_cons q_non (qa_cons q_str (qa_cons (q_tup qa_nil) (qa_cons q_str qa_nil))))))))))))
      (qss_one (qs_ret (q_ix (ixK (K := K)) od_ix (qv 1) (q_callM [true, false] h__law_take (hr.mono (by decide)) rfl (qa_cons (qv 0) (qa_cons q_int qa_nil))) (fun _ _ => rfl))))), fun ss Q h => ?_⟩)
  · obtain ⟨cs, n, rfl, _⟩ := h
    rfl
  obtain ⟨cs, n, rfl, B, hn, k⟩ := h
  -- 0=_law_box 1=_law_some
  refine ⟨⟨by decide, by decide, by decide⟩, rfl, cs, 1000000, n, rfl, B, by omega, by decide, by decide, fun r cs1 h0 h1 B1 => ?_⟩
  refine ⟨(by show 2 ≤ sizeLine; decide), (by show 2 ≤ sizeLine; decide), (by show 0 ≤ sizeLine; decide), (by show 10 ≤ sizeLine; decide), ?_⟩
  refine ⟨rfl, cs1, 10, n + 1, rfl, B1, by omega, by decide, by decide, fun r2 cs2 g0 g1 B2 => ?_⟩
  have : r2 = 0 ∨ r2 = 1 ∨ r2 = 2 ∨ r2 = 3 ∨ r2 = 4 ∨ r2 = 5 ∨ r2 = 6 ∨ r2 = 7 ∨ r2 = 8 ∨ r2 = 9 := by omega
  have dl : ∀ xs : List Str, xs.length ≤ 100000 → (xs.map PyData.str).length ≤ 100000 ∧ ∀ d ∈ xs.map PyData.str, dep 0 d := fun xs h => ⟨by rw [List.length_map]; exact h, fun d hd => by obtain ⟨x, _, rfl⟩ := List.mem_map.mp hd; exact True.intro⟩
  rcases this with rfl | rfl | rfl | rfl | rfl | rfl | rfl | rfl | rfl | rfl
  · exact k (.int r) cs2 True.intro B2
  · exact k (.str "page") cs2 True.intro B2
  · exact k (.str "a/b") cs2 True.intro B2
  · exact k (.str "/tag/a/2") cs2 True.intro B2
  · exact k (.tuple [.str "lead", .str "a"]) cs2 (dl ["lead", "a"] (by decide)) B2
  · exact k (.list [.str "page", .str "side"]) cs2 (dl ["page", "side"] (by decide)) B2
  · exact k .none cs2 True.intro B2
  · exact k (.str "") cs2 True.intro B2
  · exact k (.tuple []) cs2 (dl [] (by decide)) B2
  · exact k (.str "ring") cs2 True.intro B2
end
end K1
namespace K1
open PySem L2 TK ZG DL
section
variable {P : Program} {w : World} {K : PySem.W.Frag} {mg : Str → Option Value} {base : Heap} {f : Addr} {fd : FuncData}
def ownsL : List PyData := (List.range 19).map fun j : Nat => .list [.int (j : Nat)]
def spRight : DSp := fun ss Q => ∃ a b : PyData, ss = [.dat a, .dat b] ∧ dep 1 a ∧ dep 1 b ∧ Q (.dat (.bool true)) ss
theorem own_lc {a b : PyData} {ρ : DEnv} {Q' : List PyData → DEnv → Prop} {hs ds : DL.Slot} (e : ρ = [.dat a, .dat b, hs, ds, .dat (.list (exs a b)), .no, .no]) (k : Q' ownsL ρ) : lcL (gdName 5) dYes (dCall spOwn (dCons (dVar 5) dNil)) [5] ρ (exs a b) [] ρ Q' := by
  subst e
  refine lcL_inv (fun L acc ρ => ∃ i : Nat, ρ = [.dat a, .dat b, hs, ds, .dat (.list (exs a b)), .no, .no] ∧ i ≤ 19 ∧ L = (exs a b).drop i ∧ acc = (List.range i).map fun j : Nat => PyData.list [.int (j : Nat)]) ?_ ?_ _ _ _ ⟨0, rfl, by decide, rfl, rfl⟩
  · rintro x L acc ρ ⟨i, rfl, hi, eL, rfl⟩ nxt
    obtain ⟨e1, e2⟩ := drop_cons eL
    have hi : i < 19 := lt_of_get e1
    refine ⟨a, b, x, i, rfl, e1, ?_⟩
    refine ⟨by rw [List.length_map, List.length_range]; exact lt1000 (by omega), nxt _ _ ⟨i + 1, rfl, hi, e2, ?_⟩⟩
    rw [List.range_succ, List.map_append]
    rfl
  · rintro acc ρ ⟨i, rfl, hi, eL, rfl⟩
    have : i = 19 := by
      have := congrArg List.length eL
      rw [List.length_drop] at this
      have : 0 = 19 - i := this
      omega
    subst this
    exact k
theorem over_lc {a b : PyData} {ρ : DEnv} {Q' : List PyData → DEnv → Prop} {hs ds : DL.Slot} (e : ρ = [.dat a, .dat b, hs, ds, .dat (.list (exs a b)), .no, .no]) (k : Q' overs ρ) : lcL (gdName 5) dYes (dCall spOver (dCons (dVar 5) dNil)) [5] ρ (exs a b) [] ρ Q' := by
  subst e
  refine lcL_inv (fun L acc ρ => ∃ i : Nat, ρ = [.dat a, .dat b, hs, ds, .dat (.list (exs a b)), .no, .no] ∧ i ≤ 19 ∧ L = (exs a b).drop i ∧ acc = overs.take i) ?_ ?_ _ _ _ ⟨0, rfl, by decide, rfl, rfl⟩
  · rintro x L acc ρ ⟨i, rfl, hi, eL, rfl⟩ nxt
    obtain ⟨e1, e2⟩ := drop_cons eL
    have hi : i < 19 := lt_of_get e1
    obtain ⟨os, ho⟩ : ∃ os, overs[i]? = some (.list os) := by
      match i, hi with
      | 0, _ => exact ⟨_, rfl⟩
      | 1, _ => exact ⟨_, rfl⟩
      | 2, _ => exact ⟨_, rfl⟩
      | 3, _ => exact ⟨_, rfl⟩
      | 4, _ => exact ⟨_, rfl⟩
      | 5, _ => exact ⟨_, rfl⟩
      | 6, _ => exact ⟨_, rfl⟩
      | 7, _ => exact ⟨_, rfl⟩
      | 8, _ => exact ⟨_, rfl⟩
      | 9, _ => exact ⟨_, rfl⟩
      | 10, _ => exact ⟨_, rfl⟩
      | 11, _ => exact ⟨_, rfl⟩
      | 12, _ => exact ⟨_, rfl⟩
      | 13, _ => exact ⟨_, rfl⟩
      | 14, _ => exact ⟨_, rfl⟩
      | 15, _ => exact ⟨_, rfl⟩
      | 16, _ => exact ⟨_, rfl⟩
      | 17, _ => exact ⟨_, rfl⟩
      | 18, _ => exact ⟨_, rfl⟩
      | n + 19, h => exact absurd h (by omega)
    refine ⟨a, b, x, i, os, rfl, e1, ho, ?_⟩
    refine ⟨by rw [List.length_take]; exact lt1000 (by omega), nxt _ _ ⟨i + 1, rfl, hi, e2, ?_⟩⟩
    rw [List.take_add_one, ho]
    rfl
  · rintro acc ρ ⟨i, rfl, hi, eL, rfl⟩
    have : i = 19 := by
      have := congrArg List.length eL
      rw [List.length_drop] at this
      have : 0 = 19 - i := this
      omega
    subst this
    exact k
end
end K1
namespace K1
open PySem L2 TK ZG DL
section
variable {P : Program} {w : World} {K : PySem.W.Frag} {mg : Str → Option Value} {base : Heap} {f : Addr} {fd : FuncData}
theorem intsD_len (lo : Int) (n : Nat) : (intsD lo n).length = n := by unfold intsD; rw [List.length_map, List.length_range]
theorem intsD_cons' (lo : Int) (n : Nat) : intsD lo (n + 1) = .int lo :: intsD (lo + 1) n := by
  unfold intsD
  rw [List.range_succ_eq_map, List.map_cons, List.map_map]
  congr 1
  · congr 1; omega
  · refine List.map_congr_left fun x _ => ?_
    show PyData.int (lo + ((x + 1 : Nat) : Int)) = .int (lo + 1 + (x : Int))
    congr 1; omega
theorem dep_exs {a b : PyData} (ha : dep 1 a) (hb : dep 1 b) : dep 3 (.list (dueD a b)) := by
  have h2 : ∀ d, dep 1 d → dep 2 d := fun d h => by
    cases d with
    | list ds => exact ⟨h.1, fun d hd => by have := h.2 d hd; cases d <;> first | trivial | exact (this : False).elim⟩
    | tuple ds => exact ⟨h.1, fun d hd => by have := h.2 d hd; cases d <;> first | trivial | exact (this : False).elim⟩
    | dict _ => exact (h : False).elim
    | _ => trivial
  have ht : dep 2 (.tuple [a, b]) := ⟨by show 2 ≤ 100000; decide, fun d hd => by
    rcases List.mem_cons.mp hd with rfl | hd
    · exact ha
    · rw [List.mem_singleton.mp hd]; exact hb⟩
  refine ⟨by show 19 ≤ 100000; decide, fun d hd => ?_⟩
  have : d = a ∨ d = .tuple [a, b] := by
    simp only [dueD, List.mem_cons, List.not_mem_nil, or_false] at hd
    rcases hd with h | h | h | h | h | h | h | h | h | h | h | h | h | h | h | h | h | h | h <;> first | exact .inl h | exact .inr h
  rcases this with rfl | rfl
  · exact h2 _ ha
  · exact ht
theorem ints_lc {a b : PyData} {ρ : DEnv} {Q' : List PyData → DEnv → Prop} {hs ds : DL.Slot} (e : ρ = [.dat a, .dat b, hs, ds, .dat (.list (exs a b)), .no, .no]) (k : Q' ownsL ρ) : lcL (gdName 6) dYes (dLst (dCons (dVar 6) dNil)) [6] ρ (intsD 0 19) [] ρ Q' := by
  subst e
  refine lcL_inv (fun L acc ρ => ∃ i : Nat, ρ = [.dat a, .dat b, hs, ds, .dat (.list (exs a b)), .no, .no] ∧ i + L.length = 19 ∧ L = intsD (i : Nat) L.length ∧ acc = (List.range i).map fun j : Nat => PyData.list [.int (j : Nat)]) ?_ ?_ _ _ _ ⟨0, rfl, by rw [intsD_len], by rw [intsD_len]; rfl, rfl⟩
  · rintro x L acc ρ ⟨i, rfl, hi, eL, rfl⟩ nxt
    rw [List.length_cons] at eL hi
    rw [intsD_cons'] at eL
    injection eL with e1 e2
    subst e1
    refine ⟨(by show 1 ≤ sizeLine; decide), by rw [List.length_map, List.length_range]; exact lt1000 (by omega), nxt _ _ ⟨i + 1, rfl, by omega, e2, ?_⟩⟩
    rw [List.range_succ, List.map_append]
    rfl
  · rintro acc ρ ⟨i, rfl, hi, eL, rfl⟩
    have : i = 19 := by rw [← hi]; rfl
    subst this
    exact k
theorem ws_of2 {α : Type} {o : Option α} {d : α} {k : α → Prop} (e : o = some d) (h : k d) : ws o k := by subst e; exact h
theorem right_body {D : DEnds} {a b : PyData} {ds s5 s6 : DL.Slot} (ha : dep 1 a) (hb : dep 1 b) (hd : ds = .own (dueD a b) ∨ ds = .dat (.list (dueD a b))) (k : D.nx [.dat a, .dat b, .own overs, .dat (.list (dueD a b)), .dat (.list (exs a b)), .no, .no]) : (dSeq (dIfS (dOr (dTest (dOp oNe (dLc (dWalk (dVar 4)) (gdName 5) dYes (dCall spOwn (dCons (dVar 5) dNil)) [5]) (dLc (dRange1 (dCons (dC (.int 19)) dNil)) (gdName 6) dYes (dLst (dCons (dVar 6) dNil)) [6]))) (dTest (dOp oNe (dLc (dWalk (dVar 4)) (gdName 5) dYes (dCall spOver (dCons (dVar 5) dNil)) [5]) (dVar 2)))) (dRet (dC (.bool false))) dNextS) (dIfS (dNot (dTest (dCall (spSame 4) (dCons (dCall spFields (dCons (dVar 4) dNil)) (dCons (dVar 3) dNil))))) (dRet (dC (.bool false))) dNextS)) D [.dat a, .dat b, .own overs, ds, .dat (.list (exs a b)), .no, .no] := by
  refine ⟨rfl, own_lc rfl ?_⟩
  refine ⟨⟨by decide, by decide⟩, rfl, ints_lc rfl ⟨(by decide +kernel), ?_⟩⟩
  rw [(by decide +kernel : PyData.eqv (.list ownsL) (.list ownsL) = true)]
  refine ⟨rfl, over_lc rfl ⟨(by decide +kernel), ?_⟩⟩
  rw [(by decide +kernel : PyData.eqv (.list overs) (.list overs) = true)]
  rcases hd with rfl | rfl
  · exact ⟨a, b, rfl, .list (dueD a b), rfl, dep_exs ha hb, k⟩
  · exact ⟨a, b, rfl, .list (dueD a b), rfl, dep_exs ha hb, k⟩
theorem right_set {D : DEnds} {a b : PyData} (k : (dSeq (dFor (dWalk (dTup (dCons (dCall spMade (dCons (dVar 0) (dCons (dVar 1) dNil))) (dCons (dCall spMade (dCons (dVar 0) (dCons (dVar 1) dNil))) dNil)))) (gdName 4) (dSeq (dIfS (dOr (dTest (dOp oNe (dLc (dWalk (dVar 4)) (gdName 5) dYes (dCall spOwn (dCons (dVar 5) dNil)) [5]) (dLc (dRange1 (dCons (dC (.int 19)) dNil)) (gdName 6) dYes (dLst (dCons (dVar 6) dNil)) [6]))) (dTest (dOp oNe (dLc (dWalk (dVar 4)) (gdName 5) dYes (dCall spOver (dCons (dVar 5) dNil)) [5]) (dVar 2)))) (dRet (dC (.bool false))) dNextS) (dIfS (dNot (dTest (dCall (spSame 4) (dCons (dCall spFields (dCons (dVar 4) dNil)) (dCons (dVar 3) dNil))))) (dRet (dC (.bool false))) dNextS))) (dRet (dC (.bool true)))) D [.dat a, .dat b, .own overs, .own (dueD a b), .no, .no, .no]) : (dSeq (dAsgG (dTup (dCons (dTup (dCons (dVar 0) (dCons (dVar 1) dNil))) (dCons (dTup (dCons (dVar 0) (dCons (dVar 1) dNil))) dNil))) (gdTup 2 (gdCons (gdSub 3 15) (gdCons (gdSub 3 18) gdNil)))) (dSeq (dFor (dWalk (dTup (dCons (dCall spMade (dCons (dVar 0) (dCons (dVar 1) dNil))) (dCons (dCall spMade (dCons (dVar 0) (dCons (dVar 1) dNil))) dNil)))) (gdName 4) (dSeq (dIfS (dOr (dTest (dOp oNe (dLc (dWalk (dVar 4)) (gdName 5) dYes (dCall spOwn (dCons (dVar 5) dNil)) [5]) (dLc (dRange1 (dCons (dC (.int 19)) dNil)) (gdName 6) dYes (dLst (dCons (dVar 6) dNil)) [6]))) (dTest (dOp oNe (dLc (dWalk (dVar 4)) (gdName 5) dYes (dCall spOver (dCons (dVar 5) dNil)) [5]) (dVar 2)))) (dRet (dC (.bool false))) dNextS) (dIfS (dNot (dTest (dCall (spSame 4) (dCons (dCall spFields (dCons (dVar 4) dNil)) (dCons (dVar 3) dNil))))) (dRet (dC (.bool false))) dNextS))) (dRet (dC (.bool true))))) D [.dat a, .dat b, .own overs, .own (List.replicate 19 a), .no, .no, .no] := by
  refine ⟨(by show 2 ≤ sizeLine; decide), (by show 2 ≤ sizeLine; decide), (by show 2 ≤ sizeLine; decide), rfl, ?_⟩
  dsimp only [gdCons, gdSub, gdNil]
  refine ws_of2 (d := List.replicate 19 a) rfl ?_
  refine ws_of2 (d := 15) rfl ?_
  refine ws_of2 (d := (List.replicate 19 a).set 15 (.tuple [a, b])) rfl ?_
  refine ws_of2 (d := 18) rfl ⟨rfl, ?_⟩
  exact k
theorem ok_right {k : Nat} (hk : 4 ≤ k) (F : Fun K "_law_right" "_law_right" s__law_right f fd) (T : Txt mg) (h__law_made : Has P w K mg base "_law_made" k ["_law_a", "_law_b"] (upSp K spMade)) (h__law_called : Has P w K mg base "_law_called" k ["_law_a", "_law_b"] (upSp K spMade)) (h__law_own : Has P w K mg base "_law_own" k ["_law_one"] (upSp K spOwn)) (h__law_over : Has P w K mg base "_law_over" k ["_law_one"] (upSp K spOver)) (h__law_fields : Has P w K mg base "_law_fields" k ["_law_some"] (upSp K spFields)) (h__law_same : Has P w K mg base "_law_same" k ["_law_found", "_law_due"] (upSp K (spSame 4))) : FnOk P w K mg base CX0 1 (k + 1) f fd ["_law_a", "_law_b"] (upSp K spRight) := by
  refine fn_d F sc__law_right (fun ss Q h => ?_) (fun cdv A outer s H E hr => ⟨_, (qss_cons (qs_set (i := 2) sc__law_right.nd rfl (by first | exact Or.inl rfl | exact Or.inr rfl) (q_op (add2K (K := K)) od_add (q_op (add2K (K := K)) od_add (q_op (add2K (K := K)) od_add (q_op op_mul2 od_mul (q_lst (qa_cons (q_lst (qa_cons q_str qa_nil)) qa_nil)) q_int) (q_op op_mul2 od_mul (q_lst (qa_cons (q_lst (qa_cons q_str (qa_cons q_str qa_nil))) qa_nil)) q_int)) (q_op op_mul2 od_mul (q_lst (qa_cons (q_lst (qa_cons q_str qa_nil)) qa_nil)) q_int)) (q_lst (qa_cons (q_lst (qa_cons q_str (qa_cons q_str qa_nil))) qa_nil))))
      (qss_cons (qs_set (i := 2) sc__law_right.nd rfl (by first | exact Or.inl rfl | exact Or.inr rfl) (q_op (add2K (K := K)) od_add (qv 2) (q_lst (qa_cons (q_lst (qa_cons q_str (qa_cons q_str qa_nil))) (qa_cons (q_lst (qa_cons q_str qa_nil)) (qa_cons (q_lst (qa_cons q_str qa_nil)) qa_nil))))))
      (qss_cons (qs_set (i := 3) sc__law_right.nd rfl (by first | exact Or.inl rfl | exact Or.inr rfl) (q_op op_mul2 od_mul (q_lst (qa_cons (qv 0) qa_nil)) q_int))
      (qss_cons (qs_asg (q_tup (qa_cons (q_tup (qa_cons (qv 0) (qa_cons (qv 1) qa_nil))) (qa_cons (q_tup (qa_cons (qv 0) (qa_cons (qv 1) qa_nil))) qa_nil))) (pg_tup rfl (pgs_cons (pg_sub (pe_var (i := 3) rfl (by first | exact Or.inl rfl | exact Or.inr (Or.inl rfl) | exact Or.inr (Or.inr rfl))) pe_int set_list) (pgs_cons (pg_sub (pe_var (i := 3) rfl (by first | exact Or.inl rfl | exact Or.inr (Or.inl rfl) | exact Or.inr (Or.inr rfl))) pe_int set_list) pgs_nil))) (ug_tup (ugs_cons ug_sub (ugs_cons ug_sub ugs_nil))))
      (qss_cons (qs_for PassesOwn.never rfl (qi_walk (q_tup (qa_cons (q_call h__law_made hr rfl (qa_cons (qv 0) (qa_cons (qv 1) qa_nil))) (qa_cons (q_call h__law_called hr rfl (qa_cons (qv 0) (qa_cons (qv 1) qa_nil))) qa_nil)))) (pg_name (i := 4) sc__law_right.nd rfl (by first | exact Or.inl rfl | exact Or.inr rfl)) ug_name
      (qss_cons (qs_if (QW.qt (qw_or (qt_cmp (neK (K := K) hr.units) od_ne (q_lc (own := [("_law_one", 5)]) (t := (gName 5)) ug_name (gl_name (by simp)) gm_name rfl sc__law_right.nd (qi_walk (qv 4)) (blkOk_by (own := [("_law_one", 5)]) (N := N__law_right) (sc := defScope s__law_right) (by first | decide +kernel | rfl)) (fun _ _ _ _ _ => (pg_name (i := 5) sc__law_right.nd rfl (by first | exact Or.inl rfl | exact Or.inr rfl))) (fun _ _ _ _ _ => qts_nil) (fun _ _ _ _ _ => (q_call h__law_own hr rfl (qa_cons (qv 5) qa_nil)))) (q_lc (own := [("_law_k", 6)]) (t := (gName 6)) ug_name (gl_name (by simp)) gm_name rfl sc__law_right.nd (qi_range1 rfl T.range (qa_cons q_int qa_nil)) (blkOk_by (own := [("_law_k", 6)]) (N := N__law_right) (sc := defScope s__law_right) (by first | decide +kernel | rfl)) (fun _ _ _ _ _ => (pg_name (i := 6) sc__law_right.nd rfl (by first | exact Or.inl rfl | exact Or.inr rfl))) (fun _ _ _ _ _ => qts_nil) (fun _ _ _ _ _ => (q_lst (qa_cons (qv 6) qa_nil)))) (nomark _)) (qw_or1 (qt_cmp (neK (K := K) hr.units) od_ne (q_lc (own := [("_law_one", 5)]) (t := (gName 5)) ug_name (gl_name (by simp)) gm_name rfl sc__law_right.nd (qi_walk (qv 4)) (blkOk_by (own := [("_law_one", 5)]) (N := N__law_right) (sc := defScope s__law_right) (by first | decide +kernel | rfl)) (fun _ _ _ _ _ => (pg_name (i := 5) sc__law_right.nd rfl (by first | exact Or.inl rfl | exact Or.inr rfl))) (fun _ _ _ _ _ => qts_nil) (fun _ _ _ _ _ => (q_call h__law_over hr rfl (qa_cons (qv 5) qa_nil)))) (qv 2) (nomark _))))) (qss_one (qs_ret q_bl)) qss_nil)
      (qss_one (qs_if (qt_not (qt_val (q_call h__law_same hr rfl (qa_cons (q_call h__law_fields hr rfl (qa_cons (qv 4) qa_nil)) (qa_cons (qv 3) qa_nil))))) (qss_one (qs_ret q_bl)) qss_nil))))
      (qss_one (qs_ret q_bl))))))), fun ss Q h => ?_⟩)
  · obtain ⟨a, b, rfl, _⟩ := h
    rfl
  obtain ⟨a, b, rfl, ha, hb, q⟩ := h
  -- 0=_law_a 1=_law_b 2=_law_higher 3=_law_due 4=_law_some 5=_law_one 6=_law_k
  have z (n : Nat) (h : n ≤ 1000000) : n ≤ sizeLine := small h
  refine ⟨z 1 (by decide), z 1 (by decide), ⟨by decide, by decide, z 8 (by decide)⟩, z 2 (by decide), z 1 (by decide), ⟨by decide, by decide, z 4 (by decide)⟩, z 12 (by decide), z 1 (by decide), z 1 (by decide), ⟨by decide, by decide, z 3 (by decide)⟩, z 15 (by decide), z 2 (by decide), z 1 (by decide), z 16 (by decide), ?_⟩
  refine ⟨z 2 (by decide), z 1 (by decide), z 1 (by decide), z 3 (by decide), z 19 (by decide), ?_⟩
  refine ⟨z 1 (by decide), ⟨by decide, by decide, z 19 (by decide)⟩, ?_⟩
  refine right_set (a := a) (b := b) (D := endsD [.dat a, .dat b] Q) ?_
  refine ⟨a, b, rfl, a, b, rfl, z 2 (by decide), ?_⟩
  refine forL_inv (fun L ρ => ∃ ds s4 : DL.Slot, ρ = [.dat a, .dat b, .own overs, ds, s4, .no, .no] ∧ (ds = .own (dueD a b) ∨ ds = .dat (.list (dueD a b))) ∧ ∀ d ∈ L, d = .list (exs a b)) ?_ ?_ _ _ ⟨_, _, rfl, .inl rfl, fun d hd => by
    rcases List.mem_cons.mp hd with h | h
    · exact h
    · exact List.mem_singleton.mp h⟩
  · rintro x L ρ ⟨ds, s4, rfl, hd, hL⟩ next
    obtain rfl := hL x (by simp)
    exact right_body (s5 := .no) (s6 := .no) ha hb hd (next _ ⟨_, _, rfl, .inr rfl, fun d h => hL d (by simp [h])⟩)
  · rintro ρ ⟨ds, s4, rfl, hd, hL⟩
    exact q
end
end K1
namespace K1
open PySem L2 TK ZG DL
section
variable {P : Program} {w : World} {K : PySem.W.Frag} {mg : Str → Option Value} {base : Heap} {f : Addr} {fd : FuncData}
theorem same_new {H : Hp} {p : Addr} (h : H p = none) (o : HO) : Same H (upd H p o) := DL.same_new h o
theorem ixN_of {n : Nat} {z : Int} (h0 : 0 ≤ z) (h1 : z < (n : Int)) : ixN n z = some z.toNat := by unfold ixN; rw [if_pos h0, if_pos h1]
theorem cut_ints (ns : List Int) (lo hi : Option Int) : cutV (ns.map V.int) lo hi = ((ns.drop (HT.sIx ns.length 0 lo)).take (HT.sIx ns.length ns.length hi - HT.sIx ns.length 0 lo)).map V.int := by
  unfold cutV
  rw [List.length_map, ← List.map_drop, ← List.map_take]
theorem sIx_int2 (n d : Nat) {v : Int} (h : 0 ≤ v) : HT.sIx n d (some v) = min v.toNat n := by
  show (if v < 0 then _ else _) = _
  rw [if_neg (by omega)]
theorem at_int {ms : List Int} {z : Int} (h0 : 0 ≤ z) (h1 : z < (ms.length : Int)) : ∃ y, atI (ms.map V.int) z = some (.int y) := by
  refine ⟨ms[z.toNat]'(by omega), at_of (j := z.toNat) (by omega) ?_⟩
  rw [List.getElem?_map, List.getElem?_eq_getElem (by omega)] <;> rfl
theorem get_int {zs : List Int} {i : Nat} {x : V} (h : (zs.map V.int)[i]? = some x) : ∃ z, x = V.int z := by
  rw [List.getElem?_map] at h
  cases e : zs[i]? with
  | none => rw [e] at h; cases h
  | some z => rw [e] at h; exact ⟨z, (Option.some.inj h).symm⟩
theorem ok_folded (F : Fun K "_law_folded" "_law_folded" s__law_folded f fd) (T : Txt mg) : FnOk P w K mg base CX0 0 1 f fd ["_law_script", "_law_size"] (spFolded K) := by
  refine F.ok sc__law_folded (fun vs H Q E h => ?_) (fun cdv A outer s H vs Q E hr h => ?_)
  · obtain ⟨a, m, ns, rfl, _⟩ := h
    rfl
  obtain ⟨a, m, ns, rfl, hS, hl, h1, h10, k⟩ := h
  refine ⟨_, (pss_cons (ps_set (i := 2) sc__law_folded.nd rfl (by first | exact Or.inl rfl | exact Or.inr rfl) (pe_callTy (listK (K := K)) rfl T.list bt_list (pa_cons (pe_slice (slK (K := K)) (pv 0) po_none (po_some (pv 1))) pa_nil)))
      (pss_cons (ps_for PassesOwn.never rfl (pi_enum rfl T.enumerate (pa_cons (pe_slice (slK (K := K)) (pv 0) (po_some (pv 1)) (po_some pe_int)) pa_nil)) (pg_tup rfl (pgs_cons (pg_name (i := 3) sc__law_folded.nd rfl (by first | exact Or.inl rfl | exact Or.inr rfl)) (pgs_cons (pg_name (i := 4) sc__law_folded.nd rfl (by first | exact Or.inl rfl | exact Or.inr rfl)) pgs_nil)))
      (pss_one (ps_asg (pe_op (addK (K := K)) (pe_ix (ixK (K := K)) (pv 2) (pe_op op_mod (pv 3) (pv 1)) (fun _ _ => rfl)) (pe_op op_mulA (pv 4) (pe_op (addK (K := K)) (pv 3) pe_int))) (pg_sub (pv 2) (pe_op op_mod (pv 3) (pv 1)) set_list))))
      (pss_one (ps_ret (pv 2))))), ?_⟩
  refine ⟨_, rfl, _, rfl, _, rfl, .inl ⟨a, _, rfl, hS, fun p hp => ⟨p, _, rfl, .inl (SqL.of upd_same), fun l hl' => ?_⟩⟩⟩
  have nl : H l = none := (same_new hp _).free hl'
  have s1 : Same H (upd H p (.lst (cutV (ns.map V.int) none (some m)))) := same_new hp _
  have s2 : Same H (upd (upd H p (.lst (cutV (ns.map V.int) none (some m)))) l (.lst (cutV (ns.map V.int) none (some m)))) := s1.trans (same_new hl' _)
  refine ⟨_, rfl, _, rfl, _, rfl, _, rfl, .inl ⟨a, _, rfl, s2.seq hS, fun q hq => ⟨q, _, rfl, SqL.of upd_same, ?_⟩⟩⟩
  have nq : H q = none := s2.free hq
  have lq : l ≠ q := by
    intro e
    rw [e, upd_same] at hq
    cases hq
  have e1 : cutV (ns.map V.int) none (some m) = (ns.take (min m.toNat ns.length)).map V.int := by
    rw [cut_ints, sIx_int2 _ _ (by omega)]
    rfl
  have e2 : cutV (ns.map V.int) (some m) (some 63) = ((ns.drop (min m.toNat ns.length)).take (min 63 ns.length - min m.toNat ns.length)).map V.int := by
    rw [cut_ints, sIx_int2 _ _ (by omega), sIx_int2 _ _ (by omega)]
    rfl
  generalize hz : (ns.drop (min m.toNat ns.length)).take (min 63 ns.length - min m.toNat ns.length) = zs at e2
  have zl : 0 < zs.length → m.toNat < ns.length := fun h => by
    rw [← hz, List.length_take, List.length_drop] at h
    omega
  have zl2 : zs.length ≤ 63 := by
    rw [← hz, List.length_take]
    omega
  rw [e2]
  refine for_it (J := Ite K q) (n := zs.length) (fun i σ H' => ∃ (ms : List Int) (u v : Option V), σ = [some (.ref a), some (.int m), some (.ref l), u, v] ∧ Same H H' ∧ H' l = some (.lst (ms.map V.int)) ∧ ms.length = min m.toNat ns.length ∧ H' q = some (.lst (zs.map V.int)))
    ⟨ns.take (min m.toNat ns.length), none, none, rfl, s2.trans (same_new hq _), by rw [upd_ne lq, upd_same, e1], by rw [List.length_take]; omega, upd_same⟩ ?_ ?_ ?_ ?_
  · rintro i σ H' hi ⟨ms, u, v, _, _, _, _, hq'⟩
    exact ⟨_, .int zs[i], SqL.of hq', by rw [List.getElem?_map, List.getElem?_eq_getElem hi] <;> rfl⟩
  · rintro σ H' ⟨ms, u, v, _, _, _, _, hq'⟩
    exact ⟨_, SqL.of hq', by rw [List.length_map]; exact Nat.le_refl _⟩
  · rintro i σ H' y H2 hi ⟨ms, u, v, rfl, sm, hl2, ml, hq'⟩ ⟨t, x, rfl, ht, rfl, hx⟩
    obtain ⟨z, rfl⟩ := get_int (hx _ (SqL.of hq'))
    have lt : l ≠ t := (ne_of_none hl2 ht)
    have qt : q ≠ t := (ne_of_none hq' ht)
    have hl3 : ∀ o, upd H' t o l = some (.lst (ms.map V.int)) := fun o => by rw [upd_ne lt]; exact hl2
    have hm := zl (by omega)
    have b0 : 0 ≤ (i : Int) % m := Int.emod_nonneg _ (by omega)
    have b1 : (i : Int) % m < m := Int.emod_lt_of_pos _ (by omega)
    obtain ⟨y, hy⟩ := at_int (ms := ms) b0 (by omega)
    refine ⟨t, _, rfl, SqT.of upd_same, rfl, _, _, rfl, _, _, rfl, rfl, ?_⟩
    refine ⟨_, rfl, _, rfl, _, rfl, _, _, rfl, rfl, (by show (0 : Int) < m; omega), .inl ⟨l, _, _, _, rfl, rfl, SqL.of (hl3 _), hy, _, rfl, _, rfl, .inl ⟨_, _, rfl, rfl, .inl ⟨_, _, rfl, rfl, .inr (by show -(2 ^ 64) < (i : Int) + 2 ∧ (i : Int) + 2 < 2 ^ 64; omega), .inl ⟨_, _, rfl, rfl, _, rfl, _, rfl, _, rfl, _, _, rfl, rfl, (by show (0 : Int) < m; omega), l, _, _, _, rfl, rfl, hl3 _, ixN_of b0 (by rw [List.length_map]; omega), ?_⟩⟩⟩⟩⟩
    refine ⟨ms.set ((i : Int) % m).toNat (y + z * ((i : Int) + 2)), _, _, rfl, fun b o e => ?_, ?_, by rw [List.length_set]; exact ml, ?_⟩
    · rw [upd_ne (ne_of_none e nl), upd_ne (ne_of_none e (sm.free ht))]
      exact sm b o e
    · rw [upd_same, List.map_set]
    · rw [upd_ne (Ne.symm lq), upd_ne qt]
      exact hq'
  · rintro σ H' ⟨ms, u, v, rfl, sm, hl2, ml, hq'⟩
    exact ⟨_, rfl, k l ms H' nl sm hl2 (by omega)⟩
end
end K1
namespace K1
open PySem L2 TK ZG DL
section
variable {P : Program} {w : World} {K : PySem.W.Frag} {mg : Str → Option Value} {base : Heap} {f : Addr} {fd : FuncData}
-- 0=_law_script 1=_law_cells 2=_law_k 3=_law_box 4=_law_turn
theorem law_if {D : DEnds} {cs : List PyData} {s1 s2 : DL.Slot} (B : BoxD cs 0)
    (k : ∀ ρ, (∃ s3, ρ = [.no, s1, s2, s3, .no]) → D.nx ρ) : ((dIfS (dNot (dTest (dCB (bAll fun bs => bs.all id) (dCons (dLc (dRange1 (dCons (dC (.int 6)) dNil)) (gdName 4) dYes (dCall spRight (dCons (dCallM [true] spThing (dCons (dVar 3) dNil)) (dCons (dCallM [true] spThing (dCons (dVar 3) dNil)) dNil))) [4]) dNil)))) (dRet (dC (.bool false))) dNextS) : DS) D [.no, s1, s2, .own cs, .no] := by
  refine ⟨⟨by decide, by decide⟩, rfl, ?_⟩
  refine lcL_inv (fun L acc ρ => ∃ (cs' : List PyData) (i : Nat), ρ = [.no, s1, s2, .own cs', .no] ∧ i + L.length = 6 ∧ BoxD cs' (4 * i) ∧ acc = trues i) ?_ ?_ (intsD 0 (6 : Int).toNat) [] _ ⟨cs, 0, rfl, by rw [intsD_len]; rfl, B, rfl⟩
  · rintro x L acc ρ ⟨cs', i, rfl, hl, B', rfl⟩ nxt
    rw [List.length_cons] at hl
    refine ⟨rfl, cs', 4 * i, rfl, B', by omega, fun d cs2 hd B2 => ⟨rfl, cs2, 4 * i + 2, rfl, B2, by omega, fun d2 cs3 hd2 B3 => ⟨d, d2, rfl, hd, hd2, ?_⟩⟩⟩
    exact ⟨by unfold trues; rw [List.length_replicate]; exact lt1000 (by omega), nxt _ _ ⟨cs3, i + 1, rfl, by omega, B3.mono (by omega), by unfold trues; rw [List.replicate_succ']⟩⟩
  · rintro acc ρ ⟨cs', i, rfl, hl, B', rfl⟩
    show ws (bools (trues i)) _
    rw [bools_true]
    refine ifB_f (b := !((List.replicate i true).all id)) (by rw [all_true]; rfl) ?_
    exact k _ ⟨_, rfl⟩
theorem law_r {ms : List Int} (hl : ms.length ≤ 2) : ((dSeq (dFor (dRange1 (dCons (dOp oAdd (dC (.int 1)) (dCB bLen (dCons (dVar 1) dNil))) dNil)) (gdName 2) (dSeq (dSet 3 (dCall spDip (dCons (dVar 1) (dCons (dVar 2) dNil)))) (dIfS (dNot (dTest (dCB (bAll fun bs => bs.all id) (dCons (dLc (dRange1 (dCons (dC (.int 6)) dNil)) (gdName 4) dYes (dCall spRight (dCons (dCallM [true] spThing (dCons (dVar 3) dNil)) (dCons (dCallM [true] spThing (dCons (dVar 3) dNil)) dNil))) [4]) dNil)))) (dRet (dC (.bool false))) dNextS))) (dRet (dC (.bool true)))) : DS) lawEnds [.no, .own (ms.map PyData.int), .no, .no, .no] := by
  have lm : (ms.map PyData.int).length = ms.length := List.length_map ..
  refine ⟨⟨by show -(2 ^ 62) ≤ 1 + (((ms.map PyData.int).length : Nat) : Int); omega, by show 1 + (((ms.map PyData.int).length : Nat) : Int) < 2 ^ 62; omega⟩, ?_⟩
  refine forL_inv (fun L ρ => ∃ (s1 s2 s3 : DL.Slot) (i : Nat), ρ = [.no, s1, s2, s3, .no] ∧ (s1 = .own (ms.map PyData.int) ∨ s1 = .dat (.list (ms.map PyData.int))) ∧ L = intsD (i : Nat) L.length ∧ i + L.length ≤ 4) ?_ ?_ _ _ ⟨_, _, _, 0, rfl, .inl rfl, by rw [intsD_len]; rfl, by rw [intsD_len]; show 0 + (1 + (((ms.map PyData.int).length : Nat) : Int)).toNat ≤ 4; omega⟩
  · rintro x L ρ ⟨s1, s2, s3, i, rfl, hs, eL, hi⟩ next
    rw [List.length_cons] at eL hi
    rw [intsD_cons] at eL
    injection eL with e1 e2
    subst e1
    have e2 : L = intsD ((i + 1 : Nat) : Int) L.length := e2
    rcases hs with rfl | rfl
    · exact ⟨ms, i, rfl, by omega, by omega, fun cs B => law_if B fun ρ ⟨s3, e⟩ => by subst e; exact next _ ⟨_, _, _, i + 1, rfl, .inr rfl, e2, by omega⟩⟩
    · exact ⟨ms, i, rfl, by omega, by omega, fun cs B => law_if B fun ρ ⟨s3, e⟩ => by subst e; exact next _ ⟨_, _, _, i + 1, rfl, .inr rfl, e2, by omega⟩⟩
  · rintro ρ ⟨s1, s2, s3, i, rfl, hs, eL, hi⟩
    exact rfl
theorem ok_law {k : Nat} (hk : 1 ≤ k) {fF : Addr} {fdF : FuncData} (F : Fun K "law" "law" s_law f fd) (T : Txt mg) (G : FnOk P w K mg base CX0 0 1 fF fdF ["_law_script", "_law_size"] (spFolded K)) (hm : mg "_law_folded" = some (.ref fF)) (hkp : PySem.W.keepIn K (.ref fF) = true) (hb : Binds K fdF ["_law_script", "_law_size"] [])
    (h__law_dip : Has P w K mg base "_law_dip" k ["_law_script", "_law_k"] (upSp K spDip)) (h__law_thing : Has P w K mg base "_law_thing" k ["_law_box"] (upSp K spThing)) (h__law_right : Has P w K mg base "_law_right" k ["_law_a", "_law_b"] (upSp K spRight)) : FnOk P w K mg base CX0 0 (k + 1) f fd ["_law_script"] (spLaw K) := by
  refine law_d (c := 2) F sc_law rfl rfl G hk hm hkp hb (by decide) (by decide) (fun cdv A outer s H E => rfl) (fun cdv A outer s H E => by first | exact Or.inl rfl | exact Or.inr rfl) (fun cdv A outer s H E => ?_) (fun cdv A outer s H E => rfl) (fun cdv A outer s H E => by first | exact .inl rfl | exact .inr rfl) (fun cdv A outer s H E hr => ⟨_, (qss_cons (qs_for PassesOwn.never rfl (qi_range1 rfl T.range (qa_cons (q_op (add2K (K := K)) od_add q_int (q_bi (lenK (K := K)) cd_len rfl T.len bt_len (qa_cons (qv 1) qa_nil))) qa_nil)) (pg_name (i := 2) sc_law.nd rfl (by first | exact Or.inl rfl | exact Or.inr rfl)) ug_name
      (qss_cons (qs_set (i := 3) sc_law.nd rfl (by first | exact Or.inl rfl | exact Or.inr rfl) (q_call h__law_dip hr rfl (qa_cons (qv 1) (qa_cons (qv 2) qa_nil))))
      (qss_one (qs_if (qt_not (qt_val (q_bi (allK (K := K) rfl) cd_all rfl T.all bt_all (qa_cons (q_lc (own := [("_law_turn", 4)]) (t := (gName 4)) ug_name (gl_name (by simp)) gm_name rfl sc_law.nd (qi_range1 rfl T.range (qa_cons q_int qa_nil)) (blkOk_by (own := [("_law_turn", 4)]) (N := N_law) (sc := defScope s_law) (by first | decide +kernel | rfl)) (fun _ _ _ _ _ => (pg_name (i := 4) sc_law.nd rfl (by first | exact Or.inl rfl | exact Or.inr rfl))) (fun _ _ _ _ _ => qts_nil) (fun _ _ _ _ _ => (q_call h__law_right hr rfl (qa_cons (q_callM [true] h__law_thing hr rfl (qa_cons (qv 3) qa_nil)) (qa_cons (q_callM [true] h__law_thing hr rfl (qa_cons (qv 3) qa_nil)) qa_nil))))) qa_nil)))) (qss_one (qs_ret q_bl)) qss_nil))))
      (qss_one (qs_ret q_bl))), fun ms hl => ?_⟩)
  · exact pe_var rfl (by first | exact Or.inl rfl | exact Or.inr (Or.inl rfl) | exact Or.inr (Or.inr rfl)) (by decide) (by decide)
  exact law_r hl
end
end K1
namespace K1
open PySem L2 TK ZG DL
section
variable {P : Program} {w : World} {K : PySem.W.Frag} {mg : Str → Option Value} {base : Heap} {f : Addr} {fd : FuncData}
open PySem.W
abbrev bm_ValueError : List Value := [.type "ValueError", .type "Exception", .type "BaseException", .type "object"]
theorem xb_ValueError : XB bm_ValueError "ValueError" := ⟨by decide +kernel, by decide +kernel, by decide +kernel, fun a => rfl, by decide +kernel, by decide +kernel, by decide +kernel⟩
theorem sf_ValueError : StoreFacts "ValueError" bm_ValueError "object.__setattr__" "object" where
  mro := by rw [mroOf_type]; kernel_rfl
  slot := .of (owner := "object") (n := "__setattr__") (by rw [typeLookup_type, builtinLookup_eq_fast]; kernel_rfl) (by decide +kernel) (by decide +kernel) (by decide +kernel)
    (by first | exact .inl (by decide +kernel) | exact .inr (by decide +kernel)) (by rw [isSubtype_type]; kernel_rfl)
  entry := PySem.F.entry_object_sa
  kind := by decide +kernel
  split := by decide +kernel
  hasOwner := by decide +kernel
  args := fun a b c => by unfold argsOk; kernel_rfl
  passes := fun self => by kernel_rfl
abbrev bm_KeyError : List Value := [.type "KeyError", .type "LookupError", .type "Exception", .type "BaseException", .type "object"]
theorem xb_KeyError : XB bm_KeyError "LookupError" := ⟨by decide +kernel, by decide +kernel, by decide +kernel, fun a => rfl, by decide +kernel, by decide +kernel, by decide +kernel⟩
theorem sf_KeyError : StoreFacts "KeyError" bm_KeyError "object.__setattr__" "object" where
  mro := by rw [mroOf_type]; kernel_rfl
  slot := .of (owner := "object") (n := "__setattr__") (by rw [typeLookup_type, builtinLookup_eq_fast]; kernel_rfl) (by decide +kernel) (by decide +kernel) (by decide +kernel)
    (by first | exact .inl (by decide +kernel) | exact .inr (by decide +kernel)) (by rw [isSubtype_type]; kernel_rfl)
  entry := PySem.F.entry_object_sa
  kind := by decide +kernel
  split := by decide +kernel
  hasOwner := by decide +kernel
  args := fun a b c => by unfold argsOk; kernel_rfl
  passes := fun self => by kernel_rfl
abbrev bm_LookupError : List Value := [.type "LookupError", .type "Exception", .type "BaseException", .type "object"]
theorem xb_LookupError : XB bm_LookupError "LookupError" := ⟨by decide +kernel, by decide +kernel, by decide +kernel, fun a => rfl, by decide +kernel, by decide +kernel, by decide +kernel⟩
theorem sf_LookupError : StoreFacts "LookupError" bm_LookupError "object.__setattr__" "object" where
  mro := by rw [mroOf_type]; kernel_rfl
  slot := .of (owner := "object") (n := "__setattr__") (by rw [typeLookup_type, builtinLookup_eq_fast]; kernel_rfl) (by decide +kernel) (by decide +kernel) (by decide +kernel)
    (by first | exact .inl (by decide +kernel) | exact .inr (by decide +kernel)) (by rw [isSubtype_type]; kernel_rfl)
  entry := PySem.F.entry_object_sa
  kind := by decide +kernel
  split := by decide +kernel
  hasOwner := by decide +kernel
  args := fun a b c => by unfold argsOk; kernel_rfl
  passes := fun self => by kernel_rfl
abbrev bm_IndexError : List Value := [.type "IndexError", .type "LookupError", .type "Exception", .type "BaseException", .type "object"]
theorem xb_IndexError : XB bm_IndexError "IndexError" := ⟨by decide +kernel, by decide +kernel, by decide +kernel, fun a => rfl, by decide +kernel, by decide +kernel, by decide +kernel⟩
theorem sf_IndexError : StoreFacts "IndexError" bm_IndexError "object.__setattr__" "object" where
  mro := by rw [mroOf_type]; kernel_rfl
  slot := .of (owner := "object") (n := "__setattr__") (by rw [typeLookup_type, builtinLookup_eq_fast]; kernel_rfl) (by decide +kernel) (by decide +kernel) (by decide +kernel)
    (by first | exact .inl (by decide +kernel) | exact .inr (by decide +kernel)) (by rw [isSubtype_type]; kernel_rfl)
  entry := PySem.F.entry_object_sa
  kind := by decide +kernel
  split := by decide +kernel
  hasOwner := by decide +kernel
  args := fun a b c => by unfold argsOk; kernel_rfl
  passes := fun self => by kernel_rfl
abbrev bm_RuntimeError : List Value := [.type "RuntimeError", .type "Exception", .type "BaseException", .type "object"]
theorem xb_RuntimeError : XB bm_RuntimeError "RuntimeError" := ⟨by decide +kernel, by decide +kernel, by decide +kernel, fun a => rfl, by decide +kernel, by decide +kernel, by decide +kernel⟩
theorem sf_RuntimeError : StoreFacts "RuntimeError" bm_RuntimeError "object.__setattr__" "object" where
  mro := by rw [mroOf_type]; kernel_rfl
  slot := .of (owner := "object") (n := "__setattr__") (by rw [typeLookup_type, builtinLookup_eq_fast]; kernel_rfl) (by decide +kernel) (by decide +kernel) (by decide +kernel)
    (by first | exact .inl (by decide +kernel) | exact .inr (by decide +kernel)) (by rw [isSubtype_type]; kernel_rfl)
  entry := PySem.F.entry_object_sa
  kind := by decide +kernel
  split := by decide +kernel
  hasOwner := by decide +kernel
  args := fun a b c => by unfold argsOk; kernel_rfl
  passes := fun self => by kernel_rfl
abbrev bm_OverflowError : List Value := [.type "OverflowError", .type "ArithmeticError", .type "Exception", .type "BaseException", .type "object"]
theorem xb_OverflowError : XB bm_OverflowError "OverflowError" := ⟨by decide +kernel, by decide +kernel, by decide +kernel, fun a => rfl, by decide +kernel, by decide +kernel, by decide +kernel⟩
theorem sf_OverflowError : StoreFacts "OverflowError" bm_OverflowError "object.__setattr__" "object" where
  mro := by rw [mroOf_type]; kernel_rfl
  slot := .of (owner := "object") (n := "__setattr__") (by rw [typeLookup_type, builtinLookup_eq_fast]; kernel_rfl) (by decide +kernel) (by decide +kernel) (by decide +kernel)
    (by first | exact .inl (by decide +kernel) | exact .inr (by decide +kernel)) (by rw [isSubtype_type]; kernel_rfl)
  entry := PySem.F.entry_object_sa
  kind := by decide +kernel
  split := by decide +kernel
  hasOwner := by decide +kernel
  args := fun a b c => by unfold argsOk; kernel_rfl
  passes := fun self => by kernel_rfl
theorem ca_IndexError00 (C : Addr) (u v : Value) : Bind.checkArgs "IndexError.__new__" (XC.bexRow "IndexError") ⟨[.ref C, u, v], []⟩ = pure () := by kernel_rfl
theorem ca_LookupError0 (C : Addr) (u : Value) : Bind.checkArgs "LookupError.__new__" (XC.bexRow "LookupError") ⟨[.ref C, u], []⟩ = pure () := by kernel_rfl
theorem ca_OverflowError0 (C : Addr) (u : Value) : Bind.checkArgs "OverflowError.__new__" (XC.bexRow "OverflowError") ⟨[.ref C, u], []⟩ = pure () := by kernel_rfl
theorem ca_RuntimeError0 (C : Addr) (u : Value) : Bind.checkArgs "RuntimeError.__new__" (XC.bexRow "RuntimeError") ⟨[.ref C, u], []⟩ = pure () := by kernel_rfl
theorem ca_RuntimeError00 (C : Addr) (u v : Value) : Bind.checkArgs "RuntimeError.__new__" (XC.bexRow "RuntimeError") ⟨[.ref C, u, v], []⟩ = pure () := by kernel_rfl
theorem ca_ValueError0 (C : Addr) (u : Value) : Bind.checkArgs "ValueError.__new__" (XC.bexRow "ValueError") ⟨[.ref C, u], []⟩ = pure () := by kernel_rfl
theorem ck_BadSource (C : Addr) (u : Value) : Bind.checkArgs "ValueError.__new__" (XC.bexRow "ValueError") ⟨[.ref C], [("part", u)]⟩ = pure () := by kernel_rfl
theorem ck_BadRow (C : Addr) (u : Value) : Bind.checkArgs "ValueError.__new__" (XC.bexRow "ValueError") ⟨[.ref C], [("row", u)]⟩ = pure () := by kernel_rfl
theorem ck_BadText (C : Addr) (u : Value) : Bind.checkArgs "ValueError.__new__" (XC.bexRow "ValueError") ⟨[.ref C], [("at", u)]⟩ = pure () := by kernel_rfl
theorem ck_BadPath (C : Addr) (u : Value) : Bind.checkArgs "ValueError.__new__" (XC.bexRow "ValueError") ⟨[.ref C], [("path", u)]⟩ = pure () := by kernel_rfl
theorem ck_BadName (C : Addr) (u : Value) : Bind.checkArgs "ValueError.__new__" (XC.bexRow "ValueError") ⟨[.ref C], [("name", u)]⟩ = pure () := by kernel_rfl
theorem ck_BadTemplate (C : Addr) (u : Value) : Bind.checkArgs "ValueError.__new__" (XC.bexRow "ValueError") ⟨[.ref C], [("name", u)]⟩ = pure () := by kernel_rfl
theorem ck_BadNumber (C : Addr) (u : Value) : Bind.checkArgs "ValueError.__new__" (XC.bexRow "ValueError") ⟨[.ref C], [("number", u)]⟩ = pure () := by kernel_rfl
theorem ck_BadDeed (C : Addr) (u : Value) : Bind.checkArgs "ValueError.__new__" (XC.bexRow "ValueError") ⟨[.ref C], [("number", u)]⟩ = pure () := by kernel_rfl
theorem ck_NoLead (C : Addr) (u : Value) : Bind.checkArgs "LookupError.__new__" (XC.bexRow "LookupError") ⟨[.ref C], [("path", u)]⟩ = pure () := by kernel_rfl
theorem ck_NoName (C : Addr) (u : Value) : Bind.checkArgs "LookupError.__new__" (XC.bexRow "LookupError") ⟨[.ref C], [("name", u)]⟩ = pure () := by kernel_rfl
theorem ck_NoRead (C : Addr) (u : Value) : Bind.checkArgs "LookupError.__new__" (XC.bexRow "LookupError") ⟨[.ref C], [("key", u)]⟩ = pure () := by kernel_rfl
theorem ck_BadKey (C : Addr) (u : Value) : Bind.checkArgs "LookupError.__new__" (XC.bexRow "LookupError") ⟨[.ref C], [("key", u)]⟩ = pure () := by kernel_rfl
theorem ck_NoPath (C : Addr) (u : Value) : Bind.checkArgs "LookupError.__new__" (XC.bexRow "LookupError") ⟨[.ref C], [("path", u)]⟩ = pure () := by kernel_rfl
theorem ck_NoPage (C : Addr) (u : Value) : Bind.checkArgs "LookupError.__new__" (XC.bexRow "LookupError") ⟨[.ref C], [("path", u)]⟩ = pure () := by kernel_rfl
theorem ck_NoAddress (C : Addr) (u : Value) : Bind.checkArgs "LookupError.__new__" (XC.bexRow "LookupError") ⟨[.ref C], [("address", u)]⟩ = pure () := by kernel_rfl
theorem ck_NoPart (C : Addr) (u v : Value) : Bind.checkArgs "IndexError.__new__" (XC.bexRow "IndexError") ⟨[.ref C], [("number", u), ("tag", v)]⟩ = pure () := by kernel_rfl
theorem ck_TooMany (C : Addr) (u : Value) : Bind.checkArgs "OverflowError.__new__" (XC.bexRow "OverflowError") ⟨[.ref C], [("many", u)]⟩ = pure () := by kernel_rfl
theorem ck_Taken (C : Addr) (u : Value) : Bind.checkArgs "RuntimeError.__new__" (XC.bexRow "RuntimeError") ⟨[.ref C], [("path", u)]⟩ = pure () := by kernel_rfl
theorem ck_Fault (C : Addr) (u v : Value) : Bind.checkArgs "RuntimeError.__new__" (XC.bexRow "RuntimeError") ⟨[.ref C], [("what", u), ("word", v)]⟩ = pure () := by kernel_rfl
theorem paired_get {α β : Type} {R : α → β → Prop} : ∀ {xs : List α} {ys : List β} {i : Nat} {x : α}, Paired R xs ys → xs[i]? = some x → ∃ y, ys[i]? = some y ∧ R x y
  | _, _, _, _, .nil, e => by simp at e
  | _, _, 0, x, .cons r _, e => by simp at e; subst e; exact ⟨_, rfl, r⟩
  | _, _, i + 1, x, .cons _ t, e => by
    obtain ⟨u, h1, h2⟩ := paired_get (i := i) (x := x) t (by simpa using e)
    exact ⟨u, by simpa using h1, h2⟩
structure CInfo (K : PySem.W.Frag) (c : Str) (q : Addr × List Value) : Prop where
  nm : nsIn K mainGlobals c = some (some (.ref q.1))
  cl : ∃ oc od cd sl, K.lookup q.1 = some ⟨oc, od, .cls cd, sl⟩ ∧ cd.mro = .ref q.1 :: q.2
  ty : typeIn K (.ref q.1) = some (.type "type")
  nr : ∀ a : Addr, q.2.contains (.ref a) = false
theorem isx_own {ns : List Str} {qs : List (Addr × List Value)} (h : Paired (CInfo K) ns qs) (nd : (qs.map (·.1)).Nodup) (nn : ns.Nodup) {t : Nat} {T : Str} {CT : Addr} {bT : List Value} (e1 : ns[t]? = some T) (e2 : qs[t]? = some (CT, bT)) : IsX K ns (.ref CT) [T] := by
  intro c hc C hC
  obtain ⟨i, hi⟩ := List.mem_iff_getElem?.mp hc
  obtain ⟨q, hq, I⟩ := paired_get h hi
  obtain ⟨qT, hqT, IT⟩ := paired_get h e1
  rw [e2] at hqT
  cases hqT
  rw [I.nm] at hC
  cases hC
  obtain ⟨oc, od, cd, sl, l, m⟩ := I.cl
  obtain ⟨oc', od', cd', sl', l', m'⟩ := IT.cl
  rw [kit_own l m I.nr l' IT.ty]
  by_cases z : i = t
  · subst z
    rw [e1] at hi; cases hi
    rw [e2] at hq; cases hq
    simp
  · have n1 : c ≠ T := fun q' => z (nodup_ix nn hi (q' ▸ e1))
    have f1 : (qs.map (·.1))[i]? = some q.1 := by rw [List.getElem?_map, hq]; rfl
    have f2 : (qs.map (·.1))[t]? = some CT := by rw [List.getElem?_map, e2]; rfl
    have n2 : q.1 ≠ CT := fun q' => by
      obtain ⟨h1, g1⟩ := List.getElem?_eq_some_iff.mp f1
      obtain ⟨h2, g2⟩ := List.getElem?_eq_some_iff.mp f2
      exact z ((List.getElem_inj nd).mp (g1.trans (q'.trans g2.symm)))
    rw [decide_eq_false n2]
    simp [n1]
theorem isx_ty {ns : List Str} {qs : List (Addr × List Value)} (h : Paired (CInfo K) ns qs) {T : String} {L : List Str} (km : kitMeta T = true) (hL : ∀ (i : Nat) c q, ns[i]? = some c → qs[i]? = some q → q.2.contains (.type T) = L.contains c) : IsX K ns (.type T) L := by
  intro c hc C hC
  obtain ⟨i, hi⟩ := List.mem_iff_getElem?.mp hc
  obtain ⟨q, hq, I⟩ := paired_get h hi
  rw [I.nm] at hC
  cases hC
  obtain ⟨oc, od, cd, sl, l, m⟩ := I.cl
  rw [kit_ty l m km, hL i c q hi hq]
def bmsL : List (List Value) := [bm_ValueError, bm_ValueError, bm_ValueError, bm_ValueError, bm_ValueError, bm_ValueError, bm_ValueError, bm_ValueError, bm_KeyError, bm_KeyError, bm_KeyError, bm_KeyError, bm_LookupError, bm_LookupError, bm_LookupError, bm_IndexError, bm_OverflowError, bm_RuntimeError, bm_RuntimeError]
theorem hL_of {T : String} {L : List Str} {qs : List (Addr × List Value)} (hb : qs.map (·.2) = bmsL) (hd : (xsN.zip bmsL).all (fun p => p.2.contains (.type T) == L.contains p.1) = true) : ∀ (i : Nat) c q, xsN[i]? = some c → qs[i]? = some q → q.2.contains (.type T) = L.contains c := by
  intro i c q h1 h2
  have h3 : bmsL[i]? = some q.2 := by rw [← hb, List.getElem?_map, h2]; rfl
  have hm : (c, q.2) ∈ xsN.zip bmsL := List.mem_iff_getElem?.mpr ⟨i, by rw [List.getElem?_zip_eq_some]; exact ⟨h1, h3⟩⟩
  exact beq_iff_eq.mp (List.all_eq_true.mp hd _ hm)
theorem xs_nodup : xsN.Nodup := by decide +kernel
theorem km_ValueError : kitMeta "ValueError" = true := by decide +kernel
theorem up_ok_ValueError : (xsN.zip bmsL).all (fun p => p.2.contains (.type "ValueError") == up_ValueError.contains p.1) = true := by decide +kernel
theorem km_KeyError : kitMeta "KeyError" = true := by decide +kernel
theorem up_ok_KeyError : (xsN.zip bmsL).all (fun p => p.2.contains (.type "KeyError") == up_KeyError.contains p.1) = true := by decide +kernel
theorem km_LookupError : kitMeta "LookupError" = true := by decide +kernel
theorem up_ok_LookupError : (xsN.zip bmsL).all (fun p => p.2.contains (.type "LookupError") == up_LookupError.contains p.1) = true := by decide +kernel
theorem km_IndexError : kitMeta "IndexError" = true := by decide +kernel
theorem up_ok_IndexError : (xsN.zip bmsL).all (fun p => p.2.contains (.type "IndexError") == up_IndexError.contains p.1) = true := by decide +kernel
theorem km_RuntimeError : kitMeta "RuntimeError" = true := by decide +kernel
theorem up_ok_RuntimeError : (xsN.zip bmsL).all (fun p => p.2.contains (.type "RuntimeError") == up_RuntimeError.contains p.1) = true := by decide +kernel
theorem km_ArithmeticError : kitMeta "ArithmeticError" = true := by decide +kernel
theorem up_ok_ArithmeticError : (xsN.zip bmsL).all (fun p => p.2.contains (.type "ArithmeticError") == up_ArithmeticError.contains p.1) = true := by decide +kernel
theorem km_OverflowError : kitMeta "OverflowError" = true := by decide +kernel
theorem up_ok_OverflowError : (xsN.zip bmsL).all (fun p => p.2.contains (.type "OverflowError") == up_OverflowError.contains p.1) = true := by decide +kernel
end
end K1
namespace K1
open PySem L2 TK ZG DL
section
variable {P : Program} {w : World} {K : PySem.W.Frag} {mg : Str → Option Value} {base : Heap} {f : Addr} {fd : FuncData}
theorem has_mk {x qual : Str} {st : Stmt} {k : Nat} {ps : List Str} {sp : Sp} (F : Fun K x qual st f fd) (G : FnOk P w K mg base CX0 1 k f fd ps sp) (m : mg x = some (.ref f)) (b : Binds K fd ps []) (kb : ∀ (kw : Str), ps = [kw] → KBinds K fd ps [kw] (fun us ws => us ++ ws) (fun vs zs => vs ++ zs)) : Has P w K mg base x k ps sp := ⟨f, fd, G, m, F.kp, b, kb⟩
theorem kb_no {a b : Str} {ps : List Str} : ∀ (kw : Str), a :: b :: ps = [kw] → KBinds K fd (a :: b :: ps) [kw] (fun us ws => us ++ ws) (fun vs zs => vs ++ zs) := fun kw e => by cases e
theorem kb_one {x qual kw : Str} {st : Stmt} (F : Fun K x qual st f fd) (b : Binds K fd [kw] []) (h : ∀ (kV doc pm : Value) (an : Option Addr) (cdv ct v : Value), bindArgs (PySem.W.fnOf x qual (defArgs st) (defBody st) (defScope st) .none kV doc pm an cdv ct) ⟨[], [(kw, v)]⟩ = pure [(kw, v)]) :
    ∀ (k' : Str), [kw] = [k'] → KBinds K fd [kw] [k'] (fun us ws => us ++ ws) (fun vs zs => vs ++ zs) := by
  intro k' e
  cases e
  refine ⟨fun s us ws hk hl => ?_, fun r r' => r.append r'⟩
  obtain ⟨oc, od, kV, doc, pm, an, cdv, ct, osl, rfl, lk, hcd⟩ := F.ex
  match us, ws, hl with
  | [v], [], _ => exact b s [v] hk rfl
  | [], [v], _ => exact .of_eq (h kV doc pm an cdv ct v)
theorem none_d {k : Nat} {ps : List Str} {sp : DSp} (h : ∀ ss Q, ¬ sp ss Q) : FnOk P w K mg base CX0 1 k f fd ps (upSp K sp) := ⟨fun _ _ _ _ ⟨_, _, _, _, q, _⟩ => (h _ _ q).elim, fun _ _ _ _ _ _ _ _ _ _ _ _ _ _ ⟨_, _, _, _, q, _⟩ => (h _ _ q).elim⟩
end
theorem all_mk {l : PySem.W.OpenLaw} {w : World} {K : PySem.W.Frag} {h : Heap} {mg : Str → Option Value} {fa f0 f1 f2 f3 f4 f5 f6 f7 f8 f9 f10 f11 : Addr} (X : K.In h) (G : h.Ns mainGlobals mg) (hfa : mg "law" = some (.ref fa))
    {od0 od1 od2 od3 od4 od5 od6 od7 od8 od9 od10 od11 an0 an1 an2 an3 an4 an5 an6 an7 an8 an9 an10 an11 : Option Addr} {sl0 sl1 sl2 sl3 sl4 sl5 sl6 sl7 sl8 sl9 sl10 sl11 : Array (Option Value)} {oc0 oc1 oc2 oc3 oc4 oc5 oc6 oc7 oc8 oc9 oc10 oc11 kV0 kV1 kV2 kV3 kV4 kV5 kV6 kV7 kV8 kV9 kV10 kV11 dc0 dc1 dc2 dc3 dc4 dc5 dc6 dc7 dc8 dc9 dc10 dc11 pm0 pm1 pm2 pm3 pm4 pm5 pm6 pm7 pm8 pm9 pm10 pm11 cd0 cd1 cd2 cd3 cd4 cd5 cd6 cd7 cd8 cd9 cd10 cd11 ct0 ct1 ct2 ct3 ct4 ct5 ct6 ct7 ct8 ct9 ct10 ct11  : Value}
    (a0 : PySem.W.nsIn K mainGlobals "_law_dip" = some (some (.ref f0))) (l0 : K.lookup f0 = some ⟨oc0, od0, .func (PySem.W.fnOf "_law_dip" "_law_dip" (defArgs s__law_dip) (defBody s__law_dip) (defScope s__law_dip) .none kV0 dc0 pm0 an0 cd0 ct0), sl0⟩) (c0 : PySem.W.codeIn K cd0 "_law_dip" = true) (k0 : PySem.W.keepIn K (.ref f0) = true)
    (a1 : PySem.W.nsIn K mainGlobals "_law_take" = some (some (.ref f1))) (l1 : K.lookup f1 = some ⟨oc1, od1, .func (PySem.W.fnOf "_law_take" "_law_take" (defArgs s__law_take) (defBody s__law_take) (defScope s__law_take) .none kV1 dc1 pm1 an1 cd1 ct1), sl1⟩) (c1 : PySem.W.codeIn K cd1 "_law_take" = true) (k1 : PySem.W.keepIn K (.ref f1) = true)
    (a2 : PySem.W.nsIn K mainGlobals "_law_folded" = some (some (.ref f2))) (l2 : K.lookup f2 = some ⟨oc2, od2, .func (PySem.W.fnOf "_law_folded" "_law_folded" (defArgs s__law_folded) (defBody s__law_folded) (defScope s__law_folded) .none kV2 dc2 pm2 an2 cd2 ct2), sl2⟩) (c2 : PySem.W.codeIn K cd2 "_law_folded" = true) (k2 : PySem.W.keepIn K (.ref f2) = true)
    (a3 : PySem.W.nsIn K mainGlobals "_law_same" = some (some (.ref f3))) (l3 : K.lookup f3 = some ⟨oc3, od3, .func (PySem.W.fnOf "_law_same" "_law_same" (defArgs s__law_same) (defBody s__law_same) (defScope s__law_same) .none kV3 dc3 pm3 an3 cd3 ct3), sl3⟩) (c3 : PySem.W.codeIn K cd3 "_law_same" = true) (k3 : PySem.W.keepIn K (.ref f3) = true)
    (a4 : PySem.W.nsIn K mainGlobals "_law_own" = some (some (.ref f4))) (l4 : K.lookup f4 = some ⟨oc4, od4, .func (PySem.W.fnOf "_law_own" "_law_own" (defArgs s__law_own) (defBody s__law_own) (defScope s__law_own) .none kV4 dc4 pm4 an4 cd4 ct4), sl4⟩) (c4 : PySem.W.codeIn K cd4 "_law_own" = true) (k4 : PySem.W.keepIn K (.ref f4) = true)
    (a5 : PySem.W.nsIn K mainGlobals "_law_over" = some (some (.ref f5))) (l5 : K.lookup f5 = some ⟨oc5, od5, .func (PySem.W.fnOf "_law_over" "_law_over" (defArgs s__law_over) (defBody s__law_over) (defScope s__law_over) .none kV5 dc5 pm5 an5 cd5 ct5), sl5⟩) (c5 : PySem.W.codeIn K cd5 "_law_over" = true) (k5 : PySem.W.keepIn K (.ref f5) = true)
    (a6 : PySem.W.nsIn K mainGlobals "_law_made" = some (some (.ref f6))) (l6 : K.lookup f6 = some ⟨oc6, od6, .func (PySem.W.fnOf "_law_made" "_law_made" (defArgs s__law_made) (defBody s__law_made) (defScope s__law_made) .none kV6 dc6 pm6 an6 cd6 ct6), sl6⟩) (c6 : PySem.W.codeIn K cd6 "_law_made" = true) (k6 : PySem.W.keepIn K (.ref f6) = true)
    (a7 : PySem.W.nsIn K mainGlobals "_law_called" = some (some (.ref f7))) (l7 : K.lookup f7 = some ⟨oc7, od7, .func (PySem.W.fnOf "_law_called" "_law_called" (defArgs s__law_called) (defBody s__law_called) (defScope s__law_called) .none kV7 dc7 pm7 an7 cd7 ct7), sl7⟩) (c7 : PySem.W.codeIn K cd7 "_law_called" = true) (k7 : PySem.W.keepIn K (.ref f7) = true)
    (a8 : PySem.W.nsIn K mainGlobals "_law_fields" = some (some (.ref f8))) (l8 : K.lookup f8 = some ⟨oc8, od8, .func (PySem.W.fnOf "_law_fields" "_law_fields" (defArgs s__law_fields) (defBody s__law_fields) (defScope s__law_fields) .none kV8 dc8 pm8 an8 cd8 ct8), sl8⟩) (c8 : PySem.W.codeIn K cd8 "_law_fields" = true) (k8 : PySem.W.keepIn K (.ref f8) = true)
    (a9 : PySem.W.nsIn K mainGlobals "_law_thing" = some (some (.ref f9))) (l9 : K.lookup f9 = some ⟨oc9, od9, .func (PySem.W.fnOf "_law_thing" "_law_thing" (defArgs s__law_thing) (defBody s__law_thing) (defScope s__law_thing) .none kV9 dc9 pm9 an9 cd9 ct9), sl9⟩) (c9 : PySem.W.codeIn K cd9 "_law_thing" = true) (k9 : PySem.W.keepIn K (.ref f9) = true)
    (a10 : PySem.W.nsIn K mainGlobals "_law_right" = some (some (.ref f10))) (l10 : K.lookup f10 = some ⟨oc10, od10, .func (PySem.W.fnOf "_law_right" "_law_right" (defArgs s__law_right) (defBody s__law_right) (defScope s__law_right) .none kV10 dc10 pm10 an10 cd10 ct10), sl10⟩) (c10 : PySem.W.codeIn K cd10 "_law_right" = true) (k10 : PySem.W.keepIn K (.ref f10) = true)
    (a11 : PySem.W.nsIn K mainGlobals "law" = some (some (.ref f11))) (l11 : K.lookup f11 = some ⟨oc11, od11, .func (PySem.W.fnOf "law" "law" (defArgs s_law) (defBody s_law) (defScope s_law) .none kV11 dc11 pm11 an11 cd11 ct11), sl11⟩) (c11 : PySem.W.codeIn K cd11 "law" = true) (k11 : PySem.W.keepIn K (.ref f11) = true)
    {C_BadSource fI_BadSource : Addr} {oc_BadSource oi_BadSource kVi_BadSource dci_BadSource pmi_BadSource cdi_BadSource cti_BadSource : Value} {od_BadSource odi_BadSource ani_BadSource : Option Addr} {sl_BadSource sli_BadSource : Array (Option Value)} {cdt_BadSource : ClassData} {C_BadRow fI_BadRow : Addr} {oc_BadRow oi_BadRow kVi_BadRow dci_BadRow pmi_BadRow cdi_BadRow cti_BadRow : Value} {od_BadRow odi_BadRow ani_BadRow : Option Addr} {sl_BadRow sli_BadRow : Array (Option Value)} {cdt_BadRow : ClassData} {C_BadText fI_BadText : Addr} {oc_BadText oi_BadText kVi_BadText dci_BadText pmi_BadText cdi_BadText cti_BadText : Value} {od_BadText odi_BadText ani_BadText : Option Addr} {sl_BadText sli_BadText : Array (Option Value)} {cdt_BadText : ClassData} {C_BadPath fI_BadPath : Addr} {oc_BadPath oi_BadPath kVi_BadPath dci_BadPath pmi_BadPath cdi_BadPath cti_BadPath : Value} {od_BadPath odi_BadPath ani_BadPath : Option Addr} {sl_BadPath sli_BadPath : Array (Option Value)} {cdt_BadPath : ClassData} {C_BadName fI_BadName : Addr} {oc_BadName oi_BadName kVi_BadName dci_BadName pmi_BadName cdi_BadName cti_BadName : Value} {od_BadName odi_BadName ani_BadName : Option Addr} {sl_BadName sli_BadName : Array (Option Value)} {cdt_BadName : ClassData} {C_BadTemplate fI_BadTemplate : Addr} {oc_BadTemplate oi_BadTemplate kVi_BadTemplate dci_BadTemplate pmi_BadTemplate cdi_BadTemplate cti_BadTemplate : Value} {od_BadTemplate odi_BadTemplate ani_BadTemplate : Option Addr} {sl_BadTemplate sli_BadTemplate : Array (Option Value)} {cdt_BadTemplate : ClassData} {C_BadNumber fI_BadNumber : Addr} {oc_BadNumber oi_BadNumber kVi_BadNumber dci_BadNumber pmi_BadNumber cdi_BadNumber cti_BadNumber : Value} {od_BadNumber odi_BadNumber ani_BadNumber : Option Addr} {sl_BadNumber sli_BadNumber : Array (Option Value)} {cdt_BadNumber : ClassData} {C_BadDeed fI_BadDeed : Addr} {oc_BadDeed oi_BadDeed kVi_BadDeed dci_BadDeed pmi_BadDeed cdi_BadDeed cti_BadDeed : Value} {od_BadDeed odi_BadDeed ani_BadDeed : Option Addr} {sl_BadDeed sli_BadDeed : Array (Option Value)} {cdt_BadDeed : ClassData} {C_NoLead fI_NoLead : Addr} {oc_NoLead oi_NoLead kVi_NoLead dci_NoLead pmi_NoLead cdi_NoLead cti_NoLead : Value} {od_NoLead odi_NoLead ani_NoLead : Option Addr} {sl_NoLead sli_NoLead : Array (Option Value)} {cdt_NoLead : ClassData} {C_NoName fI_NoName : Addr} {oc_NoName oi_NoName kVi_NoName dci_NoName pmi_NoName cdi_NoName cti_NoName : Value} {od_NoName odi_NoName ani_NoName : Option Addr} {sl_NoName sli_NoName : Array (Option Value)} {cdt_NoName : ClassData} {C_NoRead fI_NoRead : Addr} {oc_NoRead oi_NoRead kVi_NoRead dci_NoRead pmi_NoRead cdi_NoRead cti_NoRead : Value} {od_NoRead odi_NoRead ani_NoRead : Option Addr} {sl_NoRead sli_NoRead : Array (Option Value)} {cdt_NoRead : ClassData} {C_BadKey fI_BadKey : Addr} {oc_BadKey oi_BadKey kVi_BadKey dci_BadKey pmi_BadKey cdi_BadKey cti_BadKey : Value} {od_BadKey odi_BadKey ani_BadKey : Option Addr} {sl_BadKey sli_BadKey : Array (Option Value)} {cdt_BadKey : ClassData} {C_NoPath fI_NoPath : Addr} {oc_NoPath oi_NoPath kVi_NoPath dci_NoPath pmi_NoPath cdi_NoPath cti_NoPath : Value} {od_NoPath odi_NoPath ani_NoPath : Option Addr} {sl_NoPath sli_NoPath : Array (Option Value)} {cdt_NoPath : ClassData} {C_NoPage fI_NoPage : Addr} {oc_NoPage oi_NoPage kVi_NoPage dci_NoPage pmi_NoPage cdi_NoPage cti_NoPage : Value} {od_NoPage odi_NoPage ani_NoPage : Option Addr} {sl_NoPage sli_NoPage : Array (Option Value)} {cdt_NoPage : ClassData} {C_NoAddress fI_NoAddress : Addr} {oc_NoAddress oi_NoAddress kVi_NoAddress dci_NoAddress pmi_NoAddress cdi_NoAddress cti_NoAddress : Value} {od_NoAddress odi_NoAddress ani_NoAddress : Option Addr} {sl_NoAddress sli_NoAddress : Array (Option Value)} {cdt_NoAddress : ClassData} {C_NoPart fI_NoPart : Addr} {oc_NoPart oi_NoPart kVi_NoPart dci_NoPart pmi_NoPart cdi_NoPart cti_NoPart : Value} {od_NoPart odi_NoPart ani_NoPart : Option Addr} {sl_NoPart sli_NoPart : Array (Option Value)} {cdt_NoPart : ClassData} {C_TooMany fI_TooMany : Addr} {oc_TooMany oi_TooMany kVi_TooMany dci_TooMany pmi_TooMany cdi_TooMany cti_TooMany : Value} {od_TooMany odi_TooMany ani_TooMany : Option Addr} {sl_TooMany sli_TooMany : Array (Option Value)} {cdt_TooMany : ClassData} {C_Taken fI_Taken : Addr} {oc_Taken oi_Taken kVi_Taken dci_Taken pmi_Taken cdi_Taken cti_Taken : Value} {od_Taken odi_Taken ani_Taken : Option Addr} {sl_Taken sli_Taken : Array (Option Value)} {cdt_Taken : ClassData} {C_Fault fI_Fault : Addr} {oc_Fault oi_Fault kVi_Fault dci_Fault pmi_Fault cdi_Fault cti_Fault : Value} {od_Fault odi_Fault ani_Fault : Option Addr} {sl_Fault sli_Fault : Array (Option Value)} {cdt_Fault : ClassData}
    (xn_BadSource : PySem.W.nsIn K mainGlobals "BadSource" = some (some (.ref C_BadSource)))
    (xl_BadSource : K.lookup C_BadSource = some ⟨oc_BadSource, od_BadSource, .cls cdt_BadSource, sl_BadSource⟩)
    (xm_BadSource : cdt_BadSource.mro = .ref C_BadSource :: bm_ValueError ∧ cdt_BadSource.abstract = false ∧ cdt_BadSource.hasDel = false ∧ cdt_BadSource.hasDict = true ∧ (sl_BadSource.toList[4]?).join = some (.builtin "ValueError.__new__"))
    (xg_BadSource : PySem.W.findIn K (.ref C_BadSource) "__getattribute__" = some (some (.builtin "BaseException.__getattribute__")))
    (xt_BadSource : PySem.W.findIn K (.ref C_BadSource) "__getattr__" = some none)
    (xk_BadSource : PySem.W.findIn K (.ref C_BadSource) "__class__" = some (some (.builtin "object.__class__")))
    (xs_BadSource : PySem.W.findIn K (.ref C_BadSource) "__setattr__" = some (some (.builtin "object.__setattr__")))
    (xc_BadSource : PySem.W.specialIn K (.ref C_BadSource) "__call__" = some (some (.builtin "type.__call__")))
    (xy_BadSource : PySem.W.typeIn K (.ref C_BadSource) = some (.type "type"))
    (xq_BadSource : PySem.W.instIn K (.ref C_BadSource) (.type "type") = some true)
    (xi_BadSource : PySem.W.findIn K (.ref C_BadSource) "__init__" = some (some (.ref fI_BadSource)))
    (xL_BadSource : K.lookup fI_BadSource = some ⟨oi_BadSource, odi_BadSource, .func (PySem.W.fnOf "__init__" "BadSource.__init__" (defArgs s_BadSource) (defBody s_BadSource) (defScope s_BadSource) .none kVi_BadSource dci_BadSource pmi_BadSource ani_BadSource cdi_BadSource cti_BadSource), sli_BadSource⟩)
    (xC_BadSource : PySem.W.codeIn K cdi_BadSource "BadSource.__init__" = true)
    (xK_BadSource : PySem.W.keepIn K (.ref fI_BadSource) = true)
    (xP_BadSource : PySem.W.keepIn K (.ref C_BadSource) = true)
    (xF_BadSource : PySem.W.isFn K (.ref fI_BadSource) = true)
    (xN0_BadSource : PySem.W.findIn K (.ref C_BadSource) "part" = some none)
    (xn_BadRow : PySem.W.nsIn K mainGlobals "BadRow" = some (some (.ref C_BadRow)))
    (xl_BadRow : K.lookup C_BadRow = some ⟨oc_BadRow, od_BadRow, .cls cdt_BadRow, sl_BadRow⟩)
    (xm_BadRow : cdt_BadRow.mro = .ref C_BadRow :: bm_ValueError ∧ cdt_BadRow.abstract = false ∧ cdt_BadRow.hasDel = false ∧ cdt_BadRow.hasDict = true ∧ (sl_BadRow.toList[4]?).join = some (.builtin "ValueError.__new__"))
    (xg_BadRow : PySem.W.findIn K (.ref C_BadRow) "__getattribute__" = some (some (.builtin "BaseException.__getattribute__")))
    (xt_BadRow : PySem.W.findIn K (.ref C_BadRow) "__getattr__" = some none)
    (xk_BadRow : PySem.W.findIn K (.ref C_BadRow) "__class__" = some (some (.builtin "object.__class__")))
    (xs_BadRow : PySem.W.findIn K (.ref C_BadRow) "__setattr__" = some (some (.builtin "object.__setattr__")))
    (xc_BadRow : PySem.W.specialIn K (.ref C_BadRow) "__call__" = some (some (.builtin "type.__call__")))
    (xy_BadRow : PySem.W.typeIn K (.ref C_BadRow) = some (.type "type"))
    (xq_BadRow : PySem.W.instIn K (.ref C_BadRow) (.type "type") = some true)
    (xi_BadRow : PySem.W.findIn K (.ref C_BadRow) "__init__" = some (some (.ref fI_BadRow)))
    (xL_BadRow : K.lookup fI_BadRow = some ⟨oi_BadRow, odi_BadRow, .func (PySem.W.fnOf "__init__" "BadRow.__init__" (defArgs s_BadRow) (defBody s_BadRow) (defScope s_BadRow) .none kVi_BadRow dci_BadRow pmi_BadRow ani_BadRow cdi_BadRow cti_BadRow), sli_BadRow⟩)
    (xC_BadRow : PySem.W.codeIn K cdi_BadRow "BadRow.__init__" = true)
    (xK_BadRow : PySem.W.keepIn K (.ref fI_BadRow) = true)
    (xP_BadRow : PySem.W.keepIn K (.ref C_BadRow) = true)
    (xF_BadRow : PySem.W.isFn K (.ref fI_BadRow) = true)
    (xN0_BadRow : PySem.W.findIn K (.ref C_BadRow) "row" = some none)
    (xn_BadText : PySem.W.nsIn K mainGlobals "BadText" = some (some (.ref C_BadText)))
    (xl_BadText : K.lookup C_BadText = some ⟨oc_BadText, od_BadText, .cls cdt_BadText, sl_BadText⟩)
    (xm_BadText : cdt_BadText.mro = .ref C_BadText :: bm_ValueError ∧ cdt_BadText.abstract = false ∧ cdt_BadText.hasDel = false ∧ cdt_BadText.hasDict = true ∧ (sl_BadText.toList[4]?).join = some (.builtin "ValueError.__new__"))
    (xg_BadText : PySem.W.findIn K (.ref C_BadText) "__getattribute__" = some (some (.builtin "BaseException.__getattribute__")))
    (xt_BadText : PySem.W.findIn K (.ref C_BadText) "__getattr__" = some none)
    (xk_BadText : PySem.W.findIn K (.ref C_BadText) "__class__" = some (some (.builtin "object.__class__")))
    (xs_BadText : PySem.W.findIn K (.ref C_BadText) "__setattr__" = some (some (.builtin "object.__setattr__")))
    (xc_BadText : PySem.W.specialIn K (.ref C_BadText) "__call__" = some (some (.builtin "type.__call__")))
    (xy_BadText : PySem.W.typeIn K (.ref C_BadText) = some (.type "type"))
    (xq_BadText : PySem.W.instIn K (.ref C_BadText) (.type "type") = some true)
    (xi_BadText : PySem.W.findIn K (.ref C_BadText) "__init__" = some (some (.ref fI_BadText)))
    (xL_BadText : K.lookup fI_BadText = some ⟨oi_BadText, odi_BadText, .func (PySem.W.fnOf "__init__" "BadText.__init__" (defArgs s_BadText) (defBody s_BadText) (defScope s_BadText) .none kVi_BadText dci_BadText pmi_BadText ani_BadText cdi_BadText cti_BadText), sli_BadText⟩)
    (xC_BadText : PySem.W.codeIn K cdi_BadText "BadText.__init__" = true)
    (xK_BadText : PySem.W.keepIn K (.ref fI_BadText) = true)
    (xP_BadText : PySem.W.keepIn K (.ref C_BadText) = true)
    (xF_BadText : PySem.W.isFn K (.ref fI_BadText) = true)
    (xN0_BadText : PySem.W.findIn K (.ref C_BadText) "at" = some none)
    (xn_BadPath : PySem.W.nsIn K mainGlobals "BadPath" = some (some (.ref C_BadPath)))
    (xl_BadPath : K.lookup C_BadPath = some ⟨oc_BadPath, od_BadPath, .cls cdt_BadPath, sl_BadPath⟩)
    (xm_BadPath : cdt_BadPath.mro = .ref C_BadPath :: bm_ValueError ∧ cdt_BadPath.abstract = false ∧ cdt_BadPath.hasDel = false ∧ cdt_BadPath.hasDict = true ∧ (sl_BadPath.toList[4]?).join = some (.builtin "ValueError.__new__"))
    (xg_BadPath : PySem.W.findIn K (.ref C_BadPath) "__getattribute__" = some (some (.builtin "BaseException.__getattribute__")))
    (xt_BadPath : PySem.W.findIn K (.ref C_BadPath) "__getattr__" = some none)
    (xk_BadPath : PySem.W.findIn K (.ref C_BadPath) "__class__" = some (some (.builtin "object.__class__")))
    (xs_BadPath : PySem.W.findIn K (.ref C_BadPath) "__setattr__" = some (some (.builtin "object.__setattr__")))
    (xc_BadPath : PySem.W.specialIn K (.ref C_BadPath) "__call__" = some (some (.builtin "type.__call__")))
    (xy_BadPath : PySem.W.typeIn K (.ref C_BadPath) = some (.type "type"))
    (xq_BadPath : PySem.W.instIn K (.ref C_BadPath) (.type "type") = some true)
    (xi_BadPath : PySem.W.findIn K (.ref C_BadPath) "__init__" = some (some (.ref fI_BadPath)))
    (xL_BadPath : K.lookup fI_BadPath = some ⟨oi_BadPath, odi_BadPath, .func (PySem.W.fnOf "__init__" "BadPath.__init__" (defArgs s_BadPath) (defBody s_BadPath) (defScope s_BadPath) .none kVi_BadPath dci_BadPath pmi_BadPath ani_BadPath cdi_BadPath cti_BadPath), sli_BadPath⟩)
    (xC_BadPath : PySem.W.codeIn K cdi_BadPath "BadPath.__init__" = true)
    (xK_BadPath : PySem.W.keepIn K (.ref fI_BadPath) = true)
    (xP_BadPath : PySem.W.keepIn K (.ref C_BadPath) = true)
    (xF_BadPath : PySem.W.isFn K (.ref fI_BadPath) = true)
    (xN0_BadPath : PySem.W.findIn K (.ref C_BadPath) "path" = some none)
    (xn_BadName : PySem.W.nsIn K mainGlobals "BadName" = some (some (.ref C_BadName)))
    (xl_BadName : K.lookup C_BadName = some ⟨oc_BadName, od_BadName, .cls cdt_BadName, sl_BadName⟩)
    (xm_BadName : cdt_BadName.mro = .ref C_BadName :: bm_ValueError ∧ cdt_BadName.abstract = false ∧ cdt_BadName.hasDel = false ∧ cdt_BadName.hasDict = true ∧ (sl_BadName.toList[4]?).join = some (.builtin "ValueError.__new__"))
    (xg_BadName : PySem.W.findIn K (.ref C_BadName) "__getattribute__" = some (some (.builtin "BaseException.__getattribute__")))
    (xt_BadName : PySem.W.findIn K (.ref C_BadName) "__getattr__" = some none)
    (xk_BadName : PySem.W.findIn K (.ref C_BadName) "__class__" = some (some (.builtin "object.__class__")))
    (xs_BadName : PySem.W.findIn K (.ref C_BadName) "__setattr__" = some (some (.builtin "object.__setattr__")))
    (xc_BadName : PySem.W.specialIn K (.ref C_BadName) "__call__" = some (some (.builtin "type.__call__")))
    (xy_BadName : PySem.W.typeIn K (.ref C_BadName) = some (.type "type"))
    (xq_BadName : PySem.W.instIn K (.ref C_BadName) (.type "type") = some true)
    (xi_BadName : PySem.W.findIn K (.ref C_BadName) "__init__" = some (some (.ref fI_BadName)))
    (xL_BadName : K.lookup fI_BadName = some ⟨oi_BadName, odi_BadName, .func (PySem.W.fnOf "__init__" "BadName.__init__" (defArgs s_BadName) (defBody s_BadName) (defScope s_BadName) .none kVi_BadName dci_BadName pmi_BadName ani_BadName cdi_BadName cti_BadName), sli_BadName⟩)
    (xC_BadName : PySem.W.codeIn K cdi_BadName "BadName.__init__" = true)
    (xK_BadName : PySem.W.keepIn K (.ref fI_BadName) = true)
    (xP_BadName : PySem.W.keepIn K (.ref C_BadName) = true)
    (xF_BadName : PySem.W.isFn K (.ref fI_BadName) = true)
    (xN0_BadName : PySem.W.findIn K (.ref C_BadName) "name" = some none)
    (xn_BadTemplate : PySem.W.nsIn K mainGlobals "BadTemplate" = some (some (.ref C_BadTemplate)))
    (xl_BadTemplate : K.lookup C_BadTemplate = some ⟨oc_BadTemplate, od_BadTemplate, .cls cdt_BadTemplate, sl_BadTemplate⟩)
    (xm_BadTemplate : cdt_BadTemplate.mro = .ref C_BadTemplate :: bm_ValueError ∧ cdt_BadTemplate.abstract = false ∧ cdt_BadTemplate.hasDel = false ∧ cdt_BadTemplate.hasDict = true ∧ (sl_BadTemplate.toList[4]?).join = some (.builtin "ValueError.__new__"))
    (xg_BadTemplate : PySem.W.findIn K (.ref C_BadTemplate) "__getattribute__" = some (some (.builtin "BaseException.__getattribute__")))
    (xt_BadTemplate : PySem.W.findIn K (.ref C_BadTemplate) "__getattr__" = some none)
    (xk_BadTemplate : PySem.W.findIn K (.ref C_BadTemplate) "__class__" = some (some (.builtin "object.__class__")))
    (xs_BadTemplate : PySem.W.findIn K (.ref C_BadTemplate) "__setattr__" = some (some (.builtin "object.__setattr__")))
    (xc_BadTemplate : PySem.W.specialIn K (.ref C_BadTemplate) "__call__" = some (some (.builtin "type.__call__")))
    (xy_BadTemplate : PySem.W.typeIn K (.ref C_BadTemplate) = some (.type "type"))
    (xq_BadTemplate : PySem.W.instIn K (.ref C_BadTemplate) (.type "type") = some true)
    (xi_BadTemplate : PySem.W.findIn K (.ref C_BadTemplate) "__init__" = some (some (.ref fI_BadTemplate)))
    (xL_BadTemplate : K.lookup fI_BadTemplate = some ⟨oi_BadTemplate, odi_BadTemplate, .func (PySem.W.fnOf "__init__" "BadTemplate.__init__" (defArgs s_BadTemplate) (defBody s_BadTemplate) (defScope s_BadTemplate) .none kVi_BadTemplate dci_BadTemplate pmi_BadTemplate ani_BadTemplate cdi_BadTemplate cti_BadTemplate), sli_BadTemplate⟩)
    (xC_BadTemplate : PySem.W.codeIn K cdi_BadTemplate "BadTemplate.__init__" = true)
    (xK_BadTemplate : PySem.W.keepIn K (.ref fI_BadTemplate) = true)
    (xP_BadTemplate : PySem.W.keepIn K (.ref C_BadTemplate) = true)
    (xF_BadTemplate : PySem.W.isFn K (.ref fI_BadTemplate) = true)
    (xN0_BadTemplate : PySem.W.findIn K (.ref C_BadTemplate) "name" = some none)
    (xn_BadNumber : PySem.W.nsIn K mainGlobals "BadNumber" = some (some (.ref C_BadNumber)))
    (xl_BadNumber : K.lookup C_BadNumber = some ⟨oc_BadNumber, od_BadNumber, .cls cdt_BadNumber, sl_BadNumber⟩)
    (xm_BadNumber : cdt_BadNumber.mro = .ref C_BadNumber :: bm_ValueError ∧ cdt_BadNumber.abstract = false ∧ cdt_BadNumber.hasDel = false ∧ cdt_BadNumber.hasDict = true ∧ (sl_BadNumber.toList[4]?).join = some (.builtin "ValueError.__new__"))
    (xg_BadNumber : PySem.W.findIn K (.ref C_BadNumber) "__getattribute__" = some (some (.builtin "BaseException.__getattribute__")))
    (xt_BadNumber : PySem.W.findIn K (.ref C_BadNumber) "__getattr__" = some none)
    (xk_BadNumber : PySem.W.findIn K (.ref C_BadNumber) "__class__" = some (some (.builtin "object.__class__")))
    (xs_BadNumber : PySem.W.findIn K (.ref C_BadNumber) "__setattr__" = some (some (.builtin "object.__setattr__")))
    (xc_BadNumber : PySem.W.specialIn K (.ref C_BadNumber) "__call__" = some (some (.builtin "type.__call__")))
    (xy_BadNumber : PySem.W.typeIn K (.ref C_BadNumber) = some (.type "type"))
    (xq_BadNumber : PySem.W.instIn K (.ref C_BadNumber) (.type "type") = some true)
    (xi_BadNumber : PySem.W.findIn K (.ref C_BadNumber) "__init__" = some (some (.ref fI_BadNumber)))
    (xL_BadNumber : K.lookup fI_BadNumber = some ⟨oi_BadNumber, odi_BadNumber, .func (PySem.W.fnOf "__init__" "BadNumber.__init__" (defArgs s_BadNumber) (defBody s_BadNumber) (defScope s_BadNumber) .none kVi_BadNumber dci_BadNumber pmi_BadNumber ani_BadNumber cdi_BadNumber cti_BadNumber), sli_BadNumber⟩)
    (xC_BadNumber : PySem.W.codeIn K cdi_BadNumber "BadNumber.__init__" = true)
    (xK_BadNumber : PySem.W.keepIn K (.ref fI_BadNumber) = true)
    (xP_BadNumber : PySem.W.keepIn K (.ref C_BadNumber) = true)
    (xF_BadNumber : PySem.W.isFn K (.ref fI_BadNumber) = true)
    (xN0_BadNumber : PySem.W.findIn K (.ref C_BadNumber) "number" = some none)
    (xn_BadDeed : PySem.W.nsIn K mainGlobals "BadDeed" = some (some (.ref C_BadDeed)))
    (xl_BadDeed : K.lookup C_BadDeed = some ⟨oc_BadDeed, od_BadDeed, .cls cdt_BadDeed, sl_BadDeed⟩)
    (xm_BadDeed : cdt_BadDeed.mro = .ref C_BadDeed :: bm_ValueError ∧ cdt_BadDeed.abstract = false ∧ cdt_BadDeed.hasDel = false ∧ cdt_BadDeed.hasDict = true ∧ (sl_BadDeed.toList[4]?).join = some (.builtin "ValueError.__new__"))
    (xg_BadDeed : PySem.W.findIn K (.ref C_BadDeed) "__getattribute__" = some (some (.builtin "BaseException.__getattribute__")))
    (xt_BadDeed : PySem.W.findIn K (.ref C_BadDeed) "__getattr__" = some none)
    (xk_BadDeed : PySem.W.findIn K (.ref C_BadDeed) "__class__" = some (some (.builtin "object.__class__")))
    (xs_BadDeed : PySem.W.findIn K (.ref C_BadDeed) "__setattr__" = some (some (.builtin "object.__setattr__")))
    (xc_BadDeed : PySem.W.specialIn K (.ref C_BadDeed) "__call__" = some (some (.builtin "type.__call__")))
    (xy_BadDeed : PySem.W.typeIn K (.ref C_BadDeed) = some (.type "type"))
    (xq_BadDeed : PySem.W.instIn K (.ref C_BadDeed) (.type "type") = some true)
    (xi_BadDeed : PySem.W.findIn K (.ref C_BadDeed) "__init__" = some (some (.ref fI_BadDeed)))
    (xL_BadDeed : K.lookup fI_BadDeed = some ⟨oi_BadDeed, odi_BadDeed, .func (PySem.W.fnOf "__init__" "BadDeed.__init__" (defArgs s_BadDeed) (defBody s_BadDeed) (defScope s_BadDeed) .none kVi_BadDeed dci_BadDeed pmi_BadDeed ani_BadDeed cdi_BadDeed cti_BadDeed), sli_BadDeed⟩)
    (xC_BadDeed : PySem.W.codeIn K cdi_BadDeed "BadDeed.__init__" = true)
    (xK_BadDeed : PySem.W.keepIn K (.ref fI_BadDeed) = true)
    (xP_BadDeed : PySem.W.keepIn K (.ref C_BadDeed) = true)
    (xF_BadDeed : PySem.W.isFn K (.ref fI_BadDeed) = true)
    (xN0_BadDeed : PySem.W.findIn K (.ref C_BadDeed) "number" = some none)
    (xn_NoLead : PySem.W.nsIn K mainGlobals "NoLead" = some (some (.ref C_NoLead)))
    (xl_NoLead : K.lookup C_NoLead = some ⟨oc_NoLead, od_NoLead, .cls cdt_NoLead, sl_NoLead⟩)
    (xm_NoLead : cdt_NoLead.mro = .ref C_NoLead :: bm_KeyError ∧ cdt_NoLead.abstract = false ∧ cdt_NoLead.hasDel = false ∧ cdt_NoLead.hasDict = true ∧ (sl_NoLead.toList[4]?).join = some (.builtin "LookupError.__new__"))
    (xg_NoLead : PySem.W.findIn K (.ref C_NoLead) "__getattribute__" = some (some (.builtin "BaseException.__getattribute__")))
    (xt_NoLead : PySem.W.findIn K (.ref C_NoLead) "__getattr__" = some none)
    (xk_NoLead : PySem.W.findIn K (.ref C_NoLead) "__class__" = some (some (.builtin "object.__class__")))
    (xs_NoLead : PySem.W.findIn K (.ref C_NoLead) "__setattr__" = some (some (.builtin "object.__setattr__")))
    (xc_NoLead : PySem.W.specialIn K (.ref C_NoLead) "__call__" = some (some (.builtin "type.__call__")))
    (xy_NoLead : PySem.W.typeIn K (.ref C_NoLead) = some (.type "type"))
    (xq_NoLead : PySem.W.instIn K (.ref C_NoLead) (.type "type") = some true)
    (xi_NoLead : PySem.W.findIn K (.ref C_NoLead) "__init__" = some (some (.ref fI_NoLead)))
    (xL_NoLead : K.lookup fI_NoLead = some ⟨oi_NoLead, odi_NoLead, .func (PySem.W.fnOf "__init__" "NoLead.__init__" (defArgs s_NoLead) (defBody s_NoLead) (defScope s_NoLead) .none kVi_NoLead dci_NoLead pmi_NoLead ani_NoLead cdi_NoLead cti_NoLead), sli_NoLead⟩)
    (xC_NoLead : PySem.W.codeIn K cdi_NoLead "NoLead.__init__" = true)
    (xK_NoLead : PySem.W.keepIn K (.ref fI_NoLead) = true)
    (xP_NoLead : PySem.W.keepIn K (.ref C_NoLead) = true)
    (xF_NoLead : PySem.W.isFn K (.ref fI_NoLead) = true)
    (xN0_NoLead : PySem.W.findIn K (.ref C_NoLead) "path" = some none)
    (xn_NoName : PySem.W.nsIn K mainGlobals "NoName" = some (some (.ref C_NoName)))
    (xl_NoName : K.lookup C_NoName = some ⟨oc_NoName, od_NoName, .cls cdt_NoName, sl_NoName⟩)
    (xm_NoName : cdt_NoName.mro = .ref C_NoName :: bm_KeyError ∧ cdt_NoName.abstract = false ∧ cdt_NoName.hasDel = false ∧ cdt_NoName.hasDict = true ∧ (sl_NoName.toList[4]?).join = some (.builtin "LookupError.__new__"))
    (xg_NoName : PySem.W.findIn K (.ref C_NoName) "__getattribute__" = some (some (.builtin "BaseException.__getattribute__")))
    (xt_NoName : PySem.W.findIn K (.ref C_NoName) "__getattr__" = some none)
    (xk_NoName : PySem.W.findIn K (.ref C_NoName) "__class__" = some (some (.builtin "object.__class__")))
    (xs_NoName : PySem.W.findIn K (.ref C_NoName) "__setattr__" = some (some (.builtin "object.__setattr__")))
    (xc_NoName : PySem.W.specialIn K (.ref C_NoName) "__call__" = some (some (.builtin "type.__call__")))
    (xy_NoName : PySem.W.typeIn K (.ref C_NoName) = some (.type "type"))
    (xq_NoName : PySem.W.instIn K (.ref C_NoName) (.type "type") = some true)
    (xi_NoName : PySem.W.findIn K (.ref C_NoName) "__init__" = some (some (.ref fI_NoName)))
    (xL_NoName : K.lookup fI_NoName = some ⟨oi_NoName, odi_NoName, .func (PySem.W.fnOf "__init__" "NoName.__init__" (defArgs s_NoName) (defBody s_NoName) (defScope s_NoName) .none kVi_NoName dci_NoName pmi_NoName ani_NoName cdi_NoName cti_NoName), sli_NoName⟩)
    (xC_NoName : PySem.W.codeIn K cdi_NoName "NoName.__init__" = true)
    (xK_NoName : PySem.W.keepIn K (.ref fI_NoName) = true)
    (xP_NoName : PySem.W.keepIn K (.ref C_NoName) = true)
    (xF_NoName : PySem.W.isFn K (.ref fI_NoName) = true)
    (xN0_NoName : PySem.W.findIn K (.ref C_NoName) "name" = some none)
    (xn_NoRead : PySem.W.nsIn K mainGlobals "NoRead" = some (some (.ref C_NoRead)))
    (xl_NoRead : K.lookup C_NoRead = some ⟨oc_NoRead, od_NoRead, .cls cdt_NoRead, sl_NoRead⟩)
    (xm_NoRead : cdt_NoRead.mro = .ref C_NoRead :: bm_KeyError ∧ cdt_NoRead.abstract = false ∧ cdt_NoRead.hasDel = false ∧ cdt_NoRead.hasDict = true ∧ (sl_NoRead.toList[4]?).join = some (.builtin "LookupError.__new__"))
    (xg_NoRead : PySem.W.findIn K (.ref C_NoRead) "__getattribute__" = some (some (.builtin "BaseException.__getattribute__")))
    (xt_NoRead : PySem.W.findIn K (.ref C_NoRead) "__getattr__" = some none)
    (xk_NoRead : PySem.W.findIn K (.ref C_NoRead) "__class__" = some (some (.builtin "object.__class__")))
    (xs_NoRead : PySem.W.findIn K (.ref C_NoRead) "__setattr__" = some (some (.builtin "object.__setattr__")))
    (xc_NoRead : PySem.W.specialIn K (.ref C_NoRead) "__call__" = some (some (.builtin "type.__call__")))
    (xy_NoRead : PySem.W.typeIn K (.ref C_NoRead) = some (.type "type"))
    (xq_NoRead : PySem.W.instIn K (.ref C_NoRead) (.type "type") = some true)
    (xi_NoRead : PySem.W.findIn K (.ref C_NoRead) "__init__" = some (some (.ref fI_NoRead)))
    (xL_NoRead : K.lookup fI_NoRead = some ⟨oi_NoRead, odi_NoRead, .func (PySem.W.fnOf "__init__" "NoRead.__init__" (defArgs s_NoRead) (defBody s_NoRead) (defScope s_NoRead) .none kVi_NoRead dci_NoRead pmi_NoRead ani_NoRead cdi_NoRead cti_NoRead), sli_NoRead⟩)
    (xC_NoRead : PySem.W.codeIn K cdi_NoRead "NoRead.__init__" = true)
    (xK_NoRead : PySem.W.keepIn K (.ref fI_NoRead) = true)
    (xP_NoRead : PySem.W.keepIn K (.ref C_NoRead) = true)
    (xF_NoRead : PySem.W.isFn K (.ref fI_NoRead) = true)
    (xN0_NoRead : PySem.W.findIn K (.ref C_NoRead) "key" = some none)
    (xn_BadKey : PySem.W.nsIn K mainGlobals "BadKey" = some (some (.ref C_BadKey)))
    (xl_BadKey : K.lookup C_BadKey = some ⟨oc_BadKey, od_BadKey, .cls cdt_BadKey, sl_BadKey⟩)
    (xm_BadKey : cdt_BadKey.mro = .ref C_BadKey :: bm_KeyError ∧ cdt_BadKey.abstract = false ∧ cdt_BadKey.hasDel = false ∧ cdt_BadKey.hasDict = true ∧ (sl_BadKey.toList[4]?).join = some (.builtin "LookupError.__new__"))
    (xg_BadKey : PySem.W.findIn K (.ref C_BadKey) "__getattribute__" = some (some (.builtin "BaseException.__getattribute__")))
    (xt_BadKey : PySem.W.findIn K (.ref C_BadKey) "__getattr__" = some none)
    (xk_BadKey : PySem.W.findIn K (.ref C_BadKey) "__class__" = some (some (.builtin "object.__class__")))
    (xs_BadKey : PySem.W.findIn K (.ref C_BadKey) "__setattr__" = some (some (.builtin "object.__setattr__")))
    (xc_BadKey : PySem.W.specialIn K (.ref C_BadKey) "__call__" = some (some (.builtin "type.__call__")))
    (xy_BadKey : PySem.W.typeIn K (.ref C_BadKey) = some (.type "type"))
    (xq_BadKey : PySem.W.instIn K (.ref C_BadKey) (.type "type") = some true)
    (xi_BadKey : PySem.W.findIn K (.ref C_BadKey) "__init__" = some (some (.ref fI_BadKey)))
    (xL_BadKey : K.lookup fI_BadKey = some ⟨oi_BadKey, odi_BadKey, .func (PySem.W.fnOf "__init__" "BadKey.__init__" (defArgs s_BadKey) (defBody s_BadKey) (defScope s_BadKey) .none kVi_BadKey dci_BadKey pmi_BadKey ani_BadKey cdi_BadKey cti_BadKey), sli_BadKey⟩)
    (xC_BadKey : PySem.W.codeIn K cdi_BadKey "BadKey.__init__" = true)
    (xK_BadKey : PySem.W.keepIn K (.ref fI_BadKey) = true)
    (xP_BadKey : PySem.W.keepIn K (.ref C_BadKey) = true)
    (xF_BadKey : PySem.W.isFn K (.ref fI_BadKey) = true)
    (xN0_BadKey : PySem.W.findIn K (.ref C_BadKey) "key" = some none)
    (xn_NoPath : PySem.W.nsIn K mainGlobals "NoPath" = some (some (.ref C_NoPath)))
    (xl_NoPath : K.lookup C_NoPath = some ⟨oc_NoPath, od_NoPath, .cls cdt_NoPath, sl_NoPath⟩)
    (xm_NoPath : cdt_NoPath.mro = .ref C_NoPath :: bm_LookupError ∧ cdt_NoPath.abstract = false ∧ cdt_NoPath.hasDel = false ∧ cdt_NoPath.hasDict = true ∧ (sl_NoPath.toList[4]?).join = some (.builtin "LookupError.__new__"))
    (xg_NoPath : PySem.W.findIn K (.ref C_NoPath) "__getattribute__" = some (some (.builtin "BaseException.__getattribute__")))
    (xt_NoPath : PySem.W.findIn K (.ref C_NoPath) "__getattr__" = some none)
    (xk_NoPath : PySem.W.findIn K (.ref C_NoPath) "__class__" = some (some (.builtin "object.__class__")))
    (xs_NoPath : PySem.W.findIn K (.ref C_NoPath) "__setattr__" = some (some (.builtin "object.__setattr__")))
    (xc_NoPath : PySem.W.specialIn K (.ref C_NoPath) "__call__" = some (some (.builtin "type.__call__")))
    (xy_NoPath : PySem.W.typeIn K (.ref C_NoPath) = some (.type "type"))
    (xq_NoPath : PySem.W.instIn K (.ref C_NoPath) (.type "type") = some true)
    (xi_NoPath : PySem.W.findIn K (.ref C_NoPath) "__init__" = some (some (.ref fI_NoPath)))
    (xL_NoPath : K.lookup fI_NoPath = some ⟨oi_NoPath, odi_NoPath, .func (PySem.W.fnOf "__init__" "NoPath.__init__" (defArgs s_NoPath) (defBody s_NoPath) (defScope s_NoPath) .none kVi_NoPath dci_NoPath pmi_NoPath ani_NoPath cdi_NoPath cti_NoPath), sli_NoPath⟩)
    (xC_NoPath : PySem.W.codeIn K cdi_NoPath "NoPath.__init__" = true)
    (xK_NoPath : PySem.W.keepIn K (.ref fI_NoPath) = true)
    (xP_NoPath : PySem.W.keepIn K (.ref C_NoPath) = true)
    (xF_NoPath : PySem.W.isFn K (.ref fI_NoPath) = true)
    (xN0_NoPath : PySem.W.findIn K (.ref C_NoPath) "path" = some none)
    (xn_NoPage : PySem.W.nsIn K mainGlobals "NoPage" = some (some (.ref C_NoPage)))
    (xl_NoPage : K.lookup C_NoPage = some ⟨oc_NoPage, od_NoPage, .cls cdt_NoPage, sl_NoPage⟩)
    (xm_NoPage : cdt_NoPage.mro = .ref C_NoPage :: bm_LookupError ∧ cdt_NoPage.abstract = false ∧ cdt_NoPage.hasDel = false ∧ cdt_NoPage.hasDict = true ∧ (sl_NoPage.toList[4]?).join = some (.builtin "LookupError.__new__"))
    (xg_NoPage : PySem.W.findIn K (.ref C_NoPage) "__getattribute__" = some (some (.builtin "BaseException.__getattribute__")))
    (xt_NoPage : PySem.W.findIn K (.ref C_NoPage) "__getattr__" = some none)
    (xk_NoPage : PySem.W.findIn K (.ref C_NoPage) "__class__" = some (some (.builtin "object.__class__")))
    (xs_NoPage : PySem.W.findIn K (.ref C_NoPage) "__setattr__" = some (some (.builtin "object.__setattr__")))
    (xc_NoPage : PySem.W.specialIn K (.ref C_NoPage) "__call__" = some (some (.builtin "type.__call__")))
    (xy_NoPage : PySem.W.typeIn K (.ref C_NoPage) = some (.type "type"))
    (xq_NoPage : PySem.W.instIn K (.ref C_NoPage) (.type "type") = some true)
    (xi_NoPage : PySem.W.findIn K (.ref C_NoPage) "__init__" = some (some (.ref fI_NoPage)))
    (xL_NoPage : K.lookup fI_NoPage = some ⟨oi_NoPage, odi_NoPage, .func (PySem.W.fnOf "__init__" "NoPage.__init__" (defArgs s_NoPage) (defBody s_NoPage) (defScope s_NoPage) .none kVi_NoPage dci_NoPage pmi_NoPage ani_NoPage cdi_NoPage cti_NoPage), sli_NoPage⟩)
    (xC_NoPage : PySem.W.codeIn K cdi_NoPage "NoPage.__init__" = true)
    (xK_NoPage : PySem.W.keepIn K (.ref fI_NoPage) = true)
    (xP_NoPage : PySem.W.keepIn K (.ref C_NoPage) = true)
    (xF_NoPage : PySem.W.isFn K (.ref fI_NoPage) = true)
    (xN0_NoPage : PySem.W.findIn K (.ref C_NoPage) "path" = some none)
    (xn_NoAddress : PySem.W.nsIn K mainGlobals "NoAddress" = some (some (.ref C_NoAddress)))
    (xl_NoAddress : K.lookup C_NoAddress = some ⟨oc_NoAddress, od_NoAddress, .cls cdt_NoAddress, sl_NoAddress⟩)
    (xm_NoAddress : cdt_NoAddress.mro = .ref C_NoAddress :: bm_LookupError ∧ cdt_NoAddress.abstract = false ∧ cdt_NoAddress.hasDel = false ∧ cdt_NoAddress.hasDict = true ∧ (sl_NoAddress.toList[4]?).join = some (.builtin "LookupError.__new__"))
    (xg_NoAddress : PySem.W.findIn K (.ref C_NoAddress) "__getattribute__" = some (some (.builtin "BaseException.__getattribute__")))
    (xt_NoAddress : PySem.W.findIn K (.ref C_NoAddress) "__getattr__" = some none)
    (xk_NoAddress : PySem.W.findIn K (.ref C_NoAddress) "__class__" = some (some (.builtin "object.__class__")))
    (xs_NoAddress : PySem.W.findIn K (.ref C_NoAddress) "__setattr__" = some (some (.builtin "object.__setattr__")))
    (xc_NoAddress : PySem.W.specialIn K (.ref C_NoAddress) "__call__" = some (some (.builtin "type.__call__")))
    (xy_NoAddress : PySem.W.typeIn K (.ref C_NoAddress) = some (.type "type"))
    (xq_NoAddress : PySem.W.instIn K (.ref C_NoAddress) (.type "type") = some true)
    (xi_NoAddress : PySem.W.findIn K (.ref C_NoAddress) "__init__" = some (some (.ref fI_NoAddress)))
    (xL_NoAddress : K.lookup fI_NoAddress = some ⟨oi_NoAddress, odi_NoAddress, .func (PySem.W.fnOf "__init__" "NoAddress.__init__" (defArgs s_NoAddress) (defBody s_NoAddress) (defScope s_NoAddress) .none kVi_NoAddress dci_NoAddress pmi_NoAddress ani_NoAddress cdi_NoAddress cti_NoAddress), sli_NoAddress⟩)
    (xC_NoAddress : PySem.W.codeIn K cdi_NoAddress "NoAddress.__init__" = true)
    (xK_NoAddress : PySem.W.keepIn K (.ref fI_NoAddress) = true)
    (xP_NoAddress : PySem.W.keepIn K (.ref C_NoAddress) = true)
    (xF_NoAddress : PySem.W.isFn K (.ref fI_NoAddress) = true)
    (xN0_NoAddress : PySem.W.findIn K (.ref C_NoAddress) "address" = some none)
    (xn_NoPart : PySem.W.nsIn K mainGlobals "NoPart" = some (some (.ref C_NoPart)))
    (xl_NoPart : K.lookup C_NoPart = some ⟨oc_NoPart, od_NoPart, .cls cdt_NoPart, sl_NoPart⟩)
    (xm_NoPart : cdt_NoPart.mro = .ref C_NoPart :: bm_IndexError ∧ cdt_NoPart.abstract = false ∧ cdt_NoPart.hasDel = false ∧ cdt_NoPart.hasDict = true ∧ (sl_NoPart.toList[4]?).join = some (.builtin "IndexError.__new__"))
    (xg_NoPart : PySem.W.findIn K (.ref C_NoPart) "__getattribute__" = some (some (.builtin "BaseException.__getattribute__")))
    (xt_NoPart : PySem.W.findIn K (.ref C_NoPart) "__getattr__" = some none)
    (xk_NoPart : PySem.W.findIn K (.ref C_NoPart) "__class__" = some (some (.builtin "object.__class__")))
    (xs_NoPart : PySem.W.findIn K (.ref C_NoPart) "__setattr__" = some (some (.builtin "object.__setattr__")))
    (xc_NoPart : PySem.W.specialIn K (.ref C_NoPart) "__call__" = some (some (.builtin "type.__call__")))
    (xy_NoPart : PySem.W.typeIn K (.ref C_NoPart) = some (.type "type"))
    (xq_NoPart : PySem.W.instIn K (.ref C_NoPart) (.type "type") = some true)
    (xi_NoPart : PySem.W.findIn K (.ref C_NoPart) "__init__" = some (some (.ref fI_NoPart)))
    (xL_NoPart : K.lookup fI_NoPart = some ⟨oi_NoPart, odi_NoPart, .func (PySem.W.fnOf "__init__" "NoPart.__init__" (defArgs s_NoPart) (defBody s_NoPart) (defScope s_NoPart) .none kVi_NoPart dci_NoPart pmi_NoPart ani_NoPart cdi_NoPart cti_NoPart), sli_NoPart⟩)
    (xC_NoPart : PySem.W.codeIn K cdi_NoPart "NoPart.__init__" = true)
    (xK_NoPart : PySem.W.keepIn K (.ref fI_NoPart) = true)
    (xP_NoPart : PySem.W.keepIn K (.ref C_NoPart) = true)
    (xF_NoPart : PySem.W.isFn K (.ref fI_NoPart) = true)
    (xN0_NoPart : PySem.W.findIn K (.ref C_NoPart) "tag" = some none)
    (xN1_NoPart : PySem.W.findIn K (.ref C_NoPart) "number" = some none)
    (xn_TooMany : PySem.W.nsIn K mainGlobals "TooMany" = some (some (.ref C_TooMany)))
    (xl_TooMany : K.lookup C_TooMany = some ⟨oc_TooMany, od_TooMany, .cls cdt_TooMany, sl_TooMany⟩)
    (xm_TooMany : cdt_TooMany.mro = .ref C_TooMany :: bm_OverflowError ∧ cdt_TooMany.abstract = false ∧ cdt_TooMany.hasDel = false ∧ cdt_TooMany.hasDict = true ∧ (sl_TooMany.toList[4]?).join = some (.builtin "OverflowError.__new__"))
    (xg_TooMany : PySem.W.findIn K (.ref C_TooMany) "__getattribute__" = some (some (.builtin "BaseException.__getattribute__")))
    (xt_TooMany : PySem.W.findIn K (.ref C_TooMany) "__getattr__" = some none)
    (xk_TooMany : PySem.W.findIn K (.ref C_TooMany) "__class__" = some (some (.builtin "object.__class__")))
    (xs_TooMany : PySem.W.findIn K (.ref C_TooMany) "__setattr__" = some (some (.builtin "object.__setattr__")))
    (xc_TooMany : PySem.W.specialIn K (.ref C_TooMany) "__call__" = some (some (.builtin "type.__call__")))
    (xy_TooMany : PySem.W.typeIn K (.ref C_TooMany) = some (.type "type"))
    (xq_TooMany : PySem.W.instIn K (.ref C_TooMany) (.type "type") = some true)
    (xi_TooMany : PySem.W.findIn K (.ref C_TooMany) "__init__" = some (some (.ref fI_TooMany)))
    (xL_TooMany : K.lookup fI_TooMany = some ⟨oi_TooMany, odi_TooMany, .func (PySem.W.fnOf "__init__" "TooMany.__init__" (defArgs s_TooMany) (defBody s_TooMany) (defScope s_TooMany) .none kVi_TooMany dci_TooMany pmi_TooMany ani_TooMany cdi_TooMany cti_TooMany), sli_TooMany⟩)
    (xC_TooMany : PySem.W.codeIn K cdi_TooMany "TooMany.__init__" = true)
    (xK_TooMany : PySem.W.keepIn K (.ref fI_TooMany) = true)
    (xP_TooMany : PySem.W.keepIn K (.ref C_TooMany) = true)
    (xF_TooMany : PySem.W.isFn K (.ref fI_TooMany) = true)
    (xN0_TooMany : PySem.W.findIn K (.ref C_TooMany) "many" = some none)
    (xn_Taken : PySem.W.nsIn K mainGlobals "Taken" = some (some (.ref C_Taken)))
    (xl_Taken : K.lookup C_Taken = some ⟨oc_Taken, od_Taken, .cls cdt_Taken, sl_Taken⟩)
    (xm_Taken : cdt_Taken.mro = .ref C_Taken :: bm_RuntimeError ∧ cdt_Taken.abstract = false ∧ cdt_Taken.hasDel = false ∧ cdt_Taken.hasDict = true ∧ (sl_Taken.toList[4]?).join = some (.builtin "RuntimeError.__new__"))
    (xg_Taken : PySem.W.findIn K (.ref C_Taken) "__getattribute__" = some (some (.builtin "BaseException.__getattribute__")))
    (xt_Taken : PySem.W.findIn K (.ref C_Taken) "__getattr__" = some none)
    (xk_Taken : PySem.W.findIn K (.ref C_Taken) "__class__" = some (some (.builtin "object.__class__")))
    (xs_Taken : PySem.W.findIn K (.ref C_Taken) "__setattr__" = some (some (.builtin "object.__setattr__")))
    (xc_Taken : PySem.W.specialIn K (.ref C_Taken) "__call__" = some (some (.builtin "type.__call__")))
    (xy_Taken : PySem.W.typeIn K (.ref C_Taken) = some (.type "type"))
    (xq_Taken : PySem.W.instIn K (.ref C_Taken) (.type "type") = some true)
    (xi_Taken : PySem.W.findIn K (.ref C_Taken) "__init__" = some (some (.ref fI_Taken)))
    (xL_Taken : K.lookup fI_Taken = some ⟨oi_Taken, odi_Taken, .func (PySem.W.fnOf "__init__" "Taken.__init__" (defArgs s_Taken) (defBody s_Taken) (defScope s_Taken) .none kVi_Taken dci_Taken pmi_Taken ani_Taken cdi_Taken cti_Taken), sli_Taken⟩)
    (xC_Taken : PySem.W.codeIn K cdi_Taken "Taken.__init__" = true)
    (xK_Taken : PySem.W.keepIn K (.ref fI_Taken) = true)
    (xP_Taken : PySem.W.keepIn K (.ref C_Taken) = true)
    (xF_Taken : PySem.W.isFn K (.ref fI_Taken) = true)
    (xN0_Taken : PySem.W.findIn K (.ref C_Taken) "path" = some none)
    (xn_Fault : PySem.W.nsIn K mainGlobals "Fault" = some (some (.ref C_Fault)))
    (xl_Fault : K.lookup C_Fault = some ⟨oc_Fault, od_Fault, .cls cdt_Fault, sl_Fault⟩)
    (xm_Fault : cdt_Fault.mro = .ref C_Fault :: bm_RuntimeError ∧ cdt_Fault.abstract = false ∧ cdt_Fault.hasDel = false ∧ cdt_Fault.hasDict = true ∧ (sl_Fault.toList[4]?).join = some (.builtin "RuntimeError.__new__"))
    (xg_Fault : PySem.W.findIn K (.ref C_Fault) "__getattribute__" = some (some (.builtin "BaseException.__getattribute__")))
    (xt_Fault : PySem.W.findIn K (.ref C_Fault) "__getattr__" = some none)
    (xk_Fault : PySem.W.findIn K (.ref C_Fault) "__class__" = some (some (.builtin "object.__class__")))
    (xs_Fault : PySem.W.findIn K (.ref C_Fault) "__setattr__" = some (some (.builtin "object.__setattr__")))
    (xc_Fault : PySem.W.specialIn K (.ref C_Fault) "__call__" = some (some (.builtin "type.__call__")))
    (xy_Fault : PySem.W.typeIn K (.ref C_Fault) = some (.type "type"))
    (xq_Fault : PySem.W.instIn K (.ref C_Fault) (.type "type") = some true)
    (xi_Fault : PySem.W.findIn K (.ref C_Fault) "__init__" = some (some (.ref fI_Fault)))
    (xL_Fault : K.lookup fI_Fault = some ⟨oi_Fault, odi_Fault, .func (PySem.W.fnOf "__init__" "Fault.__init__" (defArgs s_Fault) (defBody s_Fault) (defScope s_Fault) .none kVi_Fault dci_Fault pmi_Fault ani_Fault cdi_Fault cti_Fault), sli_Fault⟩)
    (xC_Fault : PySem.W.codeIn K cdi_Fault "Fault.__init__" = true)
    (xK_Fault : PySem.W.keepIn K (.ref fI_Fault) = true)
    (xP_Fault : PySem.W.keepIn K (.ref C_Fault) = true)
    (xF_Fault : PySem.W.isFn K (.ref fI_Fault) = true)
    (xN0_Fault : PySem.W.findIn K (.ref C_Fault) "word" = some none)
    (xN1_Fault : PySem.W.findIn K (.ref C_Fault) "what" = some none)
    (xO1 : PySem.W.specialIn K (.builtin "object.__class__") "__get__" = some (some (.builtin "getset_descriptor.__get__")))
    (xO2 : PySem.W.takesIn K (.builtin "object.__class__") = some true)
    (xD : ([C_BadSource, C_BadRow, C_BadText, C_BadPath, C_BadName, C_BadTemplate, C_BadNumber, C_BadDeed, C_NoLead, C_NoName, C_NoRead, C_BadKey, C_NoPath, C_NoPage, C_NoAddress, C_NoPart, C_TooMany, C_Taken, C_Fault] : List Addr).Nodup)
    (z_len : PySem.W.nsIn K mainGlobals "len" = some none)
    (z_abs : PySem.W.nsIn K mainGlobals "abs" = some none)
    (z_int : PySem.W.nsIn K mainGlobals "int" = some none)
    (z_str : PySem.W.nsIn K mainGlobals "str" = some none)
    (z_bool : PySem.W.nsIn K mainGlobals "bool" = some none)
    (z_list : PySem.W.nsIn K mainGlobals "list" = some none)
    (z_tuple : PySem.W.nsIn K mainGlobals "tuple" = some none)
    (z_all : PySem.W.nsIn K mainGlobals "all" = some none)
    (z_range : PySem.W.nsIn K mainGlobals "range" = some none)
    (z_zip : PySem.W.nsIn K mainGlobals "zip" = some none)
    (z_enumerate : PySem.W.nsIn K mainGlobals "enumerate" = some none)
    (z_isinstance : PySem.W.nsIn K mainGlobals "isinstance" = some none)
    (z_ValueError : PySem.W.nsIn K mainGlobals "ValueError" = some none)
    (z_KeyError : PySem.W.nsIn K mainGlobals "KeyError" = some none)
    (z_LookupError : PySem.W.nsIn K mainGlobals "LookupError" = some none)
    (z_IndexError : PySem.W.nsIn K mainGlobals "IndexError" = some none)
    (z_RuntimeError : PySem.W.nsIn K mainGlobals "RuntimeError" = some none)
    (z_ArithmeticError : PySem.W.nsIn K mainGlobals "ArithmeticError" = some none)
    (z_OverflowError : PySem.W.nsIn K mainGlobals "OverflowError" = some none)
      :
    ∃ fd : FuncData, (∀ (s : Shared) (v : Value), BindsTo s fd ⟨[v], []⟩ [("_law_script", v)]) ∧ ∀ base : Heap, K.In base → base.Ns mainGlobals mg → FnOk l.prog w K mg base CX0 0 6 fa fd ["_law_script"] (spLaw K) := by
  have e := hfa.symm.trans (PySem.W.mg_of X G a11)
  cases e
  have T : Txt mg := ⟨PySem.W.mg_none_of X G z_len, PySem.W.mg_none_of X G z_abs, PySem.W.mg_none_of X G z_int, PySem.W.mg_none_of X G z_str, PySem.W.mg_none_of X G z_bool, PySem.W.mg_none_of X G z_list, PySem.W.mg_none_of X G z_tuple, PySem.W.mg_none_of X G z_all, PySem.W.mg_none_of X G z_range, PySem.W.mg_none_of X G z_zip, PySem.W.mg_none_of X G z_enumerate, PySem.W.mg_none_of X G z_isinstance, PySem.W.mg_none_of X G z_ValueError, PySem.W.mg_none_of X G z_KeyError, PySem.W.mg_none_of X G z_LookupError, PySem.W.mg_none_of X G z_IndexError, PySem.W.mg_none_of X G z_RuntimeError, PySem.W.mg_none_of X G z_ArithmeticError, PySem.W.mg_none_of X G z_OverflowError⟩
  have F0 := fun_mk (st := s__law_dip) l0 c0 k0
  have b0 := F0.binds (ps := ["_law_script", "_law_k"]) fun _ _ _ _ _ _ us hl => match us, hl with | [_, _], _ => rfl
  have F1 := fun_mk (st := s__law_take) l1 c1 k1
  have b1 := F1.binds (ps := ["_law_box", "_law_wide"]) fun _ _ _ _ _ _ us hl => match us, hl with | [_, _], _ => rfl
  have F2 := fun_mk (st := s__law_folded) l2 c2 k2
  have b2 := F2.binds (ps := ["_law_script", "_law_size"]) fun _ _ _ _ _ _ us hl => match us, hl with | [_, _], _ => rfl
  have F3 := fun_mk (st := s__law_same) l3 c3 k3
  have b3 := F3.binds (ps := ["_law_found", "_law_due"]) fun _ _ _ _ _ _ us hl => match us, hl with | [_, _], _ => rfl
  have F4 := fun_mk (st := s__law_own) l4 c4 k4
  have b4 := F4.binds (ps := ["_law_one"]) fun _ _ _ _ _ _ us hl => match us, hl with | [_], _ => rfl
  have q4 := kb_one F4 b4 (fun _ _ _ _ _ _ _ => rfl)
  have F5 := fun_mk (st := s__law_over) l5 c5 k5
  have b5 := F5.binds (ps := ["_law_one"]) fun _ _ _ _ _ _ us hl => match us, hl with | [_], _ => rfl
  have q5 := kb_one F5 b5 (fun _ _ _ _ _ _ _ => rfl)
  have F6 := fun_mk (st := s__law_made) l6 c6 k6
  have b6 := F6.binds (ps := ["_law_a", "_law_b"]) fun _ _ _ _ _ _ us hl => match us, hl with | [_, _], _ => rfl
  have F7 := fun_mk (st := s__law_called) l7 c7 k7
  have b7 := F7.binds (ps := ["_law_a", "_law_b"]) fun _ _ _ _ _ _ us hl => match us, hl with | [_, _], _ => rfl
  have F8 := fun_mk (st := s__law_fields) l8 c8 k8
  have b8 := F8.binds (ps := ["_law_some"]) fun _ _ _ _ _ _ us hl => match us, hl with | [_], _ => rfl
  have q8 := kb_one F8 b8 (fun _ _ _ _ _ _ _ => rfl)
  have F9 := fun_mk (st := s__law_thing) l9 c9 k9
  have b9 := F9.binds (ps := ["_law_box"]) fun _ _ _ _ _ _ us hl => match us, hl with | [_], _ => rfl
  have q9 := kb_one F9 b9 (fun _ _ _ _ _ _ _ => rfl)
  have F10 := fun_mk (st := s__law_right) l10 c10 k10
  have b10 := F10.binds (ps := ["_law_a", "_law_b"]) fun _ _ _ _ _ _ us hl => match us, hl with | [_, _], _ => rfl
  have F11 := fun_mk (st := s_law) l11 c11 k11
  have b11 := F11.binds (ps := ["_law_script"]) fun _ _ _ _ _ _ us hl => match us, hl with | [_], _ => rfl
  have q11 := kb_one F11 b11 (fun _ _ _ _ _ _ _ => rfl)
  refine ⟨PySem.W.fnOf "law" "law" (defArgs s_law) (defBody s_law) (defScope s_law) .none kV11 dc11 pm11 an11 cd11 ct11, fun s v => .of_eq rfl, fun base _ _ => ?_⟩
  have hcl_BadSource := xcls_mk xb_ValueError xn_BadSource xl_BadSource xm_BadSource.1 xm_BadSource.2.2.2.1 xg_BadSource xt_BadSource xk_BadSource xO1 xO2
  have hst_BadSource := xst_mk sf_ValueError xl_BadSource xm_BadSource.1 xm_BadSource.2.2.2.1 xs_BadSource
  have hmk_BadSource := makesX_mk xb_ValueError xl_BadSource xm_BadSource.1 xm_BadSource.2.1 xm_BadSource.2.2.1 xm_BadSource.2.2.2.2 xc_BadSource xq_BadSource
  have hF_BadSource := fun_mk (st := s_BadSource) xL_BadSource xC_BadSource xK_BadSource
  have hfi_BadSource := fi_BadSource (P := l.prog) (w := w) (mg := mg) (base := base) hF_BadSource hst_BadSource xN0_BadSource
  have hb_BadSource := hF_BadSource.binds (ps := ["self", "part"]) fun _ _ _ _ _ _ us hl => match us, hl with | [_, _], _ => rfl
  have hx_BadSource := hasX_mk (P := l.prog) (w := w) (mg := mg) (base := base) (gs := ["part"]) hcl_BadSource (PySem.W.mg_of X G xn_BadSource) (fun x hx => by rw [List.mem_singleton.mp hx]; exact xN0_BadSource) (mkx_mk PySem.F.excBase_ValueError hmk_BadSource xi_BadSource xF_BadSource xP_BadSource (by decide) fun us ws h1 h2 => match us, ws, h1, h2 with | [u], [], _, _ => ca_ValueError0 _ u) hfi_BadSource hb_BadSource
  have hk_BadSource := hasX_kw1 (P := l.prog) (w := w) (mg := mg) (base := base) (g := "part") hcl_BadSource (PySem.W.mg_of X G xn_BadSource) xN0_BadSource (mkx_mk PySem.F.excBase_ValueError hmk_BadSource xi_BadSource xF_BadSource xP_BadSource (by decide) fun us ws h1 h2 => match us, ws, h1, h2 with | [], [u], _, _ => ck_BadSource _ u) hfi_BadSource (fun s u v hK => .of_eq rfl)
  have hI_BadSource := (⟨xn_BadSource, ⟨_, _, _, _, xl_BadSource, xm_BadSource.1⟩, xy_BadSource, fun a => rfl⟩ : CInfo K "BadSource" (C_BadSource, bm_ValueError))
  have hcl_BadRow := xcls_mk xb_ValueError xn_BadRow xl_BadRow xm_BadRow.1 xm_BadRow.2.2.2.1 xg_BadRow xt_BadRow xk_BadRow xO1 xO2
  have hst_BadRow := xst_mk sf_ValueError xl_BadRow xm_BadRow.1 xm_BadRow.2.2.2.1 xs_BadRow
  have hmk_BadRow := makesX_mk xb_ValueError xl_BadRow xm_BadRow.1 xm_BadRow.2.1 xm_BadRow.2.2.1 xm_BadRow.2.2.2.2 xc_BadRow xq_BadRow
  have hF_BadRow := fun_mk (st := s_BadRow) xL_BadRow xC_BadRow xK_BadRow
  have hfi_BadRow := fi_BadRow (P := l.prog) (w := w) (mg := mg) (base := base) hF_BadRow hst_BadRow xN0_BadRow
  have hb_BadRow := hF_BadRow.binds (ps := ["self", "row"]) fun _ _ _ _ _ _ us hl => match us, hl with | [_, _], _ => rfl
  have hx_BadRow := hasX_mk (P := l.prog) (w := w) (mg := mg) (base := base) (gs := ["row"]) hcl_BadRow (PySem.W.mg_of X G xn_BadRow) (fun x hx => by rw [List.mem_singleton.mp hx]; exact xN0_BadRow) (mkx_mk PySem.F.excBase_ValueError hmk_BadRow xi_BadRow xF_BadRow xP_BadRow (by decide) fun us ws h1 h2 => match us, ws, h1, h2 with | [u], [], _, _ => ca_ValueError0 _ u) hfi_BadRow hb_BadRow
  have hk_BadRow := hasX_kw1 (P := l.prog) (w := w) (mg := mg) (base := base) (g := "row") hcl_BadRow (PySem.W.mg_of X G xn_BadRow) xN0_BadRow (mkx_mk PySem.F.excBase_ValueError hmk_BadRow xi_BadRow xF_BadRow xP_BadRow (by decide) fun us ws h1 h2 => match us, ws, h1, h2 with | [], [u], _, _ => ck_BadRow _ u) hfi_BadRow (fun s u v hK => .of_eq rfl)
  have hI_BadRow := (⟨xn_BadRow, ⟨_, _, _, _, xl_BadRow, xm_BadRow.1⟩, xy_BadRow, fun a => rfl⟩ : CInfo K "BadRow" (C_BadRow, bm_ValueError))
  have hcl_BadText := xcls_mk xb_ValueError xn_BadText xl_BadText xm_BadText.1 xm_BadText.2.2.2.1 xg_BadText xt_BadText xk_BadText xO1 xO2
  have hst_BadText := xst_mk sf_ValueError xl_BadText xm_BadText.1 xm_BadText.2.2.2.1 xs_BadText
  have hmk_BadText := makesX_mk xb_ValueError xl_BadText xm_BadText.1 xm_BadText.2.1 xm_BadText.2.2.1 xm_BadText.2.2.2.2 xc_BadText xq_BadText
  have hF_BadText := fun_mk (st := s_BadText) xL_BadText xC_BadText xK_BadText
  have hfi_BadText := fi_BadText (P := l.prog) (w := w) (mg := mg) (base := base) hF_BadText hst_BadText xN0_BadText
  have hb_BadText := hF_BadText.binds (ps := ["self", "at"]) fun _ _ _ _ _ _ us hl => match us, hl with | [_, _], _ => rfl
  have hx_BadText := hasX_mk (P := l.prog) (w := w) (mg := mg) (base := base) (gs := ["at"]) hcl_BadText (PySem.W.mg_of X G xn_BadText) (fun x hx => by rw [List.mem_singleton.mp hx]; exact xN0_BadText) (mkx_mk PySem.F.excBase_ValueError hmk_BadText xi_BadText xF_BadText xP_BadText (by decide) fun us ws h1 h2 => match us, ws, h1, h2 with | [u], [], _, _ => ca_ValueError0 _ u) hfi_BadText hb_BadText
  have hk_BadText := hasX_kw1 (P := l.prog) (w := w) (mg := mg) (base := base) (g := "at") hcl_BadText (PySem.W.mg_of X G xn_BadText) xN0_BadText (mkx_mk PySem.F.excBase_ValueError hmk_BadText xi_BadText xF_BadText xP_BadText (by decide) fun us ws h1 h2 => match us, ws, h1, h2 with | [], [u], _, _ => ck_BadText _ u) hfi_BadText (fun s u v hK => .of_eq rfl)
  have hI_BadText := (⟨xn_BadText, ⟨_, _, _, _, xl_BadText, xm_BadText.1⟩, xy_BadText, fun a => rfl⟩ : CInfo K "BadText" (C_BadText, bm_ValueError))
  have hcl_BadPath := xcls_mk xb_ValueError xn_BadPath xl_BadPath xm_BadPath.1 xm_BadPath.2.2.2.1 xg_BadPath xt_BadPath xk_BadPath xO1 xO2
  have hst_BadPath := xst_mk sf_ValueError xl_BadPath xm_BadPath.1 xm_BadPath.2.2.2.1 xs_BadPath
  have hmk_BadPath := makesX_mk xb_ValueError xl_BadPath xm_BadPath.1 xm_BadPath.2.1 xm_BadPath.2.2.1 xm_BadPath.2.2.2.2 xc_BadPath xq_BadPath
  have hF_BadPath := fun_mk (st := s_BadPath) xL_BadPath xC_BadPath xK_BadPath
  have hfi_BadPath := fi_BadPath (P := l.prog) (w := w) (mg := mg) (base := base) hF_BadPath hst_BadPath xN0_BadPath
  have hb_BadPath := hF_BadPath.binds (ps := ["self", "path"]) fun _ _ _ _ _ _ us hl => match us, hl with | [_, _], _ => rfl
  have hx_BadPath := hasX_mk (P := l.prog) (w := w) (mg := mg) (base := base) (gs := ["path"]) hcl_BadPath (PySem.W.mg_of X G xn_BadPath) (fun x hx => by rw [List.mem_singleton.mp hx]; exact xN0_BadPath) (mkx_mk PySem.F.excBase_ValueError hmk_BadPath xi_BadPath xF_BadPath xP_BadPath (by decide) fun us ws h1 h2 => match us, ws, h1, h2 with | [u], [], _, _ => ca_ValueError0 _ u) hfi_BadPath hb_BadPath
  have hk_BadPath := hasX_kw1 (P := l.prog) (w := w) (mg := mg) (base := base) (g := "path") hcl_BadPath (PySem.W.mg_of X G xn_BadPath) xN0_BadPath (mkx_mk PySem.F.excBase_ValueError hmk_BadPath xi_BadPath xF_BadPath xP_BadPath (by decide) fun us ws h1 h2 => match us, ws, h1, h2 with | [], [u], _, _ => ck_BadPath _ u) hfi_BadPath (fun s u v hK => .of_eq rfl)
  have hI_BadPath := (⟨xn_BadPath, ⟨_, _, _, _, xl_BadPath, xm_BadPath.1⟩, xy_BadPath, fun a => rfl⟩ : CInfo K "BadPath" (C_BadPath, bm_ValueError))
  have hcl_BadName := xcls_mk xb_ValueError xn_BadName xl_BadName xm_BadName.1 xm_BadName.2.2.2.1 xg_BadName xt_BadName xk_BadName xO1 xO2
  have hst_BadName := xst_mk sf_ValueError xl_BadName xm_BadName.1 xm_BadName.2.2.2.1 xs_BadName
  have hmk_BadName := makesX_mk xb_ValueError xl_BadName xm_BadName.1 xm_BadName.2.1 xm_BadName.2.2.1 xm_BadName.2.2.2.2 xc_BadName xq_BadName
  have hF_BadName := fun_mk (st := s_BadName) xL_BadName xC_BadName xK_BadName
  have hfi_BadName := fi_BadName (P := l.prog) (w := w) (mg := mg) (base := base) hF_BadName hst_BadName xN0_BadName
  have hb_BadName := hF_BadName.binds (ps := ["self", "name"]) fun _ _ _ _ _ _ us hl => match us, hl with | [_, _], _ => rfl
  have hx_BadName := hasX_mk (P := l.prog) (w := w) (mg := mg) (base := base) (gs := ["name"]) hcl_BadName (PySem.W.mg_of X G xn_BadName) (fun x hx => by rw [List.mem_singleton.mp hx]; exact xN0_BadName) (mkx_mk PySem.F.excBase_ValueError hmk_BadName xi_BadName xF_BadName xP_BadName (by decide) fun us ws h1 h2 => match us, ws, h1, h2 with | [u], [], _, _ => ca_ValueError0 _ u) hfi_BadName hb_BadName
  have hk_BadName := hasX_kw1 (P := l.prog) (w := w) (mg := mg) (base := base) (g := "name") hcl_BadName (PySem.W.mg_of X G xn_BadName) xN0_BadName (mkx_mk PySem.F.excBase_ValueError hmk_BadName xi_BadName xF_BadName xP_BadName (by decide) fun us ws h1 h2 => match us, ws, h1, h2 with | [], [u], _, _ => ck_BadName _ u) hfi_BadName (fun s u v hK => .of_eq rfl)
  have hI_BadName := (⟨xn_BadName, ⟨_, _, _, _, xl_BadName, xm_BadName.1⟩, xy_BadName, fun a => rfl⟩ : CInfo K "BadName" (C_BadName, bm_ValueError))
  have hcl_BadTemplate := xcls_mk xb_ValueError xn_BadTemplate xl_BadTemplate xm_BadTemplate.1 xm_BadTemplate.2.2.2.1 xg_BadTemplate xt_BadTemplate xk_BadTemplate xO1 xO2
  have hst_BadTemplate := xst_mk sf_ValueError xl_BadTemplate xm_BadTemplate.1 xm_BadTemplate.2.2.2.1 xs_BadTemplate
  have hmk_BadTemplate := makesX_mk xb_ValueError xl_BadTemplate xm_BadTemplate.1 xm_BadTemplate.2.1 xm_BadTemplate.2.2.1 xm_BadTemplate.2.2.2.2 xc_BadTemplate xq_BadTemplate
  have hF_BadTemplate := fun_mk (st := s_BadTemplate) xL_BadTemplate xC_BadTemplate xK_BadTemplate
  have hfi_BadTemplate := fi_BadTemplate (P := l.prog) (w := w) (mg := mg) (base := base) hF_BadTemplate hst_BadTemplate xN0_BadTemplate
  have hb_BadTemplate := hF_BadTemplate.binds (ps := ["self", "name"]) fun _ _ _ _ _ _ us hl => match us, hl with | [_, _], _ => rfl
  have hx_BadTemplate := hasX_mk (P := l.prog) (w := w) (mg := mg) (base := base) (gs := ["name"]) hcl_BadTemplate (PySem.W.mg_of X G xn_BadTemplate) (fun x hx => by rw [List.mem_singleton.mp hx]; exact xN0_BadTemplate) (mkx_mk PySem.F.excBase_ValueError hmk_BadTemplate xi_BadTemplate xF_BadTemplate xP_BadTemplate (by decide) fun us ws h1 h2 => match us, ws, h1, h2 with | [u], [], _, _ => ca_ValueError0 _ u) hfi_BadTemplate hb_BadTemplate
  have hk_BadTemplate := hasX_kw1 (P := l.prog) (w := w) (mg := mg) (base := base) (g := "name") hcl_BadTemplate (PySem.W.mg_of X G xn_BadTemplate) xN0_BadTemplate (mkx_mk PySem.F.excBase_ValueError hmk_BadTemplate xi_BadTemplate xF_BadTemplate xP_BadTemplate (by decide) fun us ws h1 h2 => match us, ws, h1, h2 with | [], [u], _, _ => ck_BadTemplate _ u) hfi_BadTemplate (fun s u v hK => .of_eq rfl)
  have hI_BadTemplate := (⟨xn_BadTemplate, ⟨_, _, _, _, xl_BadTemplate, xm_BadTemplate.1⟩, xy_BadTemplate, fun a => rfl⟩ : CInfo K "BadTemplate" (C_BadTemplate, bm_ValueError))
  have hcl_BadNumber := xcls_mk xb_ValueError xn_BadNumber xl_BadNumber xm_BadNumber.1 xm_BadNumber.2.2.2.1 xg_BadNumber xt_BadNumber xk_BadNumber xO1 xO2
  have hst_BadNumber := xst_mk sf_ValueError xl_BadNumber xm_BadNumber.1 xm_BadNumber.2.2.2.1 xs_BadNumber
  have hmk_BadNumber := makesX_mk xb_ValueError xl_BadNumber xm_BadNumber.1 xm_BadNumber.2.1 xm_BadNumber.2.2.1 xm_BadNumber.2.2.2.2 xc_BadNumber xq_BadNumber
  have hF_BadNumber := fun_mk (st := s_BadNumber) xL_BadNumber xC_BadNumber xK_BadNumber
  have hfi_BadNumber := fi_BadNumber (P := l.prog) (w := w) (mg := mg) (base := base) hF_BadNumber hst_BadNumber xN0_BadNumber
  have hb_BadNumber := hF_BadNumber.binds (ps := ["self", "number"]) fun _ _ _ _ _ _ us hl => match us, hl with | [_, _], _ => rfl
  have hx_BadNumber := hasX_mk (P := l.prog) (w := w) (mg := mg) (base := base) (gs := ["number"]) hcl_BadNumber (PySem.W.mg_of X G xn_BadNumber) (fun x hx => by rw [List.mem_singleton.mp hx]; exact xN0_BadNumber) (mkx_mk PySem.F.excBase_ValueError hmk_BadNumber xi_BadNumber xF_BadNumber xP_BadNumber (by decide) fun us ws h1 h2 => match us, ws, h1, h2 with | [u], [], _, _ => ca_ValueError0 _ u) hfi_BadNumber hb_BadNumber
  have hk_BadNumber := hasX_kw1 (P := l.prog) (w := w) (mg := mg) (base := base) (g := "number") hcl_BadNumber (PySem.W.mg_of X G xn_BadNumber) xN0_BadNumber (mkx_mk PySem.F.excBase_ValueError hmk_BadNumber xi_BadNumber xF_BadNumber xP_BadNumber (by decide) fun us ws h1 h2 => match us, ws, h1, h2 with | [], [u], _, _ => ck_BadNumber _ u) hfi_BadNumber (fun s u v hK => .of_eq rfl)
  have hI_BadNumber := (⟨xn_BadNumber, ⟨_, _, _, _, xl_BadNumber, xm_BadNumber.1⟩, xy_BadNumber, fun a => rfl⟩ : CInfo K "BadNumber" (C_BadNumber, bm_ValueError))
  have hcl_BadDeed := xcls_mk xb_ValueError xn_BadDeed xl_BadDeed xm_BadDeed.1 xm_BadDeed.2.2.2.1 xg_BadDeed xt_BadDeed xk_BadDeed xO1 xO2
  have hst_BadDeed := xst_mk sf_ValueError xl_BadDeed xm_BadDeed.1 xm_BadDeed.2.2.2.1 xs_BadDeed
  have hmk_BadDeed := makesX_mk xb_ValueError xl_BadDeed xm_BadDeed.1 xm_BadDeed.2.1 xm_BadDeed.2.2.1 xm_BadDeed.2.2.2.2 xc_BadDeed xq_BadDeed
  have hF_BadDeed := fun_mk (st := s_BadDeed) xL_BadDeed xC_BadDeed xK_BadDeed
  have hfi_BadDeed := fi_BadDeed (P := l.prog) (w := w) (mg := mg) (base := base) hF_BadDeed hst_BadDeed xN0_BadDeed
  have hb_BadDeed := hF_BadDeed.binds (ps := ["self", "number"]) fun _ _ _ _ _ _ us hl => match us, hl with | [_, _], _ => rfl
  have hx_BadDeed := hasX_mk (P := l.prog) (w := w) (mg := mg) (base := base) (gs := ["number"]) hcl_BadDeed (PySem.W.mg_of X G xn_BadDeed) (fun x hx => by rw [List.mem_singleton.mp hx]; exact xN0_BadDeed) (mkx_mk PySem.F.excBase_ValueError hmk_BadDeed xi_BadDeed xF_BadDeed xP_BadDeed (by decide) fun us ws h1 h2 => match us, ws, h1, h2 with | [u], [], _, _ => ca_ValueError0 _ u) hfi_BadDeed hb_BadDeed
  have hk_BadDeed := hasX_kw1 (P := l.prog) (w := w) (mg := mg) (base := base) (g := "number") hcl_BadDeed (PySem.W.mg_of X G xn_BadDeed) xN0_BadDeed (mkx_mk PySem.F.excBase_ValueError hmk_BadDeed xi_BadDeed xF_BadDeed xP_BadDeed (by decide) fun us ws h1 h2 => match us, ws, h1, h2 with | [], [u], _, _ => ck_BadDeed _ u) hfi_BadDeed (fun s u v hK => .of_eq rfl)
  have hI_BadDeed := (⟨xn_BadDeed, ⟨_, _, _, _, xl_BadDeed, xm_BadDeed.1⟩, xy_BadDeed, fun a => rfl⟩ : CInfo K "BadDeed" (C_BadDeed, bm_ValueError))
  have hcl_NoLead := xcls_mk xb_KeyError xn_NoLead xl_NoLead xm_NoLead.1 xm_NoLead.2.2.2.1 xg_NoLead xt_NoLead xk_NoLead xO1 xO2
  have hst_NoLead := xst_mk sf_KeyError xl_NoLead xm_NoLead.1 xm_NoLead.2.2.2.1 xs_NoLead
  have hmk_NoLead := makesX_mk xb_KeyError xl_NoLead xm_NoLead.1 xm_NoLead.2.1 xm_NoLead.2.2.1 xm_NoLead.2.2.2.2 xc_NoLead xq_NoLead
  have hF_NoLead := fun_mk (st := s_NoLead) xL_NoLead xC_NoLead xK_NoLead
  have hfi_NoLead := fi_NoLead (P := l.prog) (w := w) (mg := mg) (base := base) hF_NoLead hst_NoLead xN0_NoLead
  have hb_NoLead := hF_NoLead.binds (ps := ["self", "path"]) fun _ _ _ _ _ _ us hl => match us, hl with | [_, _], _ => rfl
  have hx_NoLead := hasX_mk (P := l.prog) (w := w) (mg := mg) (base := base) (gs := ["path"]) hcl_NoLead (PySem.W.mg_of X G xn_NoLead) (fun x hx => by rw [List.mem_singleton.mp hx]; exact xN0_NoLead) (mkx_mk PySem.F.excBase_LookupError hmk_NoLead xi_NoLead xF_NoLead xP_NoLead (by decide) fun us ws h1 h2 => match us, ws, h1, h2 with | [u], [], _, _ => ca_LookupError0 _ u) hfi_NoLead hb_NoLead
  have hk_NoLead := hasX_kw1 (P := l.prog) (w := w) (mg := mg) (base := base) (g := "path") hcl_NoLead (PySem.W.mg_of X G xn_NoLead) xN0_NoLead (mkx_mk PySem.F.excBase_LookupError hmk_NoLead xi_NoLead xF_NoLead xP_NoLead (by decide) fun us ws h1 h2 => match us, ws, h1, h2 with | [], [u], _, _ => ck_NoLead _ u) hfi_NoLead (fun s u v hK => .of_eq rfl)
  have hI_NoLead := (⟨xn_NoLead, ⟨_, _, _, _, xl_NoLead, xm_NoLead.1⟩, xy_NoLead, fun a => rfl⟩ : CInfo K "NoLead" (C_NoLead, bm_KeyError))
  have hcl_NoName := xcls_mk xb_KeyError xn_NoName xl_NoName xm_NoName.1 xm_NoName.2.2.2.1 xg_NoName xt_NoName xk_NoName xO1 xO2
  have hst_NoName := xst_mk sf_KeyError xl_NoName xm_NoName.1 xm_NoName.2.2.2.1 xs_NoName
  have hmk_NoName := makesX_mk xb_KeyError xl_NoName xm_NoName.1 xm_NoName.2.1 xm_NoName.2.2.1 xm_NoName.2.2.2.2 xc_NoName xq_NoName
  have hF_NoName := fun_mk (st := s_NoName) xL_NoName xC_NoName xK_NoName
  have hfi_NoName := fi_NoName (P := l.prog) (w := w) (mg := mg) (base := base) hF_NoName hst_NoName xN0_NoName
  have hb_NoName := hF_NoName.binds (ps := ["self", "name"]) fun _ _ _ _ _ _ us hl => match us, hl with | [_, _], _ => rfl
  have hx_NoName := hasX_mk (P := l.prog) (w := w) (mg := mg) (base := base) (gs := ["name"]) hcl_NoName (PySem.W.mg_of X G xn_NoName) (fun x hx => by rw [List.mem_singleton.mp hx]; exact xN0_NoName) (mkx_mk PySem.F.excBase_LookupError hmk_NoName xi_NoName xF_NoName xP_NoName (by decide) fun us ws h1 h2 => match us, ws, h1, h2 with | [u], [], _, _ => ca_LookupError0 _ u) hfi_NoName hb_NoName
  have hk_NoName := hasX_kw1 (P := l.prog) (w := w) (mg := mg) (base := base) (g := "name") hcl_NoName (PySem.W.mg_of X G xn_NoName) xN0_NoName (mkx_mk PySem.F.excBase_LookupError hmk_NoName xi_NoName xF_NoName xP_NoName (by decide) fun us ws h1 h2 => match us, ws, h1, h2 with | [], [u], _, _ => ck_NoName _ u) hfi_NoName (fun s u v hK => .of_eq rfl)
  have hI_NoName := (⟨xn_NoName, ⟨_, _, _, _, xl_NoName, xm_NoName.1⟩, xy_NoName, fun a => rfl⟩ : CInfo K "NoName" (C_NoName, bm_KeyError))
  have hcl_NoRead := xcls_mk xb_KeyError xn_NoRead xl_NoRead xm_NoRead.1 xm_NoRead.2.2.2.1 xg_NoRead xt_NoRead xk_NoRead xO1 xO2
  have hst_NoRead := xst_mk sf_KeyError xl_NoRead xm_NoRead.1 xm_NoRead.2.2.2.1 xs_NoRead
  have hmk_NoRead := makesX_mk xb_KeyError xl_NoRead xm_NoRead.1 xm_NoRead.2.1 xm_NoRead.2.2.1 xm_NoRead.2.2.2.2 xc_NoRead xq_NoRead
  have hF_NoRead := fun_mk (st := s_NoRead) xL_NoRead xC_NoRead xK_NoRead
  have hfi_NoRead := fi_NoRead (P := l.prog) (w := w) (mg := mg) (base := base) hF_NoRead hst_NoRead xN0_NoRead
  have hb_NoRead := hF_NoRead.binds (ps := ["self", "key"]) fun _ _ _ _ _ _ us hl => match us, hl with | [_, _], _ => rfl
  have hx_NoRead := hasX_mk (P := l.prog) (w := w) (mg := mg) (base := base) (gs := ["key"]) hcl_NoRead (PySem.W.mg_of X G xn_NoRead) (fun x hx => by rw [List.mem_singleton.mp hx]; exact xN0_NoRead) (mkx_mk PySem.F.excBase_LookupError hmk_NoRead xi_NoRead xF_NoRead xP_NoRead (by decide) fun us ws h1 h2 => match us, ws, h1, h2 with | [u], [], _, _ => ca_LookupError0 _ u) hfi_NoRead hb_NoRead
  have hk_NoRead := hasX_kw1 (P := l.prog) (w := w) (mg := mg) (base := base) (g := "key") hcl_NoRead (PySem.W.mg_of X G xn_NoRead) xN0_NoRead (mkx_mk PySem.F.excBase_LookupError hmk_NoRead xi_NoRead xF_NoRead xP_NoRead (by decide) fun us ws h1 h2 => match us, ws, h1, h2 with | [], [u], _, _ => ck_NoRead _ u) hfi_NoRead (fun s u v hK => .of_eq rfl)
  have hI_NoRead := (⟨xn_NoRead, ⟨_, _, _, _, xl_NoRead, xm_NoRead.1⟩, xy_NoRead, fun a => rfl⟩ : CInfo K "NoRead" (C_NoRead, bm_KeyError))
  have hcl_BadKey := xcls_mk xb_KeyError xn_BadKey xl_BadKey xm_BadKey.1 xm_BadKey.2.2.2.1 xg_BadKey xt_BadKey xk_BadKey xO1 xO2
  have hst_BadKey := xst_mk sf_KeyError xl_BadKey xm_BadKey.1 xm_BadKey.2.2.2.1 xs_BadKey
  have hmk_BadKey := makesX_mk xb_KeyError xl_BadKey xm_BadKey.1 xm_BadKey.2.1 xm_BadKey.2.2.1 xm_BadKey.2.2.2.2 xc_BadKey xq_BadKey
  have hF_BadKey := fun_mk (st := s_BadKey) xL_BadKey xC_BadKey xK_BadKey
  have hfi_BadKey := fi_BadKey (P := l.prog) (w := w) (mg := mg) (base := base) hF_BadKey hst_BadKey xN0_BadKey
  have hb_BadKey := hF_BadKey.binds (ps := ["self", "key"]) fun _ _ _ _ _ _ us hl => match us, hl with | [_, _], _ => rfl
  have hx_BadKey := hasX_mk (P := l.prog) (w := w) (mg := mg) (base := base) (gs := ["key"]) hcl_BadKey (PySem.W.mg_of X G xn_BadKey) (fun x hx => by rw [List.mem_singleton.mp hx]; exact xN0_BadKey) (mkx_mk PySem.F.excBase_LookupError hmk_BadKey xi_BadKey xF_BadKey xP_BadKey (by decide) fun us ws h1 h2 => match us, ws, h1, h2 with | [u], [], _, _ => ca_LookupError0 _ u) hfi_BadKey hb_BadKey
  have hk_BadKey := hasX_kw1 (P := l.prog) (w := w) (mg := mg) (base := base) (g := "key") hcl_BadKey (PySem.W.mg_of X G xn_BadKey) xN0_BadKey (mkx_mk PySem.F.excBase_LookupError hmk_BadKey xi_BadKey xF_BadKey xP_BadKey (by decide) fun us ws h1 h2 => match us, ws, h1, h2 with | [], [u], _, _ => ck_BadKey _ u) hfi_BadKey (fun s u v hK => .of_eq rfl)
  have hI_BadKey := (⟨xn_BadKey, ⟨_, _, _, _, xl_BadKey, xm_BadKey.1⟩, xy_BadKey, fun a => rfl⟩ : CInfo K "BadKey" (C_BadKey, bm_KeyError))
  have hcl_NoPath := xcls_mk xb_LookupError xn_NoPath xl_NoPath xm_NoPath.1 xm_NoPath.2.2.2.1 xg_NoPath xt_NoPath xk_NoPath xO1 xO2
  have hst_NoPath := xst_mk sf_LookupError xl_NoPath xm_NoPath.1 xm_NoPath.2.2.2.1 xs_NoPath
  have hmk_NoPath := makesX_mk xb_LookupError xl_NoPath xm_NoPath.1 xm_NoPath.2.1 xm_NoPath.2.2.1 xm_NoPath.2.2.2.2 xc_NoPath xq_NoPath
  have hF_NoPath := fun_mk (st := s_NoPath) xL_NoPath xC_NoPath xK_NoPath
  have hfi_NoPath := fi_NoPath (P := l.prog) (w := w) (mg := mg) (base := base) hF_NoPath hst_NoPath xN0_NoPath
  have hb_NoPath := hF_NoPath.binds (ps := ["self", "path"]) fun _ _ _ _ _ _ us hl => match us, hl with | [_, _], _ => rfl
  have hx_NoPath := hasX_mk (P := l.prog) (w := w) (mg := mg) (base := base) (gs := ["path"]) hcl_NoPath (PySem.W.mg_of X G xn_NoPath) (fun x hx => by rw [List.mem_singleton.mp hx]; exact xN0_NoPath) (mkx_mk PySem.F.excBase_LookupError hmk_NoPath xi_NoPath xF_NoPath xP_NoPath (by decide) fun us ws h1 h2 => match us, ws, h1, h2 with | [u], [], _, _ => ca_LookupError0 _ u) hfi_NoPath hb_NoPath
  have hk_NoPath := hasX_kw1 (P := l.prog) (w := w) (mg := mg) (base := base) (g := "path") hcl_NoPath (PySem.W.mg_of X G xn_NoPath) xN0_NoPath (mkx_mk PySem.F.excBase_LookupError hmk_NoPath xi_NoPath xF_NoPath xP_NoPath (by decide) fun us ws h1 h2 => match us, ws, h1, h2 with | [], [u], _, _ => ck_NoPath _ u) hfi_NoPath (fun s u v hK => .of_eq rfl)
  have hI_NoPath := (⟨xn_NoPath, ⟨_, _, _, _, xl_NoPath, xm_NoPath.1⟩, xy_NoPath, fun a => rfl⟩ : CInfo K "NoPath" (C_NoPath, bm_LookupError))
  have hcl_NoPage := xcls_mk xb_LookupError xn_NoPage xl_NoPage xm_NoPage.1 xm_NoPage.2.2.2.1 xg_NoPage xt_NoPage xk_NoPage xO1 xO2
  have hst_NoPage := xst_mk sf_LookupError xl_NoPage xm_NoPage.1 xm_NoPage.2.2.2.1 xs_NoPage
  have hmk_NoPage := makesX_mk xb_LookupError xl_NoPage xm_NoPage.1 xm_NoPage.2.1 xm_NoPage.2.2.1 xm_NoPage.2.2.2.2 xc_NoPage xq_NoPage
  have hF_NoPage := fun_mk (st := s_NoPage) xL_NoPage xC_NoPage xK_NoPage
  have hfi_NoPage := fi_NoPage (P := l.prog) (w := w) (mg := mg) (base := base) hF_NoPage hst_NoPage xN0_NoPage
  have hb_NoPage := hF_NoPage.binds (ps := ["self", "path"]) fun _ _ _ _ _ _ us hl => match us, hl with | [_, _], _ => rfl
  have hx_NoPage := hasX_mk (P := l.prog) (w := w) (mg := mg) (base := base) (gs := ["path"]) hcl_NoPage (PySem.W.mg_of X G xn_NoPage) (fun x hx => by rw [List.mem_singleton.mp hx]; exact xN0_NoPage) (mkx_mk PySem.F.excBase_LookupError hmk_NoPage xi_NoPage xF_NoPage xP_NoPage (by decide) fun us ws h1 h2 => match us, ws, h1, h2 with | [u], [], _, _ => ca_LookupError0 _ u) hfi_NoPage hb_NoPage
  have hk_NoPage := hasX_kw1 (P := l.prog) (w := w) (mg := mg) (base := base) (g := "path") hcl_NoPage (PySem.W.mg_of X G xn_NoPage) xN0_NoPage (mkx_mk PySem.F.excBase_LookupError hmk_NoPage xi_NoPage xF_NoPage xP_NoPage (by decide) fun us ws h1 h2 => match us, ws, h1, h2 with | [], [u], _, _ => ck_NoPage _ u) hfi_NoPage (fun s u v hK => .of_eq rfl)
  have hI_NoPage := (⟨xn_NoPage, ⟨_, _, _, _, xl_NoPage, xm_NoPage.1⟩, xy_NoPage, fun a => rfl⟩ : CInfo K "NoPage" (C_NoPage, bm_LookupError))
  have hcl_NoAddress := xcls_mk xb_LookupError xn_NoAddress xl_NoAddress xm_NoAddress.1 xm_NoAddress.2.2.2.1 xg_NoAddress xt_NoAddress xk_NoAddress xO1 xO2
  have hst_NoAddress := xst_mk sf_LookupError xl_NoAddress xm_NoAddress.1 xm_NoAddress.2.2.2.1 xs_NoAddress
  have hmk_NoAddress := makesX_mk xb_LookupError xl_NoAddress xm_NoAddress.1 xm_NoAddress.2.1 xm_NoAddress.2.2.1 xm_NoAddress.2.2.2.2 xc_NoAddress xq_NoAddress
  have hF_NoAddress := fun_mk (st := s_NoAddress) xL_NoAddress xC_NoAddress xK_NoAddress
  have hfi_NoAddress := fi_NoAddress (P := l.prog) (w := w) (mg := mg) (base := base) hF_NoAddress hst_NoAddress xN0_NoAddress
  have hb_NoAddress := hF_NoAddress.binds (ps := ["self", "address"]) fun _ _ _ _ _ _ us hl => match us, hl with | [_, _], _ => rfl
  have hx_NoAddress := hasX_mk (P := l.prog) (w := w) (mg := mg) (base := base) (gs := ["address"]) hcl_NoAddress (PySem.W.mg_of X G xn_NoAddress) (fun x hx => by rw [List.mem_singleton.mp hx]; exact xN0_NoAddress) (mkx_mk PySem.F.excBase_LookupError hmk_NoAddress xi_NoAddress xF_NoAddress xP_NoAddress (by decide) fun us ws h1 h2 => match us, ws, h1, h2 with | [u], [], _, _ => ca_LookupError0 _ u) hfi_NoAddress hb_NoAddress
  have hk_NoAddress := hasX_kw1 (P := l.prog) (w := w) (mg := mg) (base := base) (g := "address") hcl_NoAddress (PySem.W.mg_of X G xn_NoAddress) xN0_NoAddress (mkx_mk PySem.F.excBase_LookupError hmk_NoAddress xi_NoAddress xF_NoAddress xP_NoAddress (by decide) fun us ws h1 h2 => match us, ws, h1, h2 with | [], [u], _, _ => ck_NoAddress _ u) hfi_NoAddress (fun s u v hK => .of_eq rfl)
  have hI_NoAddress := (⟨xn_NoAddress, ⟨_, _, _, _, xl_NoAddress, xm_NoAddress.1⟩, xy_NoAddress, fun a => rfl⟩ : CInfo K "NoAddress" (C_NoAddress, bm_LookupError))
  have hcl_NoPart := xcls_mk xb_IndexError xn_NoPart xl_NoPart xm_NoPart.1 xm_NoPart.2.2.2.1 xg_NoPart xt_NoPart xk_NoPart xO1 xO2
  have hst_NoPart := xst_mk sf_IndexError xl_NoPart xm_NoPart.1 xm_NoPart.2.2.2.1 xs_NoPart
  have hmk_NoPart := makesX_mk xb_IndexError xl_NoPart xm_NoPart.1 xm_NoPart.2.1 xm_NoPart.2.2.1 xm_NoPart.2.2.2.2 xc_NoPart xq_NoPart
  have hF_NoPart := fun_mk (st := s_NoPart) xL_NoPart xC_NoPart xK_NoPart
  have hfi_NoPart := fi_NoPart (P := l.prog) (w := w) (mg := mg) (base := base) hF_NoPart hst_NoPart xN0_NoPart xN1_NoPart
  have hb_NoPart := hF_NoPart.binds (ps := ["self", "tag", "number"]) fun _ _ _ _ _ _ us hl => match us, hl with | [_, _, _], _ => rfl
  have hx_NoPart := hasX_mk (P := l.prog) (w := w) (mg := mg) (base := base) (gs := ["tag", "number"]) hcl_NoPart (PySem.W.mg_of X G xn_NoPart) (fun x hx => (List.mem_cons.mp hx).elim (fun h => by rw [h]; exact xN0_NoPart) fun h => by rw [List.mem_singleton.mp h]; exact xN1_NoPart) (mkx_mk PySem.F.excBase_IndexError hmk_NoPart xi_NoPart xF_NoPart xP_NoPart (by decide) fun us ws h1 h2 => match us, ws, h1, h2 with | [u, v], [], _, _ => ca_IndexError00 _ u v) hfi_NoPart hb_NoPart
  have hk_NoPart := hasX_kw2 (P := l.prog) (w := w) (mg := mg) (base := base) (g := "tag") (g' := "number") hcl_NoPart (PySem.W.mg_of X G xn_NoPart) xN0_NoPart xN1_NoPart (mkx_mk PySem.F.excBase_IndexError hmk_NoPart xi_NoPart xF_NoPart xP_NoPart (by decide) fun us ws h1 h2 => match us, ws, h1, h2 with | [], [u, v], _, _ => ck_NoPart _ u v) hfi_NoPart (fun s u v v2 hK => .of_eq rfl)
  have hI_NoPart := (⟨xn_NoPart, ⟨_, _, _, _, xl_NoPart, xm_NoPart.1⟩, xy_NoPart, fun a => rfl⟩ : CInfo K "NoPart" (C_NoPart, bm_IndexError))
  have hcl_TooMany := xcls_mk xb_OverflowError xn_TooMany xl_TooMany xm_TooMany.1 xm_TooMany.2.2.2.1 xg_TooMany xt_TooMany xk_TooMany xO1 xO2
  have hst_TooMany := xst_mk sf_OverflowError xl_TooMany xm_TooMany.1 xm_TooMany.2.2.2.1 xs_TooMany
  have hmk_TooMany := makesX_mk xb_OverflowError xl_TooMany xm_TooMany.1 xm_TooMany.2.1 xm_TooMany.2.2.1 xm_TooMany.2.2.2.2 xc_TooMany xq_TooMany
  have hF_TooMany := fun_mk (st := s_TooMany) xL_TooMany xC_TooMany xK_TooMany
  have hfi_TooMany := fi_TooMany (P := l.prog) (w := w) (mg := mg) (base := base) hF_TooMany hst_TooMany xN0_TooMany
  have hb_TooMany := hF_TooMany.binds (ps := ["self", "many"]) fun _ _ _ _ _ _ us hl => match us, hl with | [_, _], _ => rfl
  have hx_TooMany := hasX_mk (P := l.prog) (w := w) (mg := mg) (base := base) (gs := ["many"]) hcl_TooMany (PySem.W.mg_of X G xn_TooMany) (fun x hx => by rw [List.mem_singleton.mp hx]; exact xN0_TooMany) (mkx_mk PySem.F.excBase_OverflowError hmk_TooMany xi_TooMany xF_TooMany xP_TooMany (by decide) fun us ws h1 h2 => match us, ws, h1, h2 with | [u], [], _, _ => ca_OverflowError0 _ u) hfi_TooMany hb_TooMany
  have hk_TooMany := hasX_kw1 (P := l.prog) (w := w) (mg := mg) (base := base) (g := "many") hcl_TooMany (PySem.W.mg_of X G xn_TooMany) xN0_TooMany (mkx_mk PySem.F.excBase_OverflowError hmk_TooMany xi_TooMany xF_TooMany xP_TooMany (by decide) fun us ws h1 h2 => match us, ws, h1, h2 with | [], [u], _, _ => ck_TooMany _ u) hfi_TooMany (fun s u v hK => .of_eq rfl)
  have hI_TooMany := (⟨xn_TooMany, ⟨_, _, _, _, xl_TooMany, xm_TooMany.1⟩, xy_TooMany, fun a => rfl⟩ : CInfo K "TooMany" (C_TooMany, bm_OverflowError))
  have hcl_Taken := xcls_mk xb_RuntimeError xn_Taken xl_Taken xm_Taken.1 xm_Taken.2.2.2.1 xg_Taken xt_Taken xk_Taken xO1 xO2
  have hst_Taken := xst_mk sf_RuntimeError xl_Taken xm_Taken.1 xm_Taken.2.2.2.1 xs_Taken
  have hmk_Taken := makesX_mk xb_RuntimeError xl_Taken xm_Taken.1 xm_Taken.2.1 xm_Taken.2.2.1 xm_Taken.2.2.2.2 xc_Taken xq_Taken
  have hF_Taken := fun_mk (st := s_Taken) xL_Taken xC_Taken xK_Taken
  have hfi_Taken := fi_Taken (P := l.prog) (w := w) (mg := mg) (base := base) hF_Taken hst_Taken xN0_Taken
  have hb_Taken := hF_Taken.binds (ps := ["self", "path"]) fun _ _ _ _ _ _ us hl => match us, hl with | [_, _], _ => rfl
  have hx_Taken := hasX_mk (P := l.prog) (w := w) (mg := mg) (base := base) (gs := ["path"]) hcl_Taken (PySem.W.mg_of X G xn_Taken) (fun x hx => by rw [List.mem_singleton.mp hx]; exact xN0_Taken) (mkx_mk PySem.F.excBase_RuntimeError hmk_Taken xi_Taken xF_Taken xP_Taken (by decide) fun us ws h1 h2 => match us, ws, h1, h2 with | [u], [], _, _ => ca_RuntimeError0 _ u) hfi_Taken hb_Taken
  have hk_Taken := hasX_kw1 (P := l.prog) (w := w) (mg := mg) (base := base) (g := "path") hcl_Taken (PySem.W.mg_of X G xn_Taken) xN0_Taken (mkx_mk PySem.F.excBase_RuntimeError hmk_Taken xi_Taken xF_Taken xP_Taken (by decide) fun us ws h1 h2 => match us, ws, h1, h2 with | [], [u], _, _ => ck_Taken _ u) hfi_Taken (fun s u v hK => .of_eq rfl)
  have hI_Taken := (⟨xn_Taken, ⟨_, _, _, _, xl_Taken, xm_Taken.1⟩, xy_Taken, fun a => rfl⟩ : CInfo K "Taken" (C_Taken, bm_RuntimeError))
  have hcl_Fault := xcls_mk xb_RuntimeError xn_Fault xl_Fault xm_Fault.1 xm_Fault.2.2.2.1 xg_Fault xt_Fault xk_Fault xO1 xO2
  have hst_Fault := xst_mk sf_RuntimeError xl_Fault xm_Fault.1 xm_Fault.2.2.2.1 xs_Fault
  have hmk_Fault := makesX_mk xb_RuntimeError xl_Fault xm_Fault.1 xm_Fault.2.1 xm_Fault.2.2.1 xm_Fault.2.2.2.2 xc_Fault xq_Fault
  have hF_Fault := fun_mk (st := s_Fault) xL_Fault xC_Fault xK_Fault
  have hfi_Fault := fi_Fault (P := l.prog) (w := w) (mg := mg) (base := base) hF_Fault hst_Fault xN0_Fault xN1_Fault
  have hb_Fault := hF_Fault.binds (ps := ["self", "word", "what"]) fun _ _ _ _ _ _ us hl => match us, hl with | [_, _, _], _ => rfl
  have hx_Fault := hasX_mk (P := l.prog) (w := w) (mg := mg) (base := base) (gs := ["word", "what"]) hcl_Fault (PySem.W.mg_of X G xn_Fault) (fun x hx => (List.mem_cons.mp hx).elim (fun h => by rw [h]; exact xN0_Fault) fun h => by rw [List.mem_singleton.mp h]; exact xN1_Fault) (mkx_mk PySem.F.excBase_RuntimeError hmk_Fault xi_Fault xF_Fault xP_Fault (by decide) fun us ws h1 h2 => match us, ws, h1, h2 with | [u, v], [], _, _ => ca_RuntimeError00 _ u v) hfi_Fault hb_Fault
  have hk_Fault := hasX_kw2 (P := l.prog) (w := w) (mg := mg) (base := base) (g := "word") (g' := "what") hcl_Fault (PySem.W.mg_of X G xn_Fault) xN0_Fault xN1_Fault (mkx_mk PySem.F.excBase_RuntimeError hmk_Fault xi_Fault xF_Fault xP_Fault (by decide) fun us ws h1 h2 => match us, ws, h1, h2 with | [], [u, v], _, _ => ck_Fault _ u v) hfi_Fault (fun s u v v2 hK => .of_eq rfl)
  have hI_Fault := (⟨xn_Fault, ⟨_, _, _, _, xl_Fault, xm_Fault.1⟩, xy_Fault, fun a => rfl⟩ : CInfo K "Fault" (C_Fault, bm_RuntimeError))
  have hT := (.cons hI_BadSource (.cons hI_BadRow (.cons hI_BadText (.cons hI_BadPath (.cons hI_BadName (.cons hI_BadTemplate (.cons hI_BadNumber (.cons hI_BadDeed (.cons hI_NoLead (.cons hI_NoName (.cons hI_NoRead (.cons hI_BadKey (.cons hI_NoPath (.cons hI_NoPage (.cons hI_NoAddress (.cons hI_NoPart (.cons hI_TooMany (.cons hI_Taken (.cons hI_Fault (.nil))))))))))))))))))) : Paired (CInfo K) xsN [(C_BadSource, bm_ValueError), (C_BadRow, bm_ValueError), (C_BadText, bm_ValueError), (C_BadPath, bm_ValueError), (C_BadName, bm_ValueError), (C_BadTemplate, bm_ValueError), (C_BadNumber, bm_ValueError), (C_BadDeed, bm_ValueError), (C_NoLead, bm_KeyError), (C_NoName, bm_KeyError), (C_NoRead, bm_KeyError), (C_BadKey, bm_KeyError), (C_NoPath, bm_LookupError), (C_NoPage, bm_LookupError), (C_NoAddress, bm_LookupError), (C_NoPart, bm_IndexError), (C_TooMany, bm_OverflowError), (C_Taken, bm_RuntimeError), (C_Fault, bm_RuntimeError)])
  have ix_BadSource := isx_own hT xD xs_nodup (t := 0) (T := "BadSource") (CT := C_BadSource) rfl rfl
  have ix_BadRow := isx_own hT xD xs_nodup (t := 1) (T := "BadRow") (CT := C_BadRow) rfl rfl
  have ix_BadText := isx_own hT xD xs_nodup (t := 2) (T := "BadText") (CT := C_BadText) rfl rfl
  have ix_BadPath := isx_own hT xD xs_nodup (t := 3) (T := "BadPath") (CT := C_BadPath) rfl rfl
  have ix_BadName := isx_own hT xD xs_nodup (t := 4) (T := "BadName") (CT := C_BadName) rfl rfl
  have ix_BadTemplate := isx_own hT xD xs_nodup (t := 5) (T := "BadTemplate") (CT := C_BadTemplate) rfl rfl
  have ix_BadNumber := isx_own hT xD xs_nodup (t := 6) (T := "BadNumber") (CT := C_BadNumber) rfl rfl
  have ix_BadDeed := isx_own hT xD xs_nodup (t := 7) (T := "BadDeed") (CT := C_BadDeed) rfl rfl
  have ix_NoLead := isx_own hT xD xs_nodup (t := 8) (T := "NoLead") (CT := C_NoLead) rfl rfl
  have ix_NoName := isx_own hT xD xs_nodup (t := 9) (T := "NoName") (CT := C_NoName) rfl rfl
  have ix_NoRead := isx_own hT xD xs_nodup (t := 10) (T := "NoRead") (CT := C_NoRead) rfl rfl
  have ix_BadKey := isx_own hT xD xs_nodup (t := 11) (T := "BadKey") (CT := C_BadKey) rfl rfl
  have ix_NoPath := isx_own hT xD xs_nodup (t := 12) (T := "NoPath") (CT := C_NoPath) rfl rfl
  have ix_NoPage := isx_own hT xD xs_nodup (t := 13) (T := "NoPage") (CT := C_NoPage) rfl rfl
  have ix_NoAddress := isx_own hT xD xs_nodup (t := 14) (T := "NoAddress") (CT := C_NoAddress) rfl rfl
  have ix_NoPart := isx_own hT xD xs_nodup (t := 15) (T := "NoPart") (CT := C_NoPart) rfl rfl
  have ix_TooMany := isx_own hT xD xs_nodup (t := 16) (T := "TooMany") (CT := C_TooMany) rfl rfl
  have ix_Taken := isx_own hT xD xs_nodup (t := 17) (T := "Taken") (CT := C_Taken) rfl rfl
  have ix_Fault := isx_own hT xD xs_nodup (t := 18) (T := "Fault") (CT := C_Fault) rfl rfl
  have ix_ValueError := isx_ty (T := "ValueError") (L := up_ValueError) hT km_ValueError (hL_of rfl up_ok_ValueError)
  have ix_KeyError := isx_ty (T := "KeyError") (L := up_KeyError) hT km_KeyError (hL_of rfl up_ok_KeyError)
  have ix_LookupError := isx_ty (T := "LookupError") (L := up_LookupError) hT km_LookupError (hL_of rfl up_ok_LookupError)
  have ix_IndexError := isx_ty (T := "IndexError") (L := up_IndexError) hT km_IndexError (hL_of rfl up_ok_IndexError)
  have ix_RuntimeError := isx_ty (T := "RuntimeError") (L := up_RuntimeError) hT km_RuntimeError (hL_of rfl up_ok_RuntimeError)
  have ix_ArithmeticError := isx_ty (T := "ArithmeticError") (L := up_ArithmeticError) hT km_ArithmeticError (hL_of rfl up_ok_ArithmeticError)
  have ix_OverflowError := isx_ty (T := "OverflowError") (L := up_OverflowError) hT km_OverflowError (hL_of rfl up_ok_OverflowError)
  have h_take := has_mk (P := l.prog) (w := w) (base := base) F1 (ok_take F1) (PySem.W.mg_of X G a1) b1 kb_no
  have h_dip := has_mk (P := l.prog) (w := w) (base := base) F0 (ok_dip F0 T) (PySem.W.mg_of X G a0) b0 kb_no
  have h_thing := has_mk (P := l.prog) (w := w) (base := base) F9 (ok_thing F9 T h_take) (PySem.W.mg_of X G a9) b9 q9
  have h_own := has_mk (P := l.prog) (w := w) (base := base) F4 (ok_own F4 T xn_BadSource ix_BadSource xn_BadRow ix_BadRow xn_BadText ix_BadText xn_BadPath ix_BadPath xn_BadName ix_BadName xn_BadTemplate ix_BadTemplate xn_BadNumber ix_BadNumber xn_BadDeed ix_BadDeed xn_NoLead ix_NoLead xn_NoName ix_NoName xn_NoRead ix_NoRead xn_BadKey ix_BadKey xn_NoPath ix_NoPath xn_NoPage ix_NoPage xn_NoAddress ix_NoAddress xn_NoPart ix_NoPart xn_TooMany ix_TooMany xn_Taken ix_Taken xn_Fault ix_Fault) (PySem.W.mg_of X G a4) b4 q4
  have h_over := has_mk (P := l.prog) (w := w) (base := base) F5 (ok_over F5 T ix_ValueError ix_KeyError ix_LookupError ix_IndexError ix_RuntimeError ix_ArithmeticError ix_OverflowError) (PySem.W.mg_of X G a5) b5 q5
  have h_made := has_mk (P := l.prog) (w := w) (base := base) F6 (ok_made F6 T hx_BadSource hx_BadRow hx_BadText hx_BadPath hx_BadName hx_BadTemplate hx_BadNumber hx_BadDeed hx_NoLead hx_NoName hx_NoRead hx_BadKey hx_NoPath hx_NoPage hx_NoAddress hx_NoPart hx_TooMany hx_Taken hx_Fault) (PySem.W.mg_of X G a6) b6 kb_no
  have h_called := has_mk (P := l.prog) (w := w) (base := base) F7 (ok_called F7 T hk_BadSource hk_BadRow hk_BadText hk_BadPath hk_BadName hk_BadTemplate hk_BadNumber hk_BadDeed hk_NoLead hk_NoName hk_NoRead hk_BadKey hk_NoPath hk_NoPage hk_NoAddress hk_NoPart hk_TooMany hk_Taken hk_Fault) (PySem.W.mg_of X G a7) b7 kb_no
  have h_fields := has_mk (P := l.prog) (w := w) (base := base) F8 (ok_fields F8 T) (PySem.W.mg_of X G a8) b8 q8
  have h_s0 := has_mk (P := l.prog) (w := w) (base := base) F3 (none_d (k := 0) (sp := spSame 0) fun _ _ h => h) (PySem.W.mg_of X G a3) b3 kb_no
  have h_s1 := has_mk (P := l.prog) (w := w) (base := base) F3 (ok_same (n := 0) (k := 0) F3 T h_s0) (PySem.W.mg_of X G a3) b3 kb_no
  have h_s2 := has_mk (P := l.prog) (w := w) (base := base) F3 (ok_same (n := 1) (k := 1) F3 T h_s1) (PySem.W.mg_of X G a3) b3 kb_no
  have h_s3 := has_mk (P := l.prog) (w := w) (base := base) F3 (ok_same (n := 2) (k := 2) F3 T h_s2) (PySem.W.mg_of X G a3) b3 kb_no
  have h_s4 := has_mk (P := l.prog) (w := w) (base := base) F3 (ok_same (n := 3) (k := 3) F3 T h_s3) (PySem.W.mg_of X G a3) b3 kb_no
  have h_right := has_mk (P := l.prog) (w := w) (base := base) F10 (ok_right (k := 4) (by decide) F10 T (h_made.mono (by decide)) (h_called.mono (by decide)) (h_own.mono (by decide)) (h_over.mono (by decide)) (h_fields.mono (by decide)) (h_s4.mono (by decide))) (PySem.W.mg_of X G a10) b10 kb_no
  exact ok_law (k := 5) (by decide) F11 T (ok_folded F2 T) (PySem.W.mg_of X G a2) k2 b2 (h_dip.mono (by decide)) (h_thing.mono (by decide)) (h_right.mono (by decide))
theorem walk {l : PySem.W.OpenLaw} {q : Program} {loose : List Str} {XP : (Str → Option Value) → Heap → Prop} {YP : World → Heap → Prop} {d : DefRec} {K : Params → PySem.W.Frag} (hn : l.most = some 63) (hdf : d.params.defaults = [])
    (hY : ∀ (w : World) (h : Heap), YP w h → (K w.params).In h)
    (F : ∀ (w : World) (mg : Str → Option Value) (fa : Addr) (h : Heap), (K w.params).In h → h.Ns mainGlobals mg → mg d.name = some (.ref fa) →
      ∃ fd : FuncData, (∀ (s : Shared) (u : Value), BindsTo s fd ⟨[u], []⟩ [("_law_script", u)]) ∧ ∀ base : Heap, (K w.params).In base → base.Ns mainGlobals mg → FnOk l.prog w (K w.params) mg base CX0 0 6 fa fd ["_law_script"] (spLaw (K w.params))) :
    PySem.W.WalkO q loose XP YP l.row.toRowW d [] (fun f vs => PySem.call f vs) :=
  L2.walk_of (n := 63) (k := 6) (x := "_law_script") (CX := fun _ => CX0) (sp := fun w => spLaw (K w.params)) hn (by decide) hdf ⟨rfl, by decide, by decide, rfl⟩ hY F (fun _ _ a ns hl _ hS => ⟨a, ns, rfl, hS, hl, fun _ => rfl⟩) fun _ _ _ _ _ z => z
end K1
open PySem PySem.W PyProof.Rows
set_option maxRecDepth 100000 in
set_option maxHeartbeats 0 in
theorem PySem.Challenge.cw_pagemaker_k03_errors_holds : PySem.Challenge.rw_pagemaker_k03_errors.Holds := by
  w_on; o_law; k_head; (case hw => w_witness2)
  k_fill
  refine K1.walk (l := PySem.Challenge.rw_pagemaker_k03_errors) rfl rfl (fun w h Y => PySem.W.kIn_of Y) ?F
  case F =>
    intro w mg fa h KX G hmg
    refine' K1.all_mk KX G hmg ?a0 ?l0 ?c0 ?k0 ?a1 ?l1 ?c1 ?k1 ?a2 ?l2 ?c2 ?k2 ?a3 ?l3 ?c3 ?k3 ?a4 ?l4 ?c4 ?k4 ?a5 ?l5 ?c5 ?k5 ?a6 ?l6 ?c6 ?k6 ?a7 ?l7 ?c7 ?k7 ?a8 ?l8 ?c8 ?k8 ?a9 ?l9 ?c9 ?k9 ?a10 ?l10 ?c10 ?k10 ?a11 ?l11 ?c11 ?k11 ?xn_BadSource ?xl_BadSource ?xm_BadSource ?xg_BadSource ?xt_BadSource ?xk_BadSource ?xs_BadSource ?xc_BadSource ?xy_BadSource ?xq_BadSource ?xi_BadSource ?xL_BadSource ?xC_BadSource ?xK_BadSource ?xP_BadSource ?xF_BadSource ?xN0_BadSource ?xn_BadRow ?xl_BadRow ?xm_BadRow ?xg_BadRow ?xt_BadRow ?xk_BadRow ?xs_BadRow ?xc_BadRow ?xy_BadRow ?xq_BadRow ?xi_BadRow ?xL_BadRow ?xC_BadRow ?xK_BadRow ?xP_BadRow ?xF_BadRow ?xN0_BadRow ?xn_BadText ?xl_BadText ?xm_BadText ?xg_BadText ?xt_BadText ?xk_BadText ?xs_BadText ?xc_BadText ?xy_BadText ?xq_BadText ?xi_BadText ?xL_BadText ?xC_BadText ?xK_BadText ?xP_BadText ?xF_BadText ?xN0_BadText ?xn_BadPath ?xl_BadPath ?xm_BadPath ?xg_BadPath ?xt_BadPath ?xk_BadPath ?xs_BadPath ?xc_BadPath ?xy_BadPath ?xq_BadPath ?xi_BadPath ?xL_BadPath ?xC_BadPath ?xK_BadPath ?xP_BadPath ?xF_BadPath ?xN0_BadPath ?xn_BadName ?xl_BadName ?xm_BadName ?xg_BadName ?xt_BadName ?xk_BadName ?xs_BadName ?xc_BadName ?xy_BadName ?xq_BadName ?xi_BadName ?xL_BadName ?xC_BadName ?xK_BadName ?xP_BadName ?xF_BadName ?xN0_BadName ?xn_BadTemplate ?xl_BadTemplate ?xm_BadTemplate ?xg_BadTemplate ?xt_BadTemplate ?xk_BadTemplate ?xs_BadTemplate ?xc_BadTemplate ?xy_BadTemplate ?xq_BadTemplate ?xi_BadTemplate ?xL_BadTemplate ?xC_BadTemplate ?xK_BadTemplate ?xP_BadTemplate ?xF_BadTemplate ?xN0_BadTemplate ?xn_BadNumber ?xl_BadNumber ?xm_BadNumber ?xg_BadNumber ?xt_BadNumber ?xk_BadNumber ?xs_BadNumber ?xc_BadNumber ?xy_BadNumber ?xq_BadNumber ?xi_BadNumber ?xL_BadNumber ?xC_BadNumber ?xK_BadNumber ?xP_BadNumber ?xF_BadNumber ?xN0_BadNumber ?xn_BadDeed ?xl_BadDeed ?xm_BadDeed ?xg_BadDeed ?xt_BadDeed ?xk_BadDeed ?xs_BadDeed ?xc_BadDeed ?xy_BadDeed ?xq_BadDeed ?xi_BadDeed ?xL_BadDeed ?xC_BadDeed ?xK_BadDeed ?xP_BadDeed ?xF_BadDeed ?xN0_BadDeed ?xn_NoLead ?xl_NoLead ?xm_NoLead ?xg_NoLead ?xt_NoLead ?xk_NoLead ?xs_NoLead ?xc_NoLead ?xy_NoLead ?xq_NoLead ?xi_NoLead ?xL_NoLead ?xC_NoLead ?xK_NoLead ?xP_NoLead ?xF_NoLead ?xN0_NoLead ?xn_NoName ?xl_NoName ?xm_NoName ?xg_NoName ?xt_NoName ?xk_NoName ?xs_NoName ?xc_NoName ?xy_NoName ?xq_NoName ?xi_NoName ?xL_NoName ?xC_NoName ?xK_NoName ?xP_NoName ?xF_NoName ?xN0_NoName ?xn_NoRead ?xl_NoRead ?xm_NoRead ?xg_NoRead ?xt_NoRead ?xk_NoRead ?xs_NoRead ?xc_NoRead ?xy_NoRead ?xq_NoRead ?xi_NoRead ?xL_NoRead ?xC_NoRead ?xK_NoRead ?xP_NoRead ?xF_NoRead ?xN0_NoRead ?xn_BadKey ?xl_BadKey ?xm_BadKey ?xg_BadKey ?xt_BadKey ?xk_BadKey ?xs_BadKey ?xc_BadKey ?xy_BadKey ?xq_BadKey ?xi_BadKey ?xL_BadKey ?xC_BadKey ?xK_BadKey ?xP_BadKey ?xF_BadKey ?xN0_BadKey ?xn_NoPath ?xl_NoPath ?xm_NoPath ?xg_NoPath ?xt_NoPath ?xk_NoPath ?xs_NoPath ?xc_NoPath ?xy_NoPath ?xq_NoPath ?xi_NoPath ?xL_NoPath ?xC_NoPath ?xK_NoPath ?xP_NoPath ?xF_NoPath ?xN0_NoPath ?xn_NoPage ?xl_NoPage ?xm_NoPage ?xg_NoPage ?xt_NoPage ?xk_NoPage ?xs_NoPage ?xc_NoPage ?xy_NoPage ?xq_NoPage ?xi_NoPage ?xL_NoPage ?xC_NoPage ?xK_NoPage ?xP_NoPage ?xF_NoPage ?xN0_NoPage ?xn_NoAddress ?xl_NoAddress ?xm_NoAddress ?xg_NoAddress ?xt_NoAddress ?xk_NoAddress ?xs_NoAddress ?xc_NoAddress ?xy_NoAddress ?xq_NoAddress ?xi_NoAddress ?xL_NoAddress ?xC_NoAddress ?xK_NoAddress ?xP_NoAddress ?xF_NoAddress ?xN0_NoAddress ?xn_NoPart ?xl_NoPart ?xm_NoPart ?xg_NoPart ?xt_NoPart ?xk_NoPart ?xs_NoPart ?xc_NoPart ?xy_NoPart ?xq_NoPart ?xi_NoPart ?xL_NoPart ?xC_NoPart ?xK_NoPart ?xP_NoPart ?xF_NoPart ?xN0_NoPart ?xN1_NoPart ?xn_TooMany ?xl_TooMany ?xm_TooMany ?xg_TooMany ?xt_TooMany ?xk_TooMany ?xs_TooMany ?xc_TooMany ?xy_TooMany ?xq_TooMany ?xi_TooMany ?xL_TooMany ?xC_TooMany ?xK_TooMany ?xP_TooMany ?xF_TooMany ?xN0_TooMany ?xn_Taken ?xl_Taken ?xm_Taken ?xg_Taken ?xt_Taken ?xk_Taken ?xs_Taken ?xc_Taken ?xy_Taken ?xq_Taken ?xi_Taken ?xL_Taken ?xC_Taken ?xK_Taken ?xP_Taken ?xF_Taken ?xN0_Taken ?xn_Fault ?xl_Fault ?xm_Fault ?xg_Fault ?xt_Fault ?xk_Fault ?xs_Fault ?xc_Fault ?xy_Fault ?xq_Fault ?xi_Fault ?xL_Fault ?xC_Fault ?xK_Fault ?xP_Fault ?xF_Fault ?xN0_Fault ?xN1_Fault ?xO1 ?xO2 ?xD ?z_len ?z_abs ?z_int ?z_str ?z_bool ?z_list ?z_tuple ?z_all ?z_range ?z_zip ?z_enumerate ?z_isinstance ?z_ValueError ?z_KeyError ?z_LookupError ?z_IndexError ?z_RuntimeError ?z_ArithmeticError ?z_OverflowError
    (case a0 => k_is)
    (case l0 => k_is)
    (case c0 => k_is)
    (case k0 => k_is)
    (case a1 => k_is)
    (case l1 => k_is)
    (case c1 => k_is)
    (case k1 => k_is)
    (case a2 => k_is)
    (case l2 => k_is)
    (case c2 => k_is)
    (case k2 => k_is)
    (case a3 => k_is)
    (case l3 => k_is)
    (case c3 => k_is)
    (case k3 => k_is)
    (case a4 => k_is)
    (case l4 => k_is)
    (case c4 => k_is)
    (case k4 => k_is)
    (case a5 => k_is)
    (case l5 => k_is)
    (case c5 => k_is)
    (case k5 => k_is)
    (case a6 => k_is)
    (case l6 => k_is)
    (case c6 => k_is)
    (case k6 => k_is)
    (case a7 => k_is)
    (case l7 => k_is)
    (case c7 => k_is)
    (case k7 => k_is)
    (case a8 => k_is)
    (case l8 => k_is)
    (case c8 => k_is)
    (case k8 => k_is)
    (case a9 => k_is)
    (case l9 => k_is)
    (case c9 => k_is)
    (case k9 => k_is)
    (case a10 => k_is)
    (case l10 => k_is)
    (case c10 => k_is)
    (case k10 => k_is)
    (case a11 => k_is)
    (case l11 => k_is)
    (case c11 => k_is)
    (case k11 => k_is)
    (case xn_BadSource => k_is)
    (case xl_BadSource => k_is)
    (case xm_BadSource => exact ⟨rfl, rfl, rfl, rfl, rfl⟩)
    (case xg_BadSource => k_is)
    (case xt_BadSource => k_is)
    (case xk_BadSource => k_is)
    (case xs_BadSource => k_is)
    (case xc_BadSource => k_is)
    (case xy_BadSource => k_is)
    (case xq_BadSource => k_is)
    (case xi_BadSource => k_is)
    (case xL_BadSource => k_is)
    (case xC_BadSource => k_is)
    (case xK_BadSource => k_is)
    (case xP_BadSource => k_is)
    (case xF_BadSource => k_is)
    (case xN0_BadSource => k_is)
    (case xn_BadRow => k_is)
    (case xl_BadRow => k_is)
    (case xm_BadRow => exact ⟨rfl, rfl, rfl, rfl, rfl⟩)
    (case xg_BadRow => k_is)
    (case xt_BadRow => k_is)
    (case xk_BadRow => k_is)
    (case xs_BadRow => k_is)
    (case xc_BadRow => k_is)
    (case xy_BadRow => k_is)
    (case xq_BadRow => k_is)
    (case xi_BadRow => k_is)
    (case xL_BadRow => k_is)
    (case xC_BadRow => k_is)
    (case xK_BadRow => k_is)
    (case xP_BadRow => k_is)
    (case xF_BadRow => k_is)
    (case xN0_BadRow => k_is)
    (case xn_BadText => k_is)
    (case xl_BadText => k_is)
    (case xm_BadText => exact ⟨rfl, rfl, rfl, rfl, rfl⟩)
    (case xg_BadText => k_is)
    (case xt_BadText => k_is)
    (case xk_BadText => k_is)
    (case xs_BadText => k_is)
    (case xc_BadText => k_is)
    (case xy_BadText => k_is)
    (case xq_BadText => k_is)
    (case xi_BadText => k_is)
    (case xL_BadText => k_is)
    (case xC_BadText => k_is)
    (case xK_BadText => k_is)
    (case xP_BadText => k_is)
    (case xF_BadText => k_is)
    (case xN0_BadText => k_is)
    (case xn_BadPath => k_is)
    (case xl_BadPath => k_is)
    (case xm_BadPath => exact ⟨rfl, rfl, rfl, rfl, rfl⟩)
    (case xg_BadPath => k_is)
    (case xt_BadPath => k_is)
    (case xk_BadPath => k_is)
    (case xs_BadPath => k_is)
    (case xc_BadPath => k_is)
    (case xy_BadPath => k_is)
    (case xq_BadPath => k_is)
    (case xi_BadPath => k_is)
    (case xL_BadPath => k_is)
    (case xC_BadPath => k_is)
    (case xK_BadPath => k_is)
    (case xP_BadPath => k_is)
    (case xF_BadPath => k_is)
    (case xN0_BadPath => k_is)
    (case xn_BadName => k_is)
    (case xl_BadName => k_is)
    (case xm_BadName => exact ⟨rfl, rfl, rfl, rfl, rfl⟩)
    (case xg_BadName => k_is)
    (case xt_BadName => k_is)
    (case xk_BadName => k_is)
    (case xs_BadName => k_is)
    (case xc_BadName => k_is)
    (case xy_BadName => k_is)
    (case xq_BadName => k_is)
    (case xi_BadName => k_is)
    (case xL_BadName => k_is)
    (case xC_BadName => k_is)
    (case xK_BadName => k_is)
    (case xP_BadName => k_is)
    (case xF_BadName => k_is)
    (case xN0_BadName => k_is)
    (case xn_BadTemplate => k_is)
    (case xl_BadTemplate => k_is)
    (case xm_BadTemplate => exact ⟨rfl, rfl, rfl, rfl, rfl⟩)
    (case xg_BadTemplate => k_is)
    (case xt_BadTemplate => k_is)
    (case xk_BadTemplate => k_is)
    (case xs_BadTemplate => k_is)
    (case xc_BadTemplate => k_is)
    (case xy_BadTemplate => k_is)
    (case xq_BadTemplate => k_is)
    (case xi_BadTemplate => k_is)
    (case xL_BadTemplate => k_is)
    (case xC_BadTemplate => k_is)
    (case xK_BadTemplate => k_is)
    (case xP_BadTemplate => k_is)
    (case xF_BadTemplate => k_is)
    (case xN0_BadTemplate => k_is)
    (case xn_BadNumber => k_is)
    (case xl_BadNumber => k_is)
    (case xm_BadNumber => exact ⟨rfl, rfl, rfl, rfl, rfl⟩)
    (case xg_BadNumber => k_is)
    (case xt_BadNumber => k_is)
    (case xk_BadNumber => k_is)
    (case xs_BadNumber => k_is)
    (case xc_BadNumber => k_is)
    (case xy_BadNumber => k_is)
    (case xq_BadNumber => k_is)
    (case xi_BadNumber => k_is)
    (case xL_BadNumber => k_is)
    (case xC_BadNumber => k_is)
    (case xK_BadNumber => k_is)
    (case xP_BadNumber => k_is)
    (case xF_BadNumber => k_is)
    (case xN0_BadNumber => k_is)
    (case xn_BadDeed => k_is)
    (case xl_BadDeed => k_is)
    (case xm_BadDeed => exact ⟨rfl, rfl, rfl, rfl, rfl⟩)
    (case xg_BadDeed => k_is)
    (case xt_BadDeed => k_is)
    (case xk_BadDeed => k_is)
    (case xs_BadDeed => k_is)
    (case xc_BadDeed => k_is)
    (case xy_BadDeed => k_is)
    (case xq_BadDeed => k_is)
    (case xi_BadDeed => k_is)
    (case xL_BadDeed => k_is)
    (case xC_BadDeed => k_is)
    (case xK_BadDeed => k_is)
    (case xP_BadDeed => k_is)
    (case xF_BadDeed => k_is)
    (case xN0_BadDeed => k_is)
    (case xn_NoLead => k_is)
    (case xl_NoLead => k_is)
    (case xm_NoLead => exact ⟨rfl, rfl, rfl, rfl, rfl⟩)
    (case xg_NoLead => k_is)
    (case xt_NoLead => k_is)
    (case xk_NoLead => k_is)
    (case xs_NoLead => k_is)
    (case xc_NoLead => k_is)
    (case xy_NoLead => k_is)
    (case xq_NoLead => k_is)
    (case xi_NoLead => k_is)
    (case xL_NoLead => k_is)
    (case xC_NoLead => k_is)
    (case xK_NoLead => k_is)
    (case xP_NoLead => k_is)
    (case xF_NoLead => k_is)
    (case xN0_NoLead => k_is)
    (case xn_NoName => k_is)
    (case xl_NoName => k_is)
    (case xm_NoName => exact ⟨rfl, rfl, rfl, rfl, rfl⟩)
    (case xg_NoName => k_is)
    (case xt_NoName => k_is)
    (case xk_NoName => k_is)
    (case xs_NoName => k_is)
    (case xc_NoName => k_is)
    (case xy_NoName => k_is)
    (case xq_NoName => k_is)
    (case xi_NoName => k_is)
    (case xL_NoName => k_is)
    (case xC_NoName => k_is)
    (case xK_NoName => k_is)
    (case xP_NoName => k_is)
    (case xF_NoName => k_is)
    (case xN0_NoName => k_is)
    (case xn_NoRead => k_is)
    (case xl_NoRead => k_is)
    (case xm_NoRead => exact ⟨rfl, rfl, rfl, rfl, rfl⟩)
    (case xg_NoRead => k_is)
    (case xt_NoRead => k_is)
    (case xk_NoRead => k_is)
    (case xs_NoRead => k_is)
    (case xc_NoRead => k_is)
    (case xy_NoRead => k_is)
    (case xq_NoRead => k_is)
    (case xi_NoRead => k_is)
    (case xL_NoRead => k_is)
    (case xC_NoRead => k_is)
    (case xK_NoRead => k_is)
    (case xP_NoRead => k_is)
    (case xF_NoRead => k_is)
    (case xN0_NoRead => k_is)
    (case xn_BadKey => k_is)
    (case xl_BadKey => k_is)
    (case xm_BadKey => exact ⟨rfl, rfl, rfl, rfl, rfl⟩)
    (case xg_BadKey => k_is)
    (case xt_BadKey => k_is)
    (case xk_BadKey => k_is)
    (case xs_BadKey => k_is)
    (case xc_BadKey => k_is)
    (case xy_BadKey => k_is)
    (case xq_BadKey => k_is)
    (case xi_BadKey => k_is)
    (case xL_BadKey => k_is)
    (case xC_BadKey => k_is)
    (case xK_BadKey => k_is)
    (case xP_BadKey => k_is)
    (case xF_BadKey => k_is)
    (case xN0_BadKey => k_is)
    (case xn_NoPath => k_is)
    (case xl_NoPath => k_is)
    (case xm_NoPath => exact ⟨rfl, rfl, rfl, rfl, rfl⟩)
    (case xg_NoPath => k_is)
    (case xt_NoPath => k_is)
    (case xk_NoPath => k_is)
    (case xs_NoPath => k_is)
    (case xc_NoPath => k_is)
    (case xy_NoPath => k_is)
    (case xq_NoPath => k_is)
    (case xi_NoPath => k_is)
    (case xL_NoPath => k_is)
    (case xC_NoPath => k_is)
    (case xK_NoPath => k_is)
    (case xP_NoPath => k_is)
    (case xF_NoPath => k_is)
    (case xN0_NoPath => k_is)
    (case xn_NoPage => k_is)
    (case xl_NoPage => k_is)
    (case xm_NoPage => exact ⟨rfl, rfl, rfl, rfl, rfl⟩)
    (case xg_NoPage => k_is)
    (case xt_NoPage => k_is)
    (case xk_NoPage => k_is)
    (case xs_NoPage => k_is)
    (case xc_NoPage => k_is)
    (case xy_NoPage => k_is)
    (case xq_NoPage => k_is)
    (case xi_NoPage => k_is)
    (case xL_NoPage => k_is)
    (case xC_NoPage => k_is)
    (case xK_NoPage => k_is)
    (case xP_NoPage => k_is)
    (case xF_NoPage => k_is)
    (case xN0_NoPage => k_is)
    (case xn_NoAddress => k_is)
    (case xl_NoAddress => k_is)
    (case xm_NoAddress => exact ⟨rfl, rfl, rfl, rfl, rfl⟩)
    (case xg_NoAddress => k_is)
    (case xt_NoAddress => k_is)
    (case xk_NoAddress => k_is)
    (case xs_NoAddress => k_is)
    (case xc_NoAddress => k_is)
    (case xy_NoAddress => k_is)
    (case xq_NoAddress => k_is)
    (case xi_NoAddress => k_is)
    (case xL_NoAddress => k_is)
    (case xC_NoAddress => k_is)
    (case xK_NoAddress => k_is)
    (case xP_NoAddress => k_is)
    (case xF_NoAddress => k_is)
    (case xN0_NoAddress => k_is)
    (case xn_NoPart => k_is)
    (case xl_NoPart => k_is)
    (case xm_NoPart => exact ⟨rfl, rfl, rfl, rfl, rfl⟩)
    (case xg_NoPart => k_is)
    (case xt_NoPart => k_is)
    (case xk_NoPart => k_is)
    (case xs_NoPart => k_is)
    (case xc_NoPart => k_is)
    (case xy_NoPart => k_is)
    (case xq_NoPart => k_is)
    (case xi_NoPart => k_is)
    (case xL_NoPart => k_is)
    (case xC_NoPart => k_is)
    (case xK_NoPart => k_is)
    (case xP_NoPart => k_is)
    (case xF_NoPart => k_is)
    (case xN0_NoPart => k_is)
    (case xN1_NoPart => k_is)
    (case xn_TooMany => k_is)
    (case xl_TooMany => k_is)
    (case xm_TooMany => exact ⟨rfl, rfl, rfl, rfl, rfl⟩)
    (case xg_TooMany => k_is)
    (case xt_TooMany => k_is)
    (case xk_TooMany => k_is)
    (case xs_TooMany => k_is)
    (case xc_TooMany => k_is)
    (case xy_TooMany => k_is)
    (case xq_TooMany => k_is)
    (case xi_TooMany => k_is)
    (case xL_TooMany => k_is)
    (case xC_TooMany => k_is)
    (case xK_TooMany => k_is)
    (case xP_TooMany => k_is)
    (case xF_TooMany => k_is)
    (case xN0_TooMany => k_is)
    (case xn_Taken => k_is)
    (case xl_Taken => k_is)
    (case xm_Taken => exact ⟨rfl, rfl, rfl, rfl, rfl⟩)
    (case xg_Taken => k_is)
    (case xt_Taken => k_is)
    (case xk_Taken => k_is)
    (case xs_Taken => k_is)
    (case xc_Taken => k_is)
    (case xy_Taken => k_is)
    (case xq_Taken => k_is)
    (case xi_Taken => k_is)
    (case xL_Taken => k_is)
    (case xC_Taken => k_is)
    (case xK_Taken => k_is)
    (case xP_Taken => k_is)
    (case xF_Taken => k_is)
    (case xN0_Taken => k_is)
    (case xn_Fault => k_is)
    (case xl_Fault => k_is)
    (case xm_Fault => exact ⟨rfl, rfl, rfl, rfl, rfl⟩)
    (case xg_Fault => k_is)
    (case xt_Fault => k_is)
    (case xk_Fault => k_is)
    (case xs_Fault => k_is)
    (case xc_Fault => k_is)
    (case xy_Fault => k_is)
    (case xq_Fault => k_is)
    (case xi_Fault => k_is)
    (case xL_Fault => k_is)
    (case xC_Fault => k_is)
    (case xK_Fault => k_is)
    (case xP_Fault => k_is)
    (case xF_Fault => k_is)
    (case xN0_Fault => k_is)
    (case xN1_Fault => k_is)
    (case xO1 => k_is)
    (case xO2 => k_is)
    (case xD => decide)
    (case z_len => k_is)
    (case z_abs => k_is)
    (case z_int => k_is)
    (case z_str => k_is)
    (case z_bool => k_is)
    (case z_list => k_is)
    (case z_tuple => k_is)
    (case z_all => k_is)
    (case z_range => k_is)
    (case z_zip => k_is)
    (case z_enumerate => k_is)
    (case z_isinstance => k_is)
    (case z_ValueError => k_is)
    (case z_KeyError => k_is)
    (case z_LookupError => k_is)
    (case z_IndexError => k_is)
    (case z_RuntimeError => k_is)
    (case z_ArithmeticError => k_is)
    (case z_OverflowError => k_is)

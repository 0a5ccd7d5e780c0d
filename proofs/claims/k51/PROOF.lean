import PyProof.Rows.All
import Wide.All
import OpenK.AllK
import Wide.FinOn
import HandS.ForSpec
import HandS.ForMost
import HandS.IsInst
import HandS.Wide
import HandS.Flow
import HandS.ForExc
import HandS.Lambda
import HandS.StrMore
import HandS.WideBits
import HandS.CallSlots
import HandS.SetKeys
import KE.DataMinMax
import KE.SortData
import HandS.Defaults
import HandS.MakeKwOnly
import HandS.RaiseMore
import HandS.ExcIs
import HandS.Style
import HandS.TupMul
import KE.KExcIs
import HandS.ExcInit
import HandS.ExcField
import HandS.EndOwn
import KE.KxIndex
import KE.DataCmp
import HandS.Conv
import HandS.More
import KE.KDictDisplayH
import OpenK.KOps
import HandS.Iter
import KE.GoesMore
import HandS.TupAny
import KE.KxField
import HandS.FStr
import HandS.IntHex
import KE.KDictZip
import HandS.Zip
import KE.GoesRaise
import KE.GoesZip
import PySem.Challenge.RW_barscribe_k51_hearings_judged
set_option Elab.async false
set_option linter.all false
set_option maxRecDepth 100000
namespace DV
open PySem L2

/-! ### data, the store, runs -/
inductive D where
  | non | bl (b : Bool) | int (i : Int) | str (x : Str) | tup (xs : List D) | obj (n : Nat) | adr (a : Addr) | ty (n : String) | fz (xs : List D) | exc (c : Addr) (ks : List Str) (ds : List D)
inductive DO where
  | lst (xs : List D) | ins (C : Addr) (fs : List (Str × D)) | dK (kvs : List (Key × D)) | dT (kvs : List (List Key × D)) | tab (P : Addr) (q : Str)
abbrev Sto := List DO
/-- an exception: its class, its fields -/
structure Xc where
  cls : Addr
  fs : List (Str × D)
abbrev Rs (α : Type) := Option (Except Xc α × Sto)
abbrev M (α : Type) := Sto → Rs α
abbrev Dn := List (Option D)
abbrev FnD := List D → M D

/-! ### how data lie in the heap -/
/-- a list that nobody changes: locked, or written -/
def FzL (K : PySem.W.Frag) (H : Hp) (a : Addr) (vs : List V) : Prop := (∃ o, H a = some (.frz o (.lst vs))) ∨ SqL K (fun _ => none) a vs
/-- an exception object of the class cls with the dict d, caught: it stays as it is -/
def ExK (cls : Value) (d : Option Addr) (a : Addr) : HO := .ext fun h => ∃ (oe : Obj) (vs : Array Value), h.get? a = some oe ∧ Zc cls d oe ∧ oe.data = .fields vs
/-- .. with these attributes -/
def ExV (H : Hp) (a c : Addr) (ks : List Str) (vs : List V) : Prop := ks.length = vs.length ∧ ((H a = some (ExK (.ref c) none a) ∧ ks = []) ∨ ∃ d, H a = some (ExK (.ref c) (some d) a) ∧ H d = some (.xd (ks.zip vs)))
mutual
inductive Dt (K : PySem.W.Frag) (φ : List Addr) (H : Hp) : V → D → Prop
  | non : Dt K φ H .non .non
  | bl (b : Bool) : Dt K φ H (.bl b) (.bl b)
  | int (i : Int) : Dt K φ H (.int i) (.int i)
  | str (x : Str) : Dt K φ H (.str x) (.str x)
  | tup {a : Addr} {vs : List V} {ds : List D} : SqT K H a vs → Dts K φ H vs ds → Dt K φ H (.ref a) (.tup ds)
  | obj {a : Addr} {n : Nat} : φ[n]? = some a → Dt K φ H (.ref a) (.obj n)
  | adr (a : Addr) : Dt K φ H (.ref a) (.adr a)
  | ty (n : String) : Dt K φ H (.ty n) (.ty n)
  | fz {a : Addr} {vs : List V} {ds : List D} : FzL K H a vs → Dts K φ H vs ds → Dt K φ H (.ref a) (.fz ds)
  | exc {a c : Addr} {ks : List Str} {vs : List V} {ds : List D} : ExV H a c ks vs → Dts K φ H vs ds → Dt K φ H (.ref a) (.exc c ks ds)
inductive Dts (K : PySem.W.Frag) (φ : List Addr) (H : Hp) : List V → List D → Prop
  | nil : Dts K φ H [] []
  | cons {v : V} {vs : List V} {d : D} {ds : List D} : Dt K φ H v d → Dts K φ H vs ds → Dts K φ H (v :: vs) (d :: ds)
end
/-- fields, entries -/
inductive Prs {κ : Type} (R : V → D → Prop) : List (κ × V) → List (κ × D) → Prop
  | nil : Prs R [] []
  | cons {k : κ} {v : V} {vs : List (κ × V)} {d : D} {ds : List (κ × D)} : R v d → Prs R vs ds → Prs R ((k, v) :: vs) ((k, d) :: ds)
def Ob (K : PySem.W.Frag) (φ : List Addr) (H : Hp) (a : Addr) : DO → Prop
  | .lst xs => ∃ vs, H a = some (.lst vs) ∧ Dts K φ H vs xs
  | .ins C fs => ∃ dx vs, H a = some (.ins C dx vs) ∧ Prs (Dt K φ H) vs fs
  | .dK kvs => ∃ vs, H a = some (.dK vs) ∧ Prs (Dt K φ H) vs kvs
  | .dT kvs => ∃ vs, H a = some (.dT vs) ∧ Prs (Dt K φ H) vs kvs
  | .tab P q => a = P ∧ LamX.TabS H P q
structure So (K : PySem.W.Frag) (φ : List Addr) (H : Hp) (s : Sto) : Prop where
  len : s.length = φ.length
  nd : φ.Nodup
  ob : ∀ (n : Nat) (o : DO), s[n]? = some o → ∃ a, φ[n]? = some a ∧ Ob K φ H a o
/-- what comes later: more objects, the tuples stand -/
structure Fu (K : PySem.W.Frag) (φ φ' : List Addr) (H H' : Hp) : Prop where
  pre : ∃ t, φ ++ t = φ'
  go : ∀ a xs, SqT K H a xs → SqT K H' a xs
  gf : ∀ a xs, FzL K H a xs → FzL K H' a xs
  ge : ∀ a f, H a = some (.ext f) → H' a = some (.ext f)
  gd : ∀ a f, H a = some (.xd f) → H' a = some (.xd f)
section
variable {K : PySem.W.Frag} {φ φ' φ'' : List Addr} {H H' H'' : Hp} {v : V} {vs : List V} {d : D} {ds : List D} {s s' : Sto}
theorem Fu.refl (φ : List Addr) (H : Hp) : Fu K φ φ H H := ⟨⟨[], List.append_nil _⟩, fun _ _ h => h, fun _ _ h => h, fun _ _ h => h, fun _ _ h => h⟩
theorem Fu.gx (f : Fu K φ φ' H H') {a c : Addr} {ks : List Str} {vs : List V} (h : ExV H a c ks vs) : ExV H' a c ks vs := by
  obtain ⟨q0, q⟩ := h
  refine ⟨q0, ?_⟩
  rcases q with ⟨q, e⟩ | ⟨d, q, e⟩
  · exact .inl ⟨f.ge _ _ q, e⟩
  · exact .inr ⟨d, f.ge _ _ q, f.gd _ _ e⟩
theorem Fu.trans (a : Fu K φ φ' H H') (b : Fu K φ' φ'' H' H'') : Fu K φ φ'' H H'' := by
  obtain ⟨⟨t, rfl⟩, g, k, x, y⟩ := a
  obtain ⟨⟨u, rfl⟩, g', k', x', y'⟩ := b
  exact ⟨⟨t ++ u, by rw [List.append_assoc]⟩, fun a xs h => g' a xs (g a xs h), fun a xs h => k' a xs (k a xs h), fun a c h => x' a c (x a c h), fun a c h => y' a c (y a c h)⟩
theorem Fu.get (f : Fu K φ φ' H H') {n : Nat} {a : Addr} (h : φ[n]? = some a) : φ'[n]? = some a := by
  obtain ⟨⟨t, rfl⟩, _, _, _, _⟩ := f
  rw [List.getElem?_append_left (List.getElem?_eq_some_iff.mp h).1]
  exact h
mutual
theorem Dt.fu (f : Fu K φ φ' H H') : ∀ {v : V} {d : D}, Dt K φ H v d → Dt K φ' H' v d
  | _, _, .non => .non
  | _, _, .bl b => .bl b
  | _, _, .int i => .int i
  | _, _, .str x => .str x
  | _, _, .tup h r => .tup (f.go _ _ h) (Dts.fu f r)
  | _, _, .obj h => .obj (f.get h)
  | _, _, .adr a => .adr a
  | _, _, .ty n => .ty n
  | _, _, .fz h r => .fz (f.gf _ _ h) (Dts.fu f r)
  | _, _, .exc h r => .exc (f.gx h) (Dts.fu f r)
theorem Dts.fu (f : Fu K φ φ' H H') : ∀ {vs : List V} {ds : List D}, Dts K φ H vs ds → Dts K φ' H' vs ds
  | _, _, .nil => .nil
  | _, _, .cons h r => .cons (Dt.fu f h) (Dts.fu f r)
end
theorem Prs.fu {κ : Type} (f : Fu K φ φ' H H') : ∀ {vs : List (κ × V)} {ds : List (κ × D)}, Prs (Dt K φ H) vs ds → Prs (Dt K φ' H') vs ds
  | _, _, .nil => .nil
  | _, _, .cons h r => .cons (h.fu f) (Prs.fu f r)
theorem Dts.length : ∀ {vs : List V} {ds : List D}, Dts K φ H vs ds → vs.length = ds.length
  | _, _, .nil => rfl
  | _, _, .cons _ r => congrArg (· + 1) (Dts.length r)
theorem Dts.get : ∀ {vs : List V} {ds : List D} {i : Nat} {d : D}, Dts K φ H vs ds → ds[i]? = some d → ∃ v, vs[i]? = some v ∧ Dt K φ H v d
  | _, _, 0, _, .cons h _, e => ⟨_, rfl, by cases e; exact h⟩
  | _, _, i + 1, _, .cons _ r, e => Dts.get (i := i) r e
theorem Dts.get' : ∀ {vs : List V} {ds : List D} {i : Nat} {v : V}, Dts K φ H vs ds → vs[i]? = some v → ∃ d, ds[i]? = some d ∧ Dt K φ H v d
  | _, _, 0, _, .cons h _, e => ⟨_, rfl, by cases e; exact h⟩
  | _, _, i + 1, _, .cons _ r, e => Dts.get' (i := i) r e
theorem Dts.append : ∀ {vs ws : List V} {ds es : List D}, Dts K φ H vs ds → Dts K φ H ws es → Dts K φ H (vs ++ ws) (ds ++ es)
  | _, _, _, _, .nil, r => r
  | _, _, _, _, .cons h r, q => .cons h (Dts.append r q)
theorem Dts.set {v : V} {d : D} (q : Dt K φ H v d) : ∀ {vs : List V} {ds : List D} (i : Nat), Dts K φ H vs ds → Dts K φ H (vs.set i v) (ds.set i d)
  | _, _, _, .nil => .nil
  | _, _, 0, .cons _ r => .cons q r
  | _, _, i + 1, .cons h r => .cons h (Dts.set q i r)
theorem Dts.take : ∀ {vs : List V} {ds : List D} (n : Nat), Dts K φ H vs ds → Dts K φ H (vs.take n) (ds.take n)
  | _, _, 0, _ => .nil
  | _, _, _ + 1, .nil => .nil
  | _, _, n + 1, .cons h r => .cons h (Dts.take n r)
theorem Dts.drop : ∀ {vs : List V} {ds : List D} (n : Nat), Dts K φ H vs ds → Dts K φ H (vs.drop n) (ds.drop n)
  | _, _, 0, r => r
  | _, _, _ + 1, .nil => .nil
  | _, _, n + 1, .cons _ r => Dts.drop n r
theorem Dts.ints : ∀ {vs : List V} {ns : List Int}, Dts K φ H vs (ns.map D.int) → vs = ns.map V.int
  | [], [], _ => rfl
  | _, _ :: _, .cons (.int _) r => congrArg (_ :: ·) (Dts.ints r)
theorem Dts.of_ints : ∀ ns : List Int, Dts K φ H (ns.map V.int) (ns.map D.int)
  | [] => .nil
  | i :: r => .cons (.int i) (Dts.of_ints r)
/-- an object of the store -/
theorem So.at (h : So K φ H s) {n : Nat} {o : DO} (e : s[n]? = some o) : ∃ a, φ[n]? = some a ∧ Ob K φ H a o := h.ob n o e
theorem So.lst (h : So K φ H s) {n : Nat} {xs : List D} (e : s[n]? = some (.lst xs)) {a : Addr} (ha : φ[n]? = some a) : ∃ vs, H a = some (.lst vs) ∧ Dts K φ H vs xs := by
  obtain ⟨b, hb, q⟩ := h.ob _ _ e
  rw [ha] at hb
  cases hb
  exact q
theorem Ob.some {a : Addr} {o : DO} (h : Ob K φ H a o) : ∃ u, H a = some u ∧ (∀ xs, u ≠ .tup xs) ∧ (∀ o w, u ≠ .frz o w) ∧ (∀ f, u ≠ .ext f) ∧ ∀ f, u ≠ .xd f := by
  cases o with
  | lst xs => obtain ⟨vs, e, _⟩ := h; exact ⟨_, e, fun _ => nofun, fun _ _ => nofun, fun _ => nofun, fun _ => nofun⟩
  | ins C fs => obtain ⟨dx, vs, e, _⟩ := h; exact ⟨_, e, fun _ => nofun, fun _ _ => nofun, fun _ => nofun, fun _ => nofun⟩
  | dK kvs => obtain ⟨vs, e, _⟩ := h; exact ⟨_, e, fun _ => nofun, fun _ _ => nofun, fun _ => nofun, fun _ => nofun⟩
  | dT kvs => obtain ⟨vs, e, _⟩ := h; exact ⟨_, e, fun _ => nofun, fun _ _ => nofun, fun _ => nofun, fun _ => nofun⟩
  | tab P q => obtain ⟨rfl, ps, e, _⟩ := h; exact ⟨_, e, fun _ => nofun, fun _ _ => nofun, fun _ => nofun, fun _ => nofun⟩
/-- at an address that holds no tuple and nothing locked a thing may be written -/
theorem go_upd {p : Addr} {o : HO} (h1 : ∀ xs, H p ≠ some (.tup xs)) (h2 : ∀ ob w, H p ≠ some (.frz ob w)) : ∀ a xs, SqT K H a xs → SqT K (upd H p o) a xs := fun a xs q => by
  rcases q with (q | ⟨ob, q⟩) | q
  · have ne : a ≠ p := fun z => by subst z; exact h1 _ q
    exact .inl (.inl (by rw [upd_ne ne]; exact q))
  · have ne : a ≠ p := fun z => by subst z; exact h2 _ _ q
    exact .inl (.inr ⟨ob, by rw [upd_ne ne]; exact q⟩)
  · exact .inr q
theorem gf_upd {p : Addr} {o : HO} (h2 : ∀ ob w, H p ≠ some (.frz ob w)) : ∀ a xs, FzL K H a xs → FzL K (upd H p o) a xs := fun a xs q => by
  rcases q with ⟨ob, q⟩ | q
  · have ne : a ≠ p := fun z => by subst z; exact h2 _ _ q
    exact .inl ⟨ob, by rw [upd_ne ne]; exact q⟩
  · exact .inr q
theorem ge_upd {p : Addr} {o : HO} (h1 : ∀ f, H p ≠ some (.ext f)) : ∀ a f, H a = some (.ext f) → upd H p o a = some (.ext f) := fun a f q => by
  have ne : a ≠ p := fun z => by subst z; exact h1 _ q
  rw [upd_ne ne]; exact q
theorem gd_upd {p : Addr} {o : HO} (h1 : ∀ f, H p ≠ some (.xd f)) : ∀ a f, H a = some (.xd f) → upd H p o a = some (.xd f) := fun a f q => by
  have ne : a ≠ p := fun z => by subst z; exact h1 _ q
  rw [upd_ne ne]; exact q
theorem none_updx {p : Addr} (h : H p = none) : (∀ f, H p ≠ some (.ext f)) ∧ ∀ f, H p ≠ some (.xd f) := ⟨fun xs e => (by rw [h] at e; cases e), fun w e => (by rw [h] at e; cases e)⟩
theorem FzL.sq {a : Addr} {vs : List V} (h : FzL K H a vs) : SqL K H a vs := by
  rcases h with ⟨o, e⟩ | (h | h)
  · exact .inl (.inr ⟨o, e⟩)
  · rcases h with h | ⟨o, h⟩ <;> cases h
  · exact .inr h
theorem none_upd {p : Addr} (h : H p = none) : (∀ xs, H p ≠ some (.tup xs)) ∧ ∀ ob w, H p ≠ some (.frz ob w) := ⟨fun xs e => (by rw [h] at e; cases e), fun ob w e => (by rw [h] at e; cases e)⟩
theorem fu_new {p : Addr} {o : HO} (h : H p = none) : Fu K φ φ H (upd H p o) := ⟨⟨[], List.append_nil _⟩, go_upd (none_upd h).1 (none_upd h).2, gf_upd (none_upd h).2, ge_upd (none_updx h).1, gd_upd (none_updx h).2⟩
theorem fu_newO {p : Addr} {o : HO} (h : H p = none) : Fu K φ (φ ++ [p]) H (upd H p o) := ⟨⟨[p], rfl⟩, go_upd (none_upd h).1 (none_upd h).2, gf_upd (none_upd h).2, ge_upd (none_updx h).1, gd_upd (none_updx h).2⟩
theorem Ob.keep {a p : Addr} {o : DO} {u : HO} (f : Fu K φ φ' H (upd H p u)) (h : Ob K φ H a o) (ne : a ≠ p) : Ob K φ' (upd H p u) a o := by
  cases o with
  | lst xs => obtain ⟨vs, e, r⟩ := h; exact ⟨vs, by rw [upd_ne ne]; exact e, r.fu f⟩
  | ins C fs => obtain ⟨dx, vs, e, r⟩ := h; exact ⟨dx, vs, by rw [upd_ne ne]; exact e, r.fu f⟩
  | dK kvs => obtain ⟨vs, e, r⟩ := h; exact ⟨vs, by rw [upd_ne ne]; exact e, r.fu f⟩
  | dT kvs => obtain ⟨vs, e, r⟩ := h; exact ⟨vs, by rw [upd_ne ne]; exact e, r.fu f⟩
  | tab P q =>
    obtain ⟨rfl, ps, e, ok, named⟩ := h
    exact ⟨rfl, ps, by rw [upd_ne ne]; exact e, ok, fun pos cv among => by
      obtain ⟨c, z1, z2⟩ := named pos cv among
      exact ⟨c, z1, f.ge _ _ z2⟩⟩
theorem So.addr (h : So K φ H s) {a : Addr} (ha : a ∈ φ) : ∃ (n : Nat) (o : DO), φ[n]? = some a ∧ s[n]? = some o ∧ Ob K φ H a o := by
  obtain ⟨n, hn⟩ := List.mem_iff_getElem?.mp ha
  have hl : n < s.length := by rw [h.len]; exact (List.getElem?_eq_some_iff.mp hn).1
  obtain ⟨b, hb, q⟩ := h.ob n s[n] (List.getElem?_eq_getElem hl)
  rw [hn] at hb
  cases hb
  exact ⟨n, s[n], hn, List.getElem?_eq_getElem hl, q⟩
theorem So.fresh (h : So K φ H s) {p : Addr} (hp : H p = none) : p ∉ φ := fun q => by
  obtain ⟨n, o, _, _, k⟩ := h.addr q
  obtain ⟨u, e, _⟩ := k.some
  rw [hp] at e
  cases e
/-- a new object that is no object of the store (a tuple) -/
theorem So.new (h : So K φ H s) {p : Addr} {u : HO} (hp : H p = none) : So K φ (upd H p u) s := ⟨h.len, h.nd, fun n o e => by
  obtain ⟨a, ha, q⟩ := h.ob n o e
  exact ⟨a, ha, q.keep (fu_new hp) (by
    obtain ⟨z, e, _⟩ := q.some
    exact ne_of_none e hp)⟩⟩
/-- a new object of the store -/
theorem So.newO (h : So K φ H s) {p : Addr} {u : HO} {o : DO} (hp : H p = none) (q : Ob K (φ ++ [p]) (upd H p u) p o) : So K (φ ++ [p]) (upd H p u) (s ++ [o]) := by
  refine ⟨by simp [h.len], ?_, fun n o' e => ?_⟩
  · rw [List.nodup_append]
    exact ⟨h.nd, by simp, fun a ha b hb z => by
      rw [List.mem_singleton] at hb
      subst hb z
      exact h.fresh hp ha⟩
  · by_cases hn : n < s.length
    · rw [List.getElem?_append_left hn] at e
      obtain ⟨a, ha, k⟩ := h.ob n o' e
      refine ⟨a, by rw [List.getElem?_append_left (by rw [← h.len]; exact hn)]; exact ha, k.keep (fu_newO hp) ?_⟩
      obtain ⟨z, e, _⟩ := k.some
      exact ne_of_none e hp
    · have hl := (List.getElem?_eq_some_iff.mp e).1
      rw [List.length_append, List.length_singleton] at hl
      obtain rfl : n = s.length := by omega
      rw [List.getElem?_append_right (Nat.le_refl _)] at e
      simp at e
      subst e
      exact ⟨p, by rw [h.len, List.getElem?_append_right (Nat.le_refl _)]; simp, q⟩
/-- an object of the store is changed -/
theorem fu_set (h : So K φ H s) {n : Nat} {a : Addr} {u : HO} (ha : φ[n]? = some a) : Fu K φ φ H (upd H a u) := by
  obtain ⟨m, o, _, _, q⟩ := h.addr (List.mem_of_getElem? ha)
  obtain ⟨z, e, k1, k2, k3, k4⟩ := q.some
  have q1 : ∀ xs, H a ≠ some (.tup xs) := fun xs e' => by rw [e] at e'; cases e'; exact k1 _ rfl
  have q2 : ∀ ob w, H a ≠ some (.frz ob w) := fun ob w e' => by rw [e] at e'; cases e'; exact k2 _ _ rfl
  have q3 : ∀ f, H a ≠ some (.ext f) := fun xs e' => by rw [e] at e'; cases e'; exact k3 _ rfl
  have q4 : ∀ f, H a ≠ some (.xd f) := fun xs e' => by rw [e] at e'; cases e'; exact k4 _ rfl
  exact ⟨⟨[], List.append_nil _⟩, go_upd q1 q2, gf_upd q2, ge_upd q3, gd_upd q4⟩
theorem So.set (h : So K φ H s) {n : Nat} {a : Addr} {u : HO} {o : DO} (ha : φ[n]? = some a) (q : Ob K φ (upd H a u) a o) : So K φ (upd H a u) (s.set n o) := by
  refine ⟨by rw [List.length_set, h.len], h.nd, fun m o' e => ?_⟩
  by_cases hm : m = n
  · subst hm
    have hl : m < s.length := by
      have := (List.getElem?_eq_some_iff.mp e).1
      rwa [List.length_set] at this
    rw [List.getElem?_set_self hl] at e
    cases e
    exact ⟨a, ha, q⟩
  · rw [List.getElem?_set_ne (fun z => hm z.symm)] at e
    obtain ⟨b, hb, k⟩ := h.ob m o' e
    refine ⟨b, hb, k.keep (fu_set h ha) fun z => hm ?_⟩
    subst z
    exact (List.getElem?_inj (List.getElem?_eq_some_iff.mp hb).1 h.nd).mp (hb.trans ha.symm)
end

/-! ### the names -/
structure Sg (K : PySem.W.Frag) (φ : List Addr) (H : Hp) (σ : L2.St) (Δ : Dn) : Prop where
  len : σ.length = Δ.length
  get : ∀ (i : Nat) (d : D), Δ[i]? = some (some d) → ∃ v, σ[i]? = some (some v) ∧ Dt K φ H v d
section
variable {K : PySem.W.Frag} {φ φ' : List Addr} {H H' : Hp} {σ : L2.St} {Δ : Dn}
theorem Sg.fu (f : Fu K φ φ' H H') (h : Sg K φ H σ Δ) : Sg K φ' H' σ Δ := ⟨h.len, fun i d e => by
  obtain ⟨v, h1, h2⟩ := h.get i d e
  exact ⟨v, h1, h2.fu f⟩⟩
theorem Sg.set (h : Sg K φ H σ Δ) {v : V} {d : D} (q : Dt K φ H v d) (i : Nat) : Sg K φ H (σ.set i (some v)) (Δ.set i (some d)) := by
  refine ⟨by rw [List.length_set, List.length_set, h.len], fun j e hj => ?_⟩
  by_cases z : j = i
  · subst z
    have hl : j < Δ.length := by
      have := (List.getElem?_eq_some_iff.mp hj).1
      rwa [List.length_set] at this
    rw [List.getElem?_set_self hl] at hj
    cases hj
    exact ⟨v, by rw [List.getElem?_set_self (by rw [h.len]; exact hl)], q⟩
  · rw [List.getElem?_set_ne (fun w => z w.symm)] at hj ⊢
    exact h.get j e hj
theorem Sg.forget (h : Sg K φ H σ Δ) (i : Nat) (o : Option V) : Sg K φ H (σ.set i o) (Δ.set i none) := by
  refine ⟨by rw [List.length_set, List.length_set, h.len], fun j e hj => ?_⟩
  by_cases z : j = i
  · subst z
    have hl : j < Δ.length := by
      have := (List.getElem?_eq_some_iff.mp hj).1
      rwa [List.length_set] at this
    rw [List.getElem?_set_self hl] at hj
    cases hj
  · rw [List.getElem?_set_ne (fun w => z w.symm)] at hj ⊢
    exact h.get j e hj
def startD (n : Nat) (ds : List D) : Dn := ds.map some ++ List.replicate (n - ds.length) none
theorem Sg.start {N : List Str} {vs : List V} {ds : List D} (r : Dts K φ H vs ds) : Sg K φ H (L2.start N vs) (startD N.length ds) := by
  have hl := r.length
  refine ⟨?_, fun i d e => ?_⟩
  · unfold L2.start startD
    rw [List.length_append, List.length_append, List.length_map, List.length_map, hl]
    simp
  · unfold startD at e
    have hi : i < ds.length := by
      by_cases hi : i < ds.length
      · exact hi
      · rw [List.getElem?_append_right (by simpa using hi), List.getElem?_replicate] at e
        split at e <;> cases e
    rw [List.getElem?_append_left (by simpa using hi), List.getElem?_map] at e
    have e' : ds[i]? = some d := by
      cases q : ds[i]? with
      | none => rw [q] at e; cases e
      | some x => rw [q] at e; cases e; rfl
    obtain ⟨v, hv, k⟩ := r.get e'
    refine ⟨v, ?_, k⟩
    unfold L2.start
    rw [List.getElem?_append_left (by simpa [hl] using hi), List.getElem?_map, hv]
    rfl
end
/-- an exception lies -/
def Xr (K : PySem.W.Frag) (φ : List Addr) (H : Hp) (cls : Value) (dd : Option Addr) (x : Xc) : Prop :=
  cls = .ref x.cls ∧ ((dd = none ∧ x.fs = []) ∨ ∃ a vs, dd = some a ∧ H a = some (.xd vs) ∧ Prs (Dt K φ H) vs x.fs)
end DV

namespace DV
open PySem L2 PyProof.Rows

/-! ### runs, and what they promise -/
def mret {α : Type} (a : α) : M α := fun s => some (.ok a, s)
def mbind {α β : Type} (m : M α) (k : α → M β) : M β := fun s => match m s with
  | some (.ok a, s') => k a s'
  | some (.error x, s') => some (.error x, s')
  | none => none
def mfail {α : Type} : M α := fun _ => none
abbrev WK := Value → Option Addr → Hp → Prop
/-- behind a run: C of what it gives, W of what it raises -/
def Ps (K : PySem.W.Frag) (W : WK) {α β : Type} (R : List Addr → Hp → β → α → Prop) (φ : List Addr) (H : Hp) (C : List Addr → β → Hp → α → Sto → Prop) : Rs α → Prop
  | some (.ok a, s') => ∀ φ' b H', Fu K φ φ' H H' → So K φ' H' s' → R φ' H' b a → C φ' b H' a s'
  | some (.error x, s') => ∀ φ' H' cls dd, Fu K φ φ' H H' → So K φ' H' s' → Xr K φ' H' cls dd x → W cls dd H'
  | none => False
section
variable {K : PySem.W.Frag} {W : WK} {α β γ δ : Type} {R : List Addr → Hp → β → α → Prop} {R' : List Addr → Hp → δ → γ → Prop} {φ φ' : List Addr} {H H' : Hp} {s : Sto}
theorem Ps.shift {C : List Addr → β → Hp → α → Sto → Prop} (f : Fu K φ φ' H H') : ∀ {r : Rs α}, Ps K W R φ H C r → Ps K W R φ' H' C r
  | some (.ok a, s'), h => fun ψ b G g so q => h ψ b G (f.trans g) so q
  | some (.error x, s'), h => fun ψ G cls dd g so q => h ψ G cls dd (f.trans g) so q
  | none, h => h
theorem Ps.bind {C : List Addr → δ → Hp → γ → Sto → Prop} {m : M α} {k : α → M γ} (h : Ps K W R' φ H C (mbind m k s)) :
    Ps K W R φ H (fun φ1 b H1 a s1 => Fu K φ φ1 H H1 ∧ So K φ1 H1 s1 ∧ R φ1 H1 b a ∧ Ps K W R' φ1 H1 C (k a s1)) (m s) := by
  unfold mbind at h
  cases e : m s with
  | none => rw [e] at h; exact h.elim
  | some p =>
    obtain ⟨r, s'⟩ := p
    cases r with
    | ok a => rw [e] at h; exact fun ψ b G g so q => ⟨g, so, q, h.shift g⟩
    | error x => rw [e] at h; exact h
theorem Ps.mono {C C' : List Addr → β → Hp → α → Sto → Prop} (f : ∀ φ' b H' a s', C φ' b H' a s' → C' φ' b H' a s') : ∀ {r : Rs α}, Ps K W R φ H C r → Ps K W R φ H C' r
  | some (.ok a, s'), h => fun ψ b G g so q => f _ _ _ _ _ (h ψ b G g so q)
  | some (.error x, s'), h => h
  | none, h => h
end

/-! ### readings from runs -/
abbrev DX := Dn → M D
abbrev DT := Dn → M Bool
abbrev DA := Dn → M (List D)
def wAt (W : WX) (σ : L2.St) : WK := fun c d H => W c d σ H
def upE (K : PySem.W.Frag) (W : WX) (de : DX) : TE := fun σ H Q => ∃ Δ φ s, Sg K φ H σ Δ ∧ So K φ H s ∧ Ps K (wAt W σ) (Dt K) φ H (fun _ v H' _ _ => Q v H') (de Δ s)
def upT (K : PySem.W.Frag) (W : WX) (dt : DT) : TT := fun σ H Q => ∃ Δ φ s, Sg K φ H σ Δ ∧ So K φ H s ∧ Ps K (wAt W σ) (fun _ _ (b b' : Bool) => b = b') φ H (fun _ v H' _ _ => Q v H') (dt Δ s)
def upA (K : PySem.W.Frag) (W : WX) (da : DA) : TA := fun σ H Q => ∃ Δ φ s, Sg K φ H σ Δ ∧ So K φ H s ∧ Ps K (wAt W σ) (Dts K) φ H (fun _ v H' _ _ => Q v H') (da Δ s)
def DE (X : Cx) (W : WX) (e : Expr) (de : DX) : Prop := PE X e (upE X.K W de)
def DTe (X : Cx) (W : WX) (e : Expr) (dt : DT) : Prop := PT X e (upT X.K W dt)
def DW (X : Cx) (W : WX) (e : Expr) (dt : DT) : Prop := PW X e (upT X.K W dt)
def DAs (X : Cx) (W : WX) (es : List Expr) (da : DA) : Prop := PA X es (upA X.K W da)
theorem pe_imp {X : Cx} {e : Expr} {t t' : TE} (h : PE X e t) (f : ∀ σ H Q, t' σ H Q → t σ H Q) : PE X e t' := ⟨fun pins s σ H Q I q => h.run pins s σ H Q I (f _ _ _ q)⟩
theorem pt_imp {X : Cx} {e : Expr} {t t' : TT} (h : PT X e t) (f : ∀ σ H Q, t' σ H Q → t σ H Q) : PT X e t' := ⟨fun pins s σ H Q I q => h.run pins s σ H Q I (f _ _ _ q)⟩
theorem pw_imp {X : Cx} {e : Expr} {t t' : TT} (h : PW X e t) (f : ∀ σ H Q, t' σ H Q → t σ H Q) : PW X e t' := ⟨fun whole pins s σ H Q I q => h.run whole pins s σ H Q I (f _ _ _ q)⟩
theorem pa_imp {X : Cx} {e : List Expr} {t t' : TA} (h : PA X e t) (f : ∀ σ H Q, t' σ H Q → t σ H Q) : PA X e t' := ⟨fun pos pins s σ H Q I q => h.run pos pins s σ H Q I (f _ _ _ q)⟩
/-- the first of two runs: what it wants of the reading of the rest -/
theorem upE_bind {K : PySem.W.Frag} {W : WX} {γ δ : Type} {R' : List Addr → Hp → δ → γ → Prop} {σ : L2.St} {Δ : Dn} {φ : List Addr} {H : Hp} {s : Sto} {C : List Addr → δ → Hp → γ → Sto → Prop} {de : DX} {k : D → M γ} {Q : VK} (hσ : Sg K φ H σ Δ) (hs : So K φ H s)
    (h : Ps K (wAt W σ) R' φ H C (mbind (de Δ) k s)) (q : ∀ φ1 v H1 d s1, Fu K φ φ1 H H1 → Sg K φ1 H1 σ Δ → So K φ1 H1 s1 → Dt K φ1 H1 v d → Ps K (wAt W σ) R' φ1 H1 C (k d s1) → Q v H1) : upE K W de σ H Q :=
  ⟨Δ, φ, s, hσ, hs, Ps.mono (fun φ1 v H1 d s1 z => q φ1 v H1 d s1 z.1 (hσ.fu z.1) z.2.1 z.2.2.1 z.2.2.2) (Ps.bind h)⟩
theorem upT_bind {K : PySem.W.Frag} {W : WX} {γ δ : Type} {R' : List Addr → Hp → δ → γ → Prop} {σ : L2.St} {Δ : Dn} {φ : List Addr} {H : Hp} {s : Sto} {C : List Addr → δ → Hp → γ → Sto → Prop} {de : DT} {k : Bool → M γ} {Q : Bool → Hp → Prop} (hσ : Sg K φ H σ Δ) (hs : So K φ H s)
    (h : Ps K (wAt W σ) R' φ H C (mbind (de Δ) k s)) (q : ∀ φ1 H1 d s1, Fu K φ φ1 H H1 → Sg K φ1 H1 σ Δ → So K φ1 H1 s1 → Ps K (wAt W σ) R' φ1 H1 C (k d s1) → Q d H1) : upT K W de σ H Q :=
  ⟨Δ, φ, s, hσ, hs, Ps.mono (fun φ1 v H1 d s1 z => by
    obtain ⟨z1, z2, z3, z4⟩ := z
    subst z3
    exact q φ1 H1 _ s1 z1 (hσ.fu z1) z2 z4) (Ps.bind h)⟩
theorem upA_bind {K : PySem.W.Frag} {W : WX} {γ δ : Type} {R' : List Addr → Hp → δ → γ → Prop} {σ : L2.St} {Δ : Dn} {φ : List Addr} {H : Hp} {s : Sto} {C : List Addr → δ → Hp → γ → Sto → Prop} {de : DA} {k : List D → M γ} {Q : List V → Hp → Prop} (hσ : Sg K φ H σ Δ) (hs : So K φ H s)
    (h : Ps K (wAt W σ) R' φ H C (mbind (de Δ) k s)) (q : ∀ φ1 v H1 d s1, Fu K φ φ1 H H1 → Sg K φ1 H1 σ Δ → So K φ1 H1 s1 → Dts K φ1 H1 v d → Ps K (wAt W σ) R' φ1 H1 C (k d s1) → Q v H1) : upA K W de σ H Q :=
  ⟨Δ, φ, s, hσ, hs, Ps.mono (fun φ1 v H1 d s1 z => q φ1 v H1 d s1 z.1 (hσ.fu z.1) z.2.1 z.2.2.1 z.2.2.2) (Ps.bind h)⟩
/-- the end of a run that gives d -/
theorem Ps.ok {K : PySem.W.Frag} {W : WK} {α β : Type} {R : List Addr → Hp → β → α → Prop} {φ : List Addr} {H : Hp} {C : List Addr → β → Hp → α → Sto → Prop} {a : α} {s : Sto} (h : Ps K W R φ H C (some (.ok a, s))) {b : β} (so : So K φ H s) (r : R φ H b a) : C φ b H a s :=
  h φ b H (Fu.refl _ _) so r

/-! ### names and constants -/
def dVar (i : Nat) : DX := fun Δ s => match Δ[i]? with
  | some (some d) => some (.ok d, s)
  | _ => none
def dC (d : D) : DX := fun _ => mret d
section
variable {X : Cx} {W : WX}
theorem de_var (i : Nat) {x : Str} {pos : Pos} (hN : X.N[i]? = some x := by rfl) (hv : Vis X.env.scope x := by first | exact Or.inl rfl | exact Or.inr (Or.inl rfl) | exact Or.inr (Or.inr rfl)) (hd : (x == ("__debug__" : Str)) = false := by decide)
    (hcd : (x == ("__classdict__" : Str)) = false := by decide) : DE X W (.Name x pos) (dVar i) := pe_imp (pe_var hN hv hd hcd) fun σ H Q ⟨Δ, φ, s, hσ, hs, h⟩ => by
  unfold dVar at h
  split at h
  · rename_i d e
    obtain ⟨v, h1, h2⟩ := hσ.get i d e
    exact ⟨v, h1, h.ok hs h2⟩
  · exact h.elim
theorem de_c {e : Expr} {v : V} {d : D} (h : PE X e (tC v)) (r : ∀ φ H, Dt X.K φ H v d) : DE X W e (dC d) := pe_imp h fun σ H Q ⟨Δ, φ, s, hσ, hs, h⟩ => h.ok hs (r φ H)
theorem de_int {i j pos} : DE X W (.Constant (.int i) j pos) (dC (.int i)) := de_c pe_int fun _ _ => .int i
theorem de_bl {b j pos} : DE X W (.Constant (.bool b) j pos) (dC (.bl b)) := de_c pe_bl fun _ _ => .bl b
theorem de_non {j pos} : DE X W (.Constant .none j pos) (dC .non) := de_c pe_non fun _ _ => .non
theorem de_str {x j pos} : DE X W (.Constant (.str x) j pos) (dC (.str x)) := de_c pe_str fun _ _ => .str x
/-- a module's constant -/
theorem de_globI {x : Str} {i : Int} {t : Tok} {pos : Pos} (hg : Gl X x) (hm : X.mg x = some (.int i t)) (hd : (x == ("__debug__" : Str)) = false := by decide) : DE X W (.Name x pos) (dC (.int i)) := de_c (pe_glob (v := .int i) hg hm ⟨t, rfl⟩ hd) fun _ _ => .int i
theorem de_ty {x : Str} {n : String} {pos : Pos} (hg : Gl X x) (hm : X.mg x = none) (hv : bootBuiltins x = some (.type n)) (hn : x ≠ "__name__" := by decide) (hd : (x == ("__debug__" : Str)) = false := by decide) : DE X W (.Name x pos) (dC (.ty n)) := de_c (pe_bltn (v := .ty n) hg hm hv rfl hn hd) fun _ _ => .ty n
/-- a def, a class as a value -/
theorem de_globA {x : Str} {a : Addr} {pos : Pos} (hg : Gl X x) (hm : X.mg x = some (.ref a)) (hd : (x == ("__debug__" : Str)) = false := by decide) : DE X W (.Name x pos) (dC (.adr a)) := de_c (pe_glob (v := .ref a) hg hm rfl hd) fun _ _ => .adr a

/-! ### operators -/
abbrev Op2 := D → D → Sto → Option (D × Sto)
def lift2 (f : Op2) (x y : D) : M D := fun s => match f x y s with
  | some (d, s') => some (.ok d, s')
  | none => none
def dOp (f : Op2) (da db : DX) : DX := fun Δ => mbind (da Δ) fun x => mbind (db Δ) fun y => lift2 f x y
/-- what an operation promises -/
def PsO (K : PySem.W.Frag) (φ : List Addr) (H : Hp) (Q : VK) : Option (D × Sto) → Prop
  | some (d, s') => ∀ φ' v H', Fu K φ φ' H H' → So K φ' H' s' → Dt K φ' H' v d → Q v H'
  | none => False
theorem PsO.of {K : PySem.W.Frag} {W : WK} {φ : List Addr} {H : Hp} {Q : VK} {f : Op2} {x y : D} {s : Sto} (h : Ps K W (Dt K) φ H (fun _ v H' _ _ => Q v H') (lift2 f x y s)) : PsO K φ H Q (f x y s) := by
  unfold lift2 at h
  split at h
  · rename_i e
    rw [e]
    exact h
  · exact h.elim
/-- the operation fn on values does f on data -/
def DOp (X : Cx) (fn : Value → Value → Sem Value) (f : Op2) : Prop := ∃ r : R2, OpR X fn r ∧ ∀ φ H s x y v u Q, So X.K φ H s → Dt X.K φ H v x → Dt X.K φ H u y → PsO X.K φ H Q (f x y s) → r v u H Q
def orOp (f g : Op2) : Op2 := fun x y s => match f x y s with
  | some r => some r
  | none => g x y s
theorem DOp.or {fn : Value → Value → Sem Value} {f g : Op2} (hf : DOp X fn f) (hg : DOp X fn g) : DOp X fn (orOp f g) := by
  obtain ⟨r, h, q⟩ := hf
  obtain ⟨r', h', q'⟩ := hg
  refine ⟨_, h.or h', fun φ H s x y v u Q so rx ry p => ?_⟩
  unfold orOp at p
  split at p
  · rename_i e
    exact .inl (q φ H s x y v u Q so rx ry (by rw [e]; exact p))
  · exact .inr (q' φ H s x y v u Q so rx ry p)
theorem dop_read {f : Op2} {r : R2} (hr : ∀ φ H s x y v u Q, So X.K φ H s → Dt X.K φ H v x → Dt X.K φ H u y → PsO X.K φ H Q (f x y s) → r v u H Q) {da db : DX} {σ : L2.St} {H : Hp} {Q : VK}
    (h : upE X.K W (dOp f da db) σ H Q) : tOp r (upE X.K W da) (upE X.K W db) σ H Q := by
  obtain ⟨Δ, φ, s, hσ, hs, h⟩ := h
  exact upE_bind hσ hs h fun φ1 v H1 x s1 f1 hσ1 hs1 rx h1 => upE_bind hσ1 hs1 h1 fun φ2 u H2 y s2 f2 hσ2 hs2 ry h2 => hr φ2 H2 s2 x y v u Q hs2 (rx.fu f2) ry (PsO.of h2)
theorem de_op {op : Operator} {f : Op2} {a b : Expr} {da db : DX} {pos : Pos} (ho : DOp X (binaryOp op) f) (ha : DE X W a da) (hb : DE X W b db) : DE X W (.BinOp a op b pos) (dOp f da db) := by
  obtain ⟨r, h, hr⟩ := ho
  exact pe_imp (pe_op h ha hb) fun σ H Q q => dop_read hr q
theorem de_cmp {op : CmpOp} {f : Op2} {a b : Expr} {da db : DX} {pos : Pos} (ho : DOp X (compareOp op) f) (ha : DE X W a da) (hb : DE X W b db) (hm : behindInMarks op b = false := by first | exact nomark _ | rfl) : DE X W (.Compare a [op] [b] pos) (dOp f da db) := by
  obtain ⟨r, h, hr⟩ := ho
  exact pe_imp (pe_cmpR h ha hb hm) fun σ H Q q => dop_read hr q
/-! ### tests -/
def dBl (d : D) : M Bool := match d with
  | .bl b => mret b
  | _ => mfail
def dTest (de : DX) : DT := fun Δ => mbind (de Δ) dBl
theorem bl_read {de : DX} {σ : L2.St} {H : Hp} {Q : Bool → Hp → Prop} (h : upT X.K W (dTest de) σ H Q) : upE X.K W de σ H fun x H1 => ∃ k, x = .bl k ∧ Q k H1 := by
  obtain ⟨Δ, φ, s, hσ, hs, h⟩ := h
  refine upE_bind hσ hs h fun φ1 v H1 x s1 f1 hσ1 hs1 rx h1 => ?_
  unfold dBl at h1
  split at h1
  · cases rx
    exact ⟨_, rfl, h1.ok hs1 rfl⟩
  · exact h1.elim
theorem dt_cmp {op : CmpOp} {f : Op2} {a b : Expr} {da db : DX} {pos : Pos} (ho : DOp X (compareOp op) f) (ha : DE X W a da) (hb : DE X W b db) (hm : behindInMarks op b = false := by first | exact nomark _ | rfl) : DTe X W (.Compare a [op] [b] pos) (dTest (dOp f da db)) := by
  obtain ⟨r, h, hr⟩ := ho
  refine pt_imp (pt_cmpR h ha hb hm) fun σ H Q q => ?_
  obtain ⟨Δ, φ, s, hσ, hs, q⟩ := q
  exact dop_read hr (bl_read ⟨Δ, φ, s, hσ, hs, q⟩)
theorem dt_val {e : Expr} {de : DX} (h : DE X W e de) (he : ∀ whole, isTrue e X.env whole = (do let v ← whole; standAt e.pos; holding [v] (truthy v)) := by intro _; rfl) : DTe X W e (dTest de) :=
  pt_imp (pt_val h he) fun σ H Q q => bl_read q
/-- the truth of any value -/
def truD (d : D) (s : Sto) : Option Bool := match d with
  | .non => some false
  | .bl b => some b
  | .int i => some (i != 0)
  | .str x => if x.length ≤ sizeLine then some ((x.length : Int) != 0) else none
  | .tup xs => some (!xs.isEmpty)
  | .obj n => match s[n]? with
    | some (.lst xs) => some (!xs.isEmpty)
    | _ => none
  | .adr _ => none
  | .ty _ => none
  | .fz xs => some (!xs.isEmpty)
  | .exc _ _ _ => none
def dTru (d : D) : M Bool := fun s => match truD d s with
  | some b => some (.ok b, s)
  | none => none
def dAnd (t u : DT) : DT := fun Δ => mbind (t Δ) fun c => if c = true then u Δ else mret false
def dOr (t u : DT) : DT := fun Δ => mbind (t Δ) fun c => if c = true then mret true else u Δ
def dNot (t : DT) : DT := fun Δ => mbind (t Δ) fun c => mret !c
theorem dw_and1 {a : Expr} {t : DT} {pos : Pos} (h : DTe X W a t) : DW X W (.BoolOp .And [a] pos) t := pw_and1 h
theorem dw_or1 {a : Expr} {t : DT} {pos : Pos} (h : DTe X W a t) : DW X W (.BoolOp .Or [a] pos) t := pw_or1 h
theorem dw_and {a b : Expr} {rest : List Expr} {t u : DT} {pos : Pos} (ha : DTe X W a t) (hb : DW X W (.BoolOp .And (b :: rest) pos) u) : DW X W (.BoolOp .And (a :: b :: rest) pos) (dAnd t u) :=
  pw_imp (pw_and ha hb) fun σ H Q ⟨Δ, φ, s, hσ, hs, h⟩ => upT_bind hσ hs h fun φ1 H1 c s1 f1 hσ1 hs1 h1 => by
    cases c with
    | true => exact iteT ⟨Δ, φ1, s1, hσ1, hs1, h1⟩
    | false => exact iteF (h1.ok hs1 rfl)
theorem dw_or {a b : Expr} {rest : List Expr} {t u : DT} {pos : Pos} (ha : DTe X W a t) (hb : DW X W (.BoolOp .Or (b :: rest) pos) u) : DW X W (.BoolOp .Or (a :: b :: rest) pos) (dOr t u) :=
  pw_imp (pw_or ha hb) fun σ H Q ⟨Δ, φ, s, hσ, hs, h⟩ => upT_bind hσ hs h fun φ1 H1 c s1 f1 hσ1 hs1 h1 => by
    cases c with
    | true => exact iteT (h1.ok hs1 rfl)
    | false => exact iteF ⟨Δ, φ1, s1, hσ1, hs1, h1⟩
theorem DW.pt {e : Expr} {t : DT} (h : DW X W e t) : DTe X W e t := PW.pt h
theorem dt_not {a : Expr} {t : DT} {pos : Pos} (h : DTe X W a t) : DTe X W (.UnaryOp .Not a pos) (dNot t) :=
  pt_imp (pt_not h) fun σ H Q ⟨Δ, φ, s, hσ, hs, h⟩ => upT_bind hσ hs h fun φ1 H1 c s1 f1 hσ1 hs1 h1 => h1.ok hs1 rfl
def dTruth (de : DX) : DT := fun Δ => mbind (de Δ) dTru
theorem tru_of {φ : List Addr} {H : Hp} {s : Sto} {v : V} {x : D} {b : Bool} (hs : So X.K φ H s) (rx : Dt X.K φ H v x) (e : truD x s = some b) : TruV X.K v H b := by
  cases rx with
  | non => cases e; rfl
  | bl b => cases e; rfl
  | int i => cases e; rfl
  | str x =>
    simp only [truD] at e
    split at e
    · cases e; rename_i z; exact ⟨z, rfl⟩
    · cases e
  | tup h r =>
    cases e
    refine .inr (.inl ⟨_, h, ?_⟩)
    cases r <;> rfl
  | obj hn =>
    simp only [truD] at e
    split at e
    · rename_i xs es
      cases e
      obtain ⟨vs, k, r⟩ := hs.lst es hn
      refine .inl ⟨_, SqL.of k, ?_⟩
      cases r <;> rfl
    · cases e
  | adr a => cases e
  | ty n => cases e
  | exc _ _ => cases e
  | fz h r =>
    cases e
    refine .inl ⟨_, h.sq, ?_⟩
    cases r <;> rfl
theorem dt_truth {e : Expr} {de : DX} (ha : DE X W e de) (he : ∀ whole, isTrue e X.env whole = (do let v ← whole; standAt e.pos; holding [v] (truthy v)) := by intro _; rfl) : DTe X W e (dTruth de) := by
  refine pt_imp (pt_truth ha he) fun σ H Q ⟨Δ, φ, s, hσ, hs, h⟩ => ?_
  refine upE_bind hσ hs h fun φ1 v H1 x s1 f1 hσ1 hs1 rx h1 => ?_
  unfold dTru at h1
  cases e : truD x s1 with
  | none => rw [e] at h1; exact h1.elim
  | some b =>
    rw [e] at h1
    exact ⟨b, tru_of hs1 rx e, h1.ok hs1 rfl⟩
/-- x or y, x and y, not x by truth -/
def dOrT (da db : DX) : DX := fun Δ => mbind (da Δ) fun x => mbind (dTru x) fun b => if b = true then mret x else db Δ
def dAndT (da db : DX) : DX := fun Δ => mbind (da Δ) fun x => mbind (dTru x) fun b => if b = true then db Δ else mret x
def dNotT (da : DX) : DX := fun Δ => mbind (da Δ) fun x => mbind (dTru x) fun b => mret (.bl !b)
theorem tru_bind {φ : List Addr} {H : Hp} {s : Sto} {v : V} {x : D} {σ : L2.St} {γ δ : Type} {R' : List Addr → Hp → δ → γ → Prop} {C : List Addr → δ → Hp → γ → Sto → Prop} {k : Bool → M γ} (hs : So X.K φ H s) (rx : Dt X.K φ H v x)
    (h : Ps X.K (wAt W σ) R' φ H C (mbind (dTru x) k s)) : ∃ b, TruV X.K v H b ∧ Ps X.K (wAt W σ) R' φ H C (k b s) := by
  unfold mbind dTru at h
  cases e : truD x s with
  | none => rw [e] at h; exact h.elim
  | some b => rw [e] at h; exact ⟨b, tru_of hs rx e, h⟩
theorem de_orT {a b : Expr} {rest : List Expr} {pos : Pos} {da db : DX} (ha : DE X W a da) (hb : DE X W (.BoolOp .Or (b :: rest) pos) db) : DE X W (.BoolOp .Or (a :: b :: rest) pos) (dOrT da db) :=
  pe_imp (pe_orT ha hb) fun σ H Q ⟨Δ, φ, s, hσ, hs, h⟩ => upE_bind hσ hs h fun φ1 v H1 x s1 f1 hσ1 hs1 rx h1 => by
    obtain ⟨k, t, h2⟩ := tru_bind hs1 rx h1
    refine ⟨k, t, ?_⟩
    cases k with
    | true => exact iteT (h2.ok hs1 rx)
    | false => exact iteF ⟨Δ, φ1, s1, hσ1, hs1, h2⟩
theorem de_andT {a b : Expr} {rest : List Expr} {pos : Pos} {da db : DX} (ha : DE X W a da) (hb : DE X W (.BoolOp .And (b :: rest) pos) db) : DE X W (.BoolOp .And (a :: b :: rest) pos) (dAndT da db) :=
  pe_imp (pe_andT ha hb) fun σ H Q ⟨Δ, φ, s, hσ, hs, h⟩ => upE_bind hσ hs h fun φ1 v H1 x s1 f1 hσ1 hs1 rx h1 => by
    obtain ⟨k, t, h2⟩ := tru_bind hs1 rx h1
    refine ⟨k, t, ?_⟩
    cases k with
    | true => exact iteT ⟨Δ, φ1, s1, hσ1, hs1, h2⟩
    | false => exact iteF (h2.ok hs1 rx)
theorem de_notT {a : Expr} {pos : Pos} {da : DX} (ha : DE X W a da) : DE X W (.UnaryOp .Not a pos) (dNotT da) :=
  pe_imp (pe_notT ha) fun σ H Q ⟨Δ, φ, s, hσ, hs, h⟩ => upE_bind hσ hs h fun φ1 v H1 x s1 f1 hσ1 hs1 rx h1 => by
    obtain ⟨k, t, h2⟩ := tru_bind hs1 rx h1
    exact ⟨k, t, h2.ok hs1 (.bl _)⟩
theorem de_one {op : BoolOp} {a : Expr} {da : DX} {pos : Pos} (h : DE X W a da) : DE X W (.BoolOp op [a] pos) da := pe_one h
def dIf (t : DT) (da db : DX) : DX := fun Δ => mbind (t Δ) fun c => if c = true then da Δ else db Δ
theorem de_if {c a b : Expr} {t : DT} {da db : DX} {pos : Pos} (hc : DTe X W c t) (ha : DE X W a da) (hb : DE X W b db) : DE X W (.IfExp c a b pos) (dIf t da db) :=
  pe_imp (pe_ifExp hc ha hb) fun σ H Q ⟨Δ, φ, s, hσ, hs, h⟩ => upT_bind hσ hs h fun φ1 H1 k s1 f1 hσ1 hs1 h1 => by
    cases k with
    | true => exact iteT ⟨Δ, φ1, s1, hσ1, hs1, h1⟩
    | false => exact iteF ⟨Δ, φ1, s1, hσ1, hs1, h1⟩
/-! ### arguments, displays -/
def dNil : DA := fun _ => mret []
def dCons (da : DX) (dr : DA) : DA := fun Δ => mbind (da Δ) fun x => mbind (dr Δ) fun r => mret (x :: r)
theorem da_nil : DAs X W [] dNil := pa_imp pa_nil fun σ H Q ⟨Δ, φ, s, hσ, hs, h⟩ => h.ok hs .nil
theorem da_cons {e : Expr} {es : List Expr} {da : DX} {dr : DA} (ha : DE X W e da) (hr : DAs X W es dr) (hs : starEach (e :: es) X.env = (false, eval e X.env) :: starEach es X.env := by rfl) : DAs X W (e :: es) (dCons da dr) :=
  pa_imp (pa_cons ha hr hs) fun σ H Q ⟨Δ, φ, s, hσ, hs, h⟩ => upE_bind hσ hs h fun φ1 v H1 x s1 f1 hσ1 hs1 rx h1 => upA_bind hσ1 hs1 h1 fun φ2 vs H2 xs s2 f2 hσ2 hs2 rs h2 => h2.ok hs2 (.cons (rx.fu f2) rs)
def dTup (da : DA) : DX := fun Δ => mbind (da Δ) fun xs => if xs.length ≤ sizeLine then mret (.tup xs) else mfail
/-- a new object of the store -/
def mnew (o : DO) : M D := fun s => some (.ok (.obj s.length), s ++ [o])
def dLst (da : DA) : DX := fun Δ => mbind (da Δ) fun xs => if xs.length ≤ sizeLine then mnew (.lst xs) else mfail
theorem Dts.newO {K : PySem.W.Frag} {φ : List Addr} {H : Hp} {s : Sto} {p : Addr} {vs : List V} {xs : List D} (hs : So K φ H s) (hp : H p = none) (r : Dts K φ H vs xs) : So K (φ ++ [p]) (upd H p (.lst vs)) (s ++ [.lst xs]) :=
  hs.newO hp ⟨vs, upd_same, r.fu (fu_newO hp)⟩
theorem obj_new {K : PySem.W.Frag} {φ : List Addr} {H : Hp} {s : Sto} {p : Addr} (hs : So K φ H s) {H' : Hp} : Dt K (φ ++ [p]) H' (.ref p) (.obj s.length) := .obj (by rw [hs.len, List.getElem?_append_right (Nat.le_refl _)]; simp)
theorem Ps.new {K : PySem.W.Frag} {W : WK} {φ : List Addr} {H : Hp} {s : Sto} {p : Addr} {vs : List V} {xs : List D} {Q : VK} (h : Ps K W (Dt K) φ H (fun _ v H' _ _ => Q v H') (mnew (.lst xs) s)) (hs : So K φ H s) (hp : H p = none) (r : Dts K φ H vs xs) : Q (.ref p) (upd H p (.lst vs)) :=
  h _ _ _ (fu_newO hp) (Dts.newO hs hp r) (obj_new hs)
theorem de_tup {es : List Expr} {da : DA} {x1} {pos : Pos} (h : DAs X W es da) : DE X W (.Tuple es x1 pos) (dTup da) :=
  pe_imp (pe_tup h) fun σ H Q ⟨Δ, φ, s, hσ, hs, h⟩ => upA_bind hσ hs h fun φ1 vs H1 xs s1 f1 hσ1 hs1 rx h1 => by
    split at h1
    · rename_i z
      refine ⟨by rw [rx.length]; exact z, fun p hp => ?_⟩
      exact h1 φ1 _ _ (fu_new hp) (hs1.new hp) (.tup (SqT.of upd_same) (rx.fu (fu_new hp)))
    · exact h1.elim
theorem de_lst {es : List Expr} {da : DA} {pos : Pos} (h : DAs X W es da) : DE X W (.List es pos) (dLst da) :=
  pe_imp (pe_lst h) fun σ H Q ⟨Δ, φ, s, hσ, hs, h⟩ => upA_bind hσ hs h fun φ1 vs H1 xs s1 f1 hσ1 hs1 rx h1 => by
    split at h1
    · rename_i z
      exact ⟨by rw [rx.length]; exact z, fun p hp => h1.new hs1 hp rx⟩
    · exact h1.elim
end
end DV

namespace DV
open PySem L2 PyProof.Rows
theorem PsO.ok {K : PySem.W.Frag} {φ : List Addr} {H : Hp} {Q : VK} {d : D} {s : Sto} {v : V} (h : PsO K φ H Q (some (d, s))) (so : So K φ H s) (r : Dt K φ H v d) : Q v H := h φ v H (Fu.refl _ _) so r
theorem PsO.newL {K : PySem.W.Frag} {φ : List Addr} {H : Hp} {Q : VK} {xs : List D} {s : Sto} {vs : List V} {p : Addr} (h : PsO K φ H Q (some (.obj s.length, s ++ [.lst xs]))) (so : So K φ H s) (hp : H p = none) (r : Dts K φ H vs xs) : Q (.ref p) (upd H p (.lst vs)) :=
  h _ _ _ (fu_newO hp) (Dts.newO so hp r) (obj_new so)
theorem PsO.newT {K : PySem.W.Frag} {φ : List Addr} {H : Hp} {Q : VK} {xs : List D} {s : Sto} {vs : List V} {p : Addr} (h : PsO K φ H Q (some (.tup xs, s))) (so : So K φ H s) (hp : H p = none) (r : Dts K φ H vs xs) : Q (.ref p) (upd H p (.tup vs)) :=
  h φ _ _ (fu_new hp) (so.new hp) (.tup (SqT.of upd_same) (r.fu (fu_new hp)))
section
variable {X : Cx}
/-! ### ints -/
def fI (c : Int → Int → Bool) (g : Int → Int → D) : Op2 := fun x y s => match x, y with
  | .int i, .int j => if c i j = true then some (g i j, s) else none
  | _, _ => none
theorem dop_I {fn : Value → Value → Sem Value} {C : Int → Int → Prop} {gV : Int → Int → V} {c : Int → Int → Bool} {g : Int → Int → D} (ho : OpR X fn (rI C gV)) (hc : ∀ i j, c i j = true → C i j) (hg : ∀ i j φ H, Dt X.K φ H (gV i j) (g i j)) : DOp X fn (fI c g) :=
  ⟨_, ho, fun φ H s x y v u Q so rx ry p => by
    cases rx <;> cases ry <;> first | exact p.elim | skip
    rename_i i j
    simp only [fI] at p
    split at p
    · rename_i z
      exact ⟨i, j, rfl, rfl, hc i j z, p.ok so (hg i j φ H)⟩
    · exact p.elim⟩
theorem dop_I0 {fn : Value → Value → Sem Value} {gV : Int → Int → V} {g : Int → Int → D} (ho : OpR X fn (rI0 gV)) (hg : ∀ i j φ H, Dt X.K φ H (gV i j) (g i j)) : DOp X fn (fI (fun _ _ => true) g) :=
  ⟨_, ho, fun φ H s x y v u Q so rx ry p => by
    cases rx <;> cases ry <;> first | exact p.elim | skip
    rename_i i j
    exact ⟨i, j, rfl, rfl, p.ok so (hg i j φ H)⟩⟩
abbrev tt2 : Int → Int → Bool := fun _ _ => true
def fAddI : Op2 := fI tt2 fun i j => .int (i + j)
def fSub : Op2 := fI tt2 fun i j => .int (i - j)
def mulOk (i j : Int) : Bool := decide (i.natAbs < 2 ^ 64) || decide (j.natAbs < 2 ^ 64) || decide (i.natAbs.log2 + j.natAbs.log2 < 1000000)
def fMulI : Op2 := fI mulOk fun i j => .int (i * j)
def divOk (_ j : Int) : Bool := decide (j ≠ 0) && decide (j.natAbs < 1073741824)
def fDiv : Op2 := fI divOk fun i j => .int (i.fdiv j)
def modOk (_ j : Int) : Bool := decide (j ≠ 0)
def fMod : Op2 := fI modOk fun i j => .int (i.fmod j)
def powOk (i j : Int) : Bool := decide (0 ≤ j) && decide (Builtin.Int.intBits i * j.toNat ≤ 2 ^ 27)
def fPow : Op2 := fI powOk fun i j => .int (i ^ j.toNat)
def shlOk (i j : Int) : Bool := decide (0 ≤ j) && decide (Builtin.Int.intBits i + j.toNat ≤ 2 ^ 27)
def fShl : Op2 := fI shlOk fun i j => .int (i * 2 ^ j.toNat)
def shrOk (_ j : Int) : Bool := decide (0 ≤ j)
def fShr : Op2 := fI shrOk fun i j => .int (i / 2 ^ j.toNat)
def fAnd : Op2 := fI tt2 fun i j => .int (Builtin.bitAnd i j)
def fXor : Op2 := fI tt2 fun i j => .int (Builtin.bitXor i j)
theorem dop_addI : DOp X (binaryOp .Add) fAddI := dop_I0 op_add fun _ _ _ _ => .int _
theorem dop_sub : DOp X (binaryOp .Sub) fSub := dop_I0 op_sub fun _ _ _ _ => .int _
theorem dop_and : DOp X (binaryOp .BitAnd) fAnd := dop_I0 op_and fun _ _ _ _ => .int _
theorem dop_xor : DOp X (binaryOp .BitXor) fXor := dop_I0 op_xor fun _ _ _ _ => .int _
theorem op_mulG : OpR X (binaryOp .Mult) (rI (fun i j => mulOk i j = true) fun i j => .int (i * j)) := opI fun i j _ _ _ _ _ hc q => mul_int q (by
  unfold mulOk at hc
  simp only [Bool.or_eq_true, decide_eq_true_eq] at hc
  rcases hc with (h | h) | h
  · exact CMul.ok (.inl ⟨by omega, by omega⟩)
  · exact CMul.ok (.inr ⟨by omega, by omega⟩)
  · exact CMulW.ok h)
theorem dop_mulI : DOp X (binaryOp .Mult) fMulI := dop_I op_mulG (fun _ _ h => h) fun _ _ _ _ => .int _
theorem dop_div : DOp X (binaryOp .FloorDiv) fDiv := dop_I op_fdivN (fun i j h => by
  unfold divOk at h
  simp only [Bool.and_eq_true, decide_eq_true_eq] at h
  exact h) fun _ _ _ _ => .int _
theorem dop_mod : DOp X (binaryOp .Mod) fMod := dop_I op_modN (fun i j h => of_decide_eq_true h) fun _ _ _ _ => .int _
theorem op_powG : OpR X (binaryOp .Pow) (rI (fun i j => powOk i j = true) fun i j => .int (i ^ j.toNat)) := opI fun i j _ _ _ _ _ hc q => by
  unfold powOk at hc
  simp only [Bool.and_eq_true, decide_eq_true_eq] at hc
  obtain ⟨h0, h1⟩ := hc
  refine pow_int h0 ?_ q
  have h2 : ((Builtin.Int.intBits i * j.toNat : Nat) : Int) ≤ ((2 ^ 27 : Nat) : Int) := Int.ofNat_le.mpr h1
  rw [Int.natCast_mul, Int.toNat_of_nonneg h0] at h2
  exact h2
theorem dop_pow : DOp X (binaryOp .Pow) fPow := dop_I op_powG (fun _ _ h => h) fun _ _ _ _ => .int _
theorem op_shlG : OpR X (binaryOp .LShift) (rI (fun i j => shlOk i j = true) fun i j => .int (i * 2 ^ j.toNat)) := opI fun i j _ _ _ _ _ hc q => by
  unfold shlOk at hc
  simp only [Bool.and_eq_true, decide_eq_true_eq] at hc
  obtain ⟨h0, h1⟩ := hc
  refine lshift_int h0 ?_ q
  have h2 : ((Builtin.Int.intBits i + j.toNat : Nat) : Int) ≤ ((2 ^ 27 : Nat) : Int) := Int.ofNat_le.mpr h1
  rw [Int.natCast_add, Int.toNat_of_nonneg h0] at h2
  exact h2
theorem dop_shl : DOp X (binaryOp .LShift) fShl := dop_I op_shlG (fun _ _ h => h) fun _ _ _ _ => .int _
theorem dop_shr : DOp X (binaryOp .RShift) fShr := dop_I op_shr (fun _ _ h => of_decide_eq_true h) fun _ _ _ _ => .int _
def fLt : Op2 := fI tt2 fun i j => .bl (decide (i < j))
def fLe : Op2 := fI tt2 fun i j => .bl (decide (i ≤ j))
def fGt : Op2 := fI tt2 fun i j => .bl (decide (j < i))
def fGe : Op2 := fI tt2 fun i j => .bl (decide (j ≤ i))
theorem dop_lt : DOp X (compareOp .Lt) fLt := dop_I0 op_lt fun _ _ _ _ => .bl _
theorem dop_le : DOp X (compareOp .LtE) fLe := dop_I0 op_le fun _ _ _ _ => .bl _
theorem dop_gt : DOp X (compareOp .Gt) fGt := dop_I0 op_gt fun _ _ _ _ => .bl _
theorem dop_ge : DOp X (compareOp .GtE) fGe := dop_I0 op_ge fun _ _ _ _ => .bl _
/-! ### texts, lists, tuples -/
def fAddS : Op2 := fun x y s => match x, y with
  | .str i, .str j => if i.length + j.length ≤ sizeLine then some (.str (i ++ j), s) else none
  | _, _ => none
theorem dop_addS : DOp X (binaryOp .Add) fAddS := ⟨_, op_add_str, fun φ H s x y v u Q so rx ry p => by
  cases rx <;> cases ry <;> first | exact p.elim | skip
  rename_i i j
  simp only [fAddS] at p
  split at p
  · rename_i z
    exact ⟨i, j, rfl, rfl, z, p.ok so (.str _)⟩
  · exact p.elim⟩
def lstAt (s : Sto) (n : Nat) : Option (List D) := match s[n]? with
  | some (.lst xs) => some xs
  | _ => none
theorem lstAt_eq {s : Sto} {n : Nat} {xs : List D} (h : lstAt s n = some xs) : s[n]? = some (.lst xs) := by
  unfold lstAt at h
  split at h
  · cases h; assumption
  · cases h
def fAddL : Op2 := fun x y s => match x, y with
  | .obj m, .obj n => match lstAt s m, lstAt s n with
    | some xs, some ys => if xs.length + ys.length ≤ sizeLine then some (.obj s.length, s ++ [.lst (xs ++ ys)]) else none
    | _, _ => none
  | _, _ => none
theorem dop_addL : DOp X (binaryOp .Add) fAddL := ⟨_, op_cat, fun φ H s x y v u Q so rx ry p => by
  cases rx <;> cases ry <;> first | exact p.elim | skip
  rename_i a m ha b n hb
  simp only [fAddL] at p
  split at p
  · rename_i xs ys e1 e2
    split at p
    · rename_i z
      obtain ⟨vs, h1, r1⟩ := so.lst (lstAt_eq e1) ha
      obtain ⟨ws, h2, r2⟩ := so.lst (lstAt_eq e2) hb
      exact ⟨a, b, vs, ws, rfl, rfl, h1, h2, by rw [r1.length, r2.length]; exact z, fun q hq => p.newL so hq (r1.append r2)⟩
    · exact p.elim
  · exact p.elim⟩
def fAddT : Op2 := fun x y s => match x, y with
  | .tup xs, .tup ys => if xs.isEmpty = false ∧ ys.isEmpty = false ∧ xs.length + ys.length ≤ sizeLine then some (.tup (xs ++ ys), s) else none
  | _, _ => none
theorem Dts.ne_nil {K : PySem.W.Frag} {φ : List Addr} {H : Hp} {vs : List V} {ds : List D} (r : Dts K φ H vs ds) (h : ds.isEmpty = false) : vs ≠ [] := fun e => by
  subst e
  cases r
  cases h
theorem dop_addT : DOp X (binaryOp .Add) fAddT := ⟨_, op_catT, fun φ H s x y v u Q so rx ry p => by
  cases rx <;> cases ry <;> first | exact p.elim | skip
  rename_i a vs ds h1 r1 b ws es h2 r2
  simp only [fAddT] at p
  split at p
  · rename_i z
    refine ⟨_, _, _, _, rfl, rfl, h1, h2, r1.ne_nil z.1, by rw [r1.length, r2.length]; exact z.2.2, fun e => absurd e (r2.ne_nil z.2.1), fun _ q hq => p.newT so hq (r1.append r2)⟩
  · exact p.elim⟩
def fAdd : Op2 := orOp fAddI (orOp fAddS (orOp fAddL fAddT))
theorem dop_add : DOp X (binaryOp .Add) fAdd := dop_addI.or (dop_addS.or (dop_addL.or dop_addT))
def repOk (n : Nat) (k : Int) : Bool := decide (-(2 ^ 63) ≤ k) && decide (k < 2 ^ 63) && decide (n * k.toNat ≤ sizeLine)
def fRepL : Op2 := fun x y s => match x, y with
  | .obj m, .int k => match lstAt s m with
    | some xs => if repOk xs.length k = true then some (.obj s.length, s ++ [.lst (List.replicate k.toNat xs).flatten]) else none
    | none => none
  | _, _ => none
theorem Dts.flat {K : PySem.W.Frag} {φ : List Addr} {H : Hp} {vs : List V} {ds : List D} (r : Dts K φ H vs ds) : ∀ n : Nat, Dts K φ H (List.replicate n vs).flatten (List.replicate n ds).flatten
  | 0 => .nil
  | n + 1 => by
    rw [List.replicate_succ, List.replicate_succ, List.flatten_cons, List.flatten_cons]
    exact r.append (Dts.flat r n)
theorem dop_repL : DOp X (binaryOp .Mult) fRepL := ⟨_, op_rep, fun φ H s x y v u Q so rx ry p => by
  cases rx <;> cases ry <;> first | exact p.elim | skip
  rename_i a m ha k
  simp only [fRepL] at p
  split at p
  · rename_i xs e1
    split at p
    · rename_i z
      unfold repOk at z
      simp only [Bool.and_eq_true, decide_eq_true_eq] at z
      obtain ⟨vs, h1, r1⟩ := so.lst (lstAt_eq e1) ha
      exact ⟨a, k, vs, rfl, rfl, h1, z.1.1, z.1.2, by rw [r1.length]; exact z.2, fun q hq => p.newL so hq (r1.flat _)⟩
    · exact p.elim
  · exact p.elim⟩
def fMul : Op2 := orOp fMulI fRepL
theorem dop_mul : DOp X (binaryOp .Mult) fMul := dop_mulI.or dop_repL

/-! ### plain data -/
def omap {α β : Type} (f : α → Option β) : List α → Option (List β)
  | [] => some []
  | a :: r => match f a, omap f r with
    | some b, some bs => some (b :: bs)
    | _, _ => none
def toPy (s : Sto) : Nat → D → Option PyData
  | 0, _ => none
  | _ + 1, .non => some .none
  | _ + 1, .bl b => some (.bool b)
  | _ + 1, .int i => some (.int i)
  | _ + 1, .str x => some (.str x)
  | n + 1, .tup xs => (omap (toPy s n) xs).map .tuple
  | n + 1, .obj k => match lstAt s k with
    | some xs => (omap (toPy s n) xs).map .list
    | none => none
  | _ + 1, .adr _ => none
  | _ + 1, .ty _ => none
  | n + 1, .fz xs => (omap (toPy s n) xs).map .list
  | _ + 1, .exc _ _ _ => none
theorem omap_dp {K : PySem.W.Frag} {φ : List Addr} {H : Hp} {f : D → Option PyData} (hf : ∀ v d p, Dt K φ H v d → f d = some p → Dp K H v p) : ∀ {vs : List V} {ds : List D} {ps : List PyData}, Dts K φ H vs ds → omap f ds = some ps → DpAll K H vs ps
  | _, _, _, .nil, e => by cases e; exact .nil
  | _, _, _, .cons h r, e => by
    simp only [omap] at e
    split at e
    · rename_i b bs e1 e2
      cases e
      exact .cons (hf _ _ _ h e1) (omap_dp hf r e2)
    · cases e
theorem toPy_dp {K : PySem.W.Frag} {φ : List Addr} {H : Hp} {s : Sto} (so : So K φ H s) : ∀ (n : Nat) (v : V) (d : D) (p : PyData), Dt K φ H v d → toPy s n d = some p → Dp K H v p
  | 0, _, _, _, _, e => by cases e
  | n + 1, _, _, _, .non, e => by cases e; exact .non
  | n + 1, _, _, _, .bl b, e => by cases e; exact .bl b
  | n + 1, _, _, _, .int i, e => by cases e; exact .int i
  | n + 1, _, _, _, .str x, e => by cases e; exact .str x
  | n + 1, _, _, _, .tup h r, e => by
    simp only [toPy, Option.map_eq_some_iff] at e
    obtain ⟨ps, e, rfl⟩ := e
    exact .tup h (omap_dp (fun v d p => toPy_dp so n v d p) r e)
  | n + 1, _, _, _, .obj ha, e => by
    simp only [toPy] at e
    split at e
    · rename_i xs ex
      simp only [Option.map_eq_some_iff] at e
      obtain ⟨ps, e, rfl⟩ := e
      obtain ⟨vs, h1, r1⟩ := so.lst (lstAt_eq ex) ha
      exact .lst (SqL.of h1) (omap_dp (fun v d p => toPy_dp so n v d p) r1 e)
    · cases e
  | n + 1, _, _, _, .adr _, e => by cases e
  | n + 1, _, _, _, .ty _, e => by cases e
  | n + 1, _, _, _, .fz h r, e => by
    simp only [toPy, Option.map_eq_some_iff] at e
    obtain ⟨ps, e, rfl⟩ := e
    exact .lst h.sq (omap_dp (fun v d p => toPy_dp so n v d p) r e)
  | n + 1, _, _, _, .exc _ _, e => by cases e
/-- two data as plain ones -/
def py2 (s : Sto) (x y : D) : Option (PyData × PyData) := match toPy s 64 x, toPy s 64 y with
  | some p, some q => if (SeqAt.shaped p && SeqAt.shaped q) = true then some (p, q) else none
  | _, _ => none
theorem py2_dp {K : PySem.W.Frag} {φ : List Addr} {H : Hp} {s : Sto} (so : So K φ H s) {x y : D} {v u : V} {p q : PyData} (rx : Dt K φ H v x) (ry : Dt K φ H u y) (e : py2 s x y = some (p, q)) :
    Dp K H v p ∧ Dp K H u q ∧ SeqAt.shaped p = true ∧ SeqAt.shaped q = true := by
  unfold py2 at e
  split at e
  · rename_i a b e1 e2
    split at e
    · rename_i z
      cases e
      rw [Bool.and_eq_true] at z
      exact ⟨toPy_dp so _ _ _ _ rx e1, toPy_dp so _ _ _ _ ry e2, z.1, z.2⟩
    · cases e
  · cases e
def fEq : Op2 := fun x y s => match py2 s x y with
  | some (p, q) => some (.bl (PyData.eqv p q), s)
  | none => none
def fNe : Op2 := fun x y s => match py2 s x y with
  | some (p, q) => some (.bl (!PyData.eqv p q), s)
  | none => none
theorem dop_eq (hu : X.A.units + 64 < cLine) : DOp X (compareOp .Eq) fEq := ⟨_, op_eqD hu, fun φ H s x y v u Q so rx ry p => by
  simp only [fEq] at p
  split at p
  · rename_i a b e
    obtain ⟨h1, h2, h3, h4⟩ := py2_dp so rx ry e
    exact ⟨a, b, h1, h2, h3, h4, p.ok so (.bl _)⟩
  · exact p.elim⟩
theorem dop_ne (hu : X.A.units + 64 < cLine) : DOp X (compareOp .NotEq) fNe := ⟨_, op_neD hu, fun φ H s x y v u Q so rx ry p => by
  simp only [fNe] at p
  split at p
  · rename_i a b e
    obtain ⟨h1, h2, h3, h4⟩ := py2_dp so rx ry e
    exact ⟨a, b, h1, h2, h3, h4, p.ok so (.bl _)⟩
  · exact p.elim⟩
/-- x in a list or a tuple of plain data -/
def pyItems : PyData → Option (List PyData)
  | .list xs => some xs
  | .tuple xs => some xs
  | _ => none
def rInP (K : PySem.W.Frag) (neg : Bool) : R2 := fun x y H Q => ∃ d e ds, Dp K H x d ∧ Dp K H y e ∧ pyItems e = some ds ∧ SeqAt.shaped d = true ∧ SeqAt.shaped e = true ∧ Q (.bl (if neg then !(ds.any fun z => PyData.eqv z d) else ds.any fun z => PyData.eqv z d)) H
theorem in_room {A : Around} {d : PyData} (sd : SeqAt.shaped d = true) (n : Nat) (hu : A.units + 66 < cLine) : A.units + 1 + min n d.depth < cLine := by
  have h := SeqAt.depth_of_shaped sd
  have := Nat.min_le_right n d.depth
  omega
theorem op_inP (hu : X.A.units + 66 < cLine) : OpR X (compareOp .In) (rInP X.K false) := by
  intro pins s σ H x y v u Q I rx ry h
  obtain ⟨d, e, ds, hd, he, hi, sd, se, q⟩ := h
  obtain ⟨as, r1⟩ := Dp.reads I d x v hd rx
  obtain ⟨bs, r2⟩ := Dp.reads I e y u he ry
  cases e <;> first | cases hi | skip
  · exact SeqAt.in_list_reads r2 r1 (SeqAt.canLay_of_shaped se) (SeqAt.canLay_of_shaped sd) (in_room sd _ hu) ⟨.bl _, H, I, rfl, q⟩
  · exact SeqAt.in_tuple_reads r2 r1 (SeqAt.canLay_of_shaped se) (SeqAt.canLay_of_shaped sd) (in_room sd _ hu) ⟨.bl _, H, I, rfl, q⟩
theorem op_notInP (hu : X.A.units + 66 < cLine) : OpR X (compareOp .NotIn) (rInP X.K true) := by
  intro pins s σ H x y v u Q I rx ry h
  obtain ⟨d, e, ds, hd, he, hi, sd, se, q⟩ := h
  obtain ⟨as, r1⟩ := Dp.reads I d x v hd rx
  obtain ⟨bs, r2⟩ := Dp.reads I e y u he ry
  cases e <;> first | cases hi | skip
  · exact SeqAt.notIn_list_reads r2 r1 (SeqAt.canLay_of_shaped se) (SeqAt.canLay_of_shaped sd) (in_room sd _ hu) ⟨.bl _, H, I, rfl, q⟩
  · exact SeqAt.notIn_tuple_reads r2 r1 (SeqAt.canLay_of_shaped se) (SeqAt.canLay_of_shaped sd) (in_room sd _ hu) ⟨.bl _, H, I, rfl, q⟩
def fInP (neg : Bool) : Op2 := fun x y s => match py2 s x y with
  | some (p, q) => match pyItems q with
    | some ds => some (.bl (if neg then !(ds.any fun z => PyData.eqv z p) else ds.any fun z => PyData.eqv z p), s)
    | none => none
  | none => none
theorem dop_inP0 {fn : Value → Value → Sem Value} {neg : Bool} (ho : OpR X fn (rInP X.K neg)) : DOp X fn (fInP neg) := ⟨_, ho, fun φ H s x y v u Q so rx ry p => by
  simp only [fInP] at p
  split at p
  · rename_i a b e
    obtain ⟨h1, h2, h3, h4⟩ := py2_dp so rx ry e
    split at p
    · rename_i ds e2
      exact ⟨a, b, ds, h1, h2, e2, h3, h4, p.ok so (.bl _)⟩
    · exact p.elim
  · exact p.elim⟩
/-- a sign in a text -/
def fInS (neg : Bool) : Op2 := fun x y s => match x, y with
  | .str c, .str z => if c.cps.size = 1 then some (.bl (if neg then !(decide (c.cps.getD 0 0 ∈ z.cps.toList)) else decide (c.cps.getD 0 0 ∈ z.cps.toList)), s) else none
  | _, _ => none
theorem str_one {c : Str} (h : c.cps.size = 1) : c = ⟨#[c.cps.getD 0 0]⟩ := by
  obtain ⟨⟨l⟩⟩ := c
  match l, h with
  | [a], _ => rfl
theorem dop_inS : DOp X (compareOp .In) (fInS false) := ⟨_, op_in_sign, fun φ H s x y v u Q so rx ry p => by
  cases rx <;> cases ry <;> first | exact p.elim | skip
  rename_i c z
  simp only [fInS] at p
  split at p
  · rename_i e
    refine ⟨c.cps.getD 0 0, z, by rw [← str_one e], rfl, p.ok so (.bl _)⟩
  · exact p.elim⟩
theorem dop_notInS : DOp X (compareOp .NotIn) (fInS true) := ⟨_, op_notIn_sign, fun φ H s x y v u Q so rx ry p => by
  cases rx <;> cases ry <;> first | exact p.elim | skip
  rename_i c z
  simp only [fInS] at p
  split at p
  · rename_i e
    refine ⟨c.cps.getD 0 0, z, by rw [← str_one e], rfl, p.ok so (.bl _)⟩
  · exact p.elim⟩
def fIn : Op2 := orOp (fInS false) (fInP false)
def fNotIn : Op2 := orOp (fInS true) (fInP true)
theorem dop_in (hu : X.A.units + 66 < cLine) : DOp X (compareOp .In) fIn := dop_inS.or (dop_inP0 (op_inP hu))
theorem dop_notIn (hu : X.A.units + 66 < cLine) : DOp X (compareOp .NotIn) fNotIn := dop_notInS.or (dop_inP0 (op_notInP hu))
/-- is None -/
def isNon : D → Bool
  | .non => true
  | _ => false
def fIsN : Op2 := fun x y s => match y with
  | .non => some (.bl (isNon x), s)
  | _ => none
def fNotN : Op2 := fun x y s => match y with
  | .non => some (.bl (!isNon x), s)
  | _ => none
theorem isNon_eq {K : PySem.W.Frag} {φ : List Addr} {H : Hp} {v : V} {x : D} (r : Dt K φ H v x) : decide (v = V.non) = isNon x := by
  cases r <;> rfl
theorem dop_isN : DOp X (compareOp .Is) fIsN := ⟨_, op_isN, fun φ H s x y v u Q so rx ry p => by
  cases ry <;> first | exact p.elim | skip
  refine ⟨rfl, ?_⟩
  rw [isNon_eq rx]
  exact p.ok so (.bl _)⟩
theorem dop_notN : DOp X (compareOp .IsNot) fNotN := ⟨_, op_notN, fun φ H s x y v u Q so rx ry p => by
  cases ry <;> first | exact p.elim | skip
  refine ⟨rfl, ?_⟩
  rw [isNon_eq rx]
  exact p.ok so (.bl _)⟩
/-! ### one-place operators -/
abbrev Op1 := D → Sto → Option (D × Sto)
def lift1 (f : Op1) (x : D) : M D := fun s => match f x s with
  | some (d, s') => some (.ok d, s')
  | none => none
theorem PsO.of1 {K : PySem.W.Frag} {W : WK} {φ : List Addr} {H : Hp} {Q : VK} {f : Op1} {x : D} {s : Sto} (h : Ps K W (Dt K) φ H (fun _ v H' _ _ => Q v H') (lift1 f x s)) : PsO K φ H Q (f x s) := by
  unfold lift1 at h
  split at h
  · rename_i e
    rw [e]
    exact h
  · exact h.elim
def dOp1 (f : Op1) (da : DX) : DX := fun Δ => mbind (da Δ) (lift1 f)
def fNeg : Op1 := fun x s => match x with
  | .int i => some (.int (-i), s)
  | _ => none
theorem de_neg {W : WX} {a : Expr} {da : DX} {pos : Pos} (ha : DE X W a da) : DE X W (.UnaryOp .USub a pos) (dOp1 fNeg da) :=
  pe_imp (pe_un un_neg ha) fun σ H Q ⟨Δ, φ, s, hσ, hs, h⟩ => upE_bind hσ hs h fun φ1 v H1 x s1 f1 hσ1 hs1 rx h1 => by
    have p := PsO.of1 h1
    cases rx <;> first | exact p.elim | skip
    exact ⟨_, rfl, p.ok hs1 (.int _)⟩
/-! ### chains -/
def dChain (f g : Op2) (da db dc : DX) : DX := fun Δ => mbind (da Δ) fun x => mbind (db Δ) fun y => mbind (lift2 f x y) fun z => mbind (dBl z) fun b => if b = true then mbind (dc Δ) fun w => lift2 g y w else mret (.bl false)
/-! ### calls of built-ins -/
abbrev OpN := List D → Sto → Option (D × Sto)
def liftN (f : OpN) (x : List D) : M D := fun s => match f x s with
  | some (d, s') => some (.ok d, s')
  | none => none
theorem PsO.ofN {K : PySem.W.Frag} {W : WK} {φ : List Addr} {H : Hp} {Q : VK} {f : OpN} {x : List D} {s : Sto} (h : Ps K W (Dt K) φ H (fun _ v H' _ _ => Q v H') (liftN f x s)) : PsO K φ H Q (f x s) := by
  unfold liftN at h
  split at h
  · rename_i e
    rw [e]
    exact h
  · exact h.elim
def DCall (X : Cx) (fv : Value) (f : OpN) : Prop := ∃ r, CallR X fv r ∧ ∀ φ H s vs ds Q, So X.K φ H s → Dts X.K φ H vs ds → PsO X.K φ H Q (f ds s) → r vs H Q
def orN (f g : OpN) : OpN := fun x s => match f x s with
  | some r => some r
  | none => g x s
theorem DCall.or {fv : Value} {f g : OpN} (hf : DCall X fv f) (hg : DCall X fv g) : DCall X fv (orN f g) := by
  obtain ⟨r, h, q⟩ := hf
  obtain ⟨r', h', q'⟩ := hg
  refine ⟨fun vs H Q => r vs H Q ∨ r' vs H Q, fun pins s σ H vs us Q I rv hq => ?_, fun φ H s vs ds Q so rx p => ?_⟩
  · rcases hq with hq | hq
    · exact h pins s σ H vs us Q I rv hq
    · exact h' pins s σ H vs us Q I rv hq
  · unfold orN at p
    split at p
    · rename_i e
      exact .inl (q φ H s vs ds Q so rx (by rw [e]; exact p))
    · exact .inr (q' φ H s vs ds Q so rx p)
def dCB (f : OpN) (da : DA) : DX := fun Δ => mbind (da Δ) (liftN f)
theorem dcb_read {W : WX} {f : OpN} {r : List V → Hp → VK → Prop} (hr : ∀ φ H s vs ds Q, So X.K φ H s → Dts X.K φ H vs ds → PsO X.K φ H Q (f ds s) → r vs H Q) {da : DA} {σ : L2.St} {H : Hp} {Q : VK}
    (h : upE X.K W (dCB f da) σ H Q) : tCB r (upA X.K W da) σ H Q := by
  obtain ⟨Δ, φ, s, hσ, hs, h⟩ := h
  exact upA_bind hσ hs h fun φ1 vs H1 xs s1 f1 hσ1 hs1 rx h1 => hr φ1 H1 s1 vs xs Q hs1 rx (PsO.ofN h1)
theorem de_callB {W : WX} {x : Str} {id : String} {f : OpN} {e : Expr} {es : List Expr} {da : DA} {p pos : Pos} (hc : DCall X (.builtin id) f) (hg : Gl X x) (hm : X.mg x = none) (hv : bootBuiltins x = some (.builtin id)) (ha : DAs X W (e :: es) da)
    (hn : x ≠ "__name__" := by decide) (hdb : (x == ("__debug__" : Str)) = false := by decide) (he : starEach (e :: es) X.env = (false, eval e X.env) :: starEach es X.env := by rfl) (hpl : (backTo pos (starEach es X.env)).any (·.1) = false := by rfl) : DE X W (.Call (.Name x p) (e :: es) [] pos) (dCB f da) := by
  obtain ⟨r, h, hr⟩ := hc
  exact pe_imp (pe_callB h hg hm hv ha hn hdb he hpl) fun σ H Q q => dcb_read hr q
theorem de_callTy {W : WX} {x : Str} {T : String} {f : OpN} {e : Expr} {es : List Expr} {da : DA} {p pos : Pos} (hc : DCall X (.type T) f) (hg : Gl X x) (hm : X.mg x = none) (hv : bootBuiltins x = some (.type T)) (ha : DAs X W (e :: es) da)
    (hn : x ≠ "__name__" := by decide) (hdb : (x == ("__debug__" : Str)) = false := by decide) (he : starEach (e :: es) X.env = (false, eval e X.env) :: starEach es X.env := by rfl) (hpl : (backTo pos (starEach es X.env)).any (·.1) = false := by rfl) : DE X W (.Call (.Name x p) (e :: es) [] pos) (dCB f da) := by
  obtain ⟨r, h, hr⟩ := hc
  exact pe_imp (pe_callTy h hg hm hv ha hn hdb he hpl) fun σ H Q q => dcb_read hr q
end
end DV

namespace DV
open PySem L2 PyProof.Rows
theorem PsO.set {K : PySem.W.Frag} {φ : List Addr} {H : Hp} {Q : VK} {d : D} {s : Sto} {n : Nat} {a : Addr} {v : V} {xs : List D} {vs : List V} (h : PsO K φ H Q (some (d, s.set n (.lst xs)))) (so : So K φ H s) (ha : φ[n]? = some a) (r : Dts K φ H vs xs)
    (rv : Dt K φ (upd H a (.lst vs)) v d) : Q v (upd H a (.lst vs)) :=
  h φ _ _ (fu_set so ha) (so.set ha ⟨vs, upd_same, r.fu (fu_set so ha)⟩) rv
section
variable {X : Cx} {W : WX}
/-! ### items -/
def fIx : Op2 := fun x y s => match x, y with
  | .obj n, .int i => match lstAt s n with
    | some xs => match atI xs i with
      | some d => some (d, s)
      | none => none
    | none => none
  | .tup xs, .int i => match atI xs i with
    | some d => some (d, s)
    | none => none
  | .str z, .int i => if z.length ≤ sizeLine then match atI z.cps.toList i with
    | some c => some (.str ⟨#[c]⟩, s)
    | none => none else none
  | _, _ => none
theorem atI_dts {K : PySem.W.Frag} {φ : List Addr} {H : Hp} {vs : List V} {ds : List D} (r : Dts K φ H vs ds) {i : Int} {d : D} (h : atI ds i = some d) : ∃ v, atI vs i = some v ∧ Dt K φ H v d := by
  unfold atI at h ⊢
  rw [r.length]
  cases e : ixN ds.length i with
  | none => rw [e] at h; cases h
  | some j =>
    rw [e] at h
    exact r.get h
theorem dx_read {φ : List Addr} {H : Hp} {s : Sto} {x y : D} {v u : V} {Q : VK} (so : So X.K φ H s) (rx : Dt X.K φ H v x) (ry : Dt X.K φ H u y) (p : PsO X.K φ H Q (fIx x y s)) : rIx X.K v u H Q := by
  cases rx <;> cases ry <;> first | exact p.elim | skip
  · rename_i z i
    simp only [fIx] at p
    split at p
    · rename_i hz
      split at p
      · rename_i c e
        exact .inr (.inr ⟨z, i, c, rfl, rfl, hz, e, p.ok so (.str _)⟩)
      · exact p.elim
    · exact p.elim
  · rename_i a vs ds h r i
    simp only [fIx] at p
    split at p
    · rename_i d e
      obtain ⟨w, h1, h2⟩ := atI_dts r e
      exact .inr (.inl ⟨a, vs, i, w, rfl, rfl, h, h1, p.ok so h2⟩)
    · exact p.elim
  · rename_i a n ha i
    simp only [fIx] at p
    split at p
    · rename_i xs e
      split at p
      · rename_i d e2
        obtain ⟨vs, h1, r1⟩ := so.lst (lstAt_eq e) ha
        obtain ⟨w, h3, h4⟩ := atI_dts r1 e2
        exact .inl ⟨a, vs, i, w, rfl, rfl, SqL.of h1, h3, p.ok so h4⟩
      · exact p.elim
    · exact p.elim
theorem de_ix {a b : Expr} {da db : DX} {pos : Pos} (ha : DE X W a da) (hb : DE X W b db) (hs : PlainIx b := by exact fun _ _ => rfl) : DE X W (.Subscript a b pos) (dOp fIx da db) :=
  pe_imp (pe_ix ix_seq ha hb hs) fun σ H Q q => dop_read (r := rIx X.K) (fun φ H s x y v u Q so rx ry p => dx_read so rx ry p) q
/-! ### slices -/
abbrev DPt := Dn → M (Option Int)
def dNoPt : DPt := fun _ => mret none
def dPt (da : DX) : DPt := fun Δ => mbind (da Δ) fun x => match x with
  | .int i => mret (some i)
  | _ => mfail
def upO (K : PySem.W.Frag) (W : WX) (dp : DPt) : TO := fun σ H Q => ∃ Δ φ s, Sg K φ H σ Δ ∧ So K φ H s ∧ Ps K (wAt W σ) (fun _ _ (b b' : Option Int) => b = b') φ H (fun _ v H' _ _ => Q v H') (dp Δ s)
def DPO (X : Cx) (W : WX) (e : Option Expr) (dp : DPt) : Prop := PO X e (upO X.K W dp)
theorem po_imp {e : Option Expr} {t t' : TO} (h : PO X e t) (f : ∀ σ H Q, t' σ H Q → t σ H Q) : PO X e t' := ⟨fun pins s σ H Q I q => h.run pins s σ H Q I (f _ _ _ q)⟩
theorem dp_none : DPO X W none dNoPt := po_imp po_none fun σ H Q ⟨Δ, φ, s, hσ, hs, h⟩ => h.ok hs rfl
theorem dp_some {e : Expr} {da : DX} (h : DE X W e da) : DPO X W (some e) (dPt da) := po_imp (po_some h) fun σ H Q ⟨Δ, φ, s, hσ, hs, h⟩ => upE_bind hσ hs h fun φ1 v H1 x s1 f1 hσ1 hs1 rx h1 => by
  cases rx <;> first | exact h1.elim | skip
  exact ⟨_, rfl, h1.ok hs1 rfl⟩
def cutD (xs : List D) (lo hi : Option Int) : List D := (xs.drop (HT.sIx xs.length 0 lo)).take (HT.sIx xs.length xs.length hi - HT.sIx xs.length 0 lo)
theorem cut_dts {K : PySem.W.Frag} {φ : List Addr} {H : Hp} {vs : List V} {ds : List D} (r : Dts K φ H vs ds) (lo hi : Option Int) : Dts K φ H (cutV vs lo hi) (cutD ds lo hi) := by
  unfold cutV cutD
  rw [r.length]
  exact (r.drop _).take _
abbrev OpS := D → Option Int → Option Int → Sto → Option (D × Sto)
def liftS (f : OpS) (x : D) (lo hi : Option Int) : M D := fun s => match f x lo hi s with
  | some (d, s') => some (.ok d, s')
  | none => none
theorem PsO.ofS {K : PySem.W.Frag} {W : WK} {φ : List Addr} {H : Hp} {Q : VK} {f : OpS} {x : D} {lo hi : Option Int} {s : Sto} (h : Ps K W (Dt K) φ H (fun _ v H' _ _ => Q v H') (liftS f x lo hi s)) : PsO K φ H Q (f x lo hi s) := by
  unfold liftS at h
  split at h
  · rename_i e
    rw [e]
    exact h
  · exact h.elim
/-- list or text -/
def fSl : OpS := fun x lo hi s => match x with
  | .obj n => match lstAt s n with
    | some xs => some (.obj s.length, s ++ [.lst (cutD xs lo hi)])
    | none => none
  | .str z => if z.length ≤ sizeLine then some (.str (cutS z lo hi), s) else none
  | .fz xs => some (.obj s.length, s ++ [.lst (cutD xs lo hi)])
  | _ => none
def dSl (f : OpS) (da : DX) (dl dh : DPt) : DX := fun Δ => mbind (da Δ) fun x => mbind (dl Δ) fun lo => mbind (dh Δ) fun hi => liftS f x lo hi
theorem upO_bind {K : PySem.W.Frag} {W : WX} {γ δ : Type} {R' : List Addr → Hp → δ → γ → Prop} {σ : L2.St} {Δ : Dn} {φ : List Addr} {H : Hp} {s : Sto} {C : List Addr → δ → Hp → γ → Sto → Prop} {de : DPt} {k : Option Int → M γ} {Q : Option Int → Hp → Prop} (hσ : Sg K φ H σ Δ) (hs : So K φ H s)
    (h : Ps K (wAt W σ) R' φ H C (mbind (de Δ) k s)) (q : ∀ φ1 H1 d s1, Fu K φ φ1 H H1 → Sg K φ1 H1 σ Δ → So K φ1 H1 s1 → Ps K (wAt W σ) R' φ1 H1 C (k d s1) → Q d H1) : upO K W de σ H Q :=
  ⟨Δ, φ, s, hσ, hs, Ps.mono (fun φ1 v H1 d s1 z => by
    obtain ⟨z1, z2, z3, z4⟩ := z
    subst z3
    exact q φ1 H1 _ s1 z1 (hσ.fu z1) z2 z4) (Ps.bind h)⟩
theorem de_sl {e : Expr} {lo hi : Option Expr} {da : DX} {dl dh : DPt} {pos p2 : Pos} (he : DE X W e da) (hl : DPO X W lo dl) (hh : DPO X W hi dh) : DE X W (.Subscript e (.Slice lo hi none p2) pos) (dSl fSl da dl dh) :=
  pe_imp (pe_slice (sl_list.or sl_str) he hl hh) fun σ H Q ⟨Δ, φ, s, hσ, hs, h⟩ => upE_bind hσ hs h fun φ1 v H1 x s1 f1 hσ1 hs1 rx h1 =>
    upO_bind hσ1 hs1 h1 fun φ2 H2 l s2 f2 hσ2 hs2 h2 => upO_bind hσ2 hs2 h2 fun φ3 H3 u s3 f3 hσ3 hs3 h3 => by
      have p := PsO.ofS h3
      have rx3 := (rx.fu f2).fu f3
      cases rx3 <;> first | exact p.elim | skip
      · rename_i z
        simp only [fSl] at p
        split at p
        · rename_i hz
          exact .inr ⟨z, rfl, hz, p.ok hs3 (.str _)⟩
        · exact p.elim
      · rename_i a n ha
        simp only [fSl] at p
        split at p
        · rename_i xs e
          obtain ⟨vs, k, r⟩ := hs3.lst (lstAt_eq e) ha
          exact .inl ⟨a, vs, rfl, SqL.of k, fun q hq => p.newL hs3 hq (cut_dts r _ _)⟩
        · exact p.elim
      · rename_i a vs ds h r
        exact .inl ⟨a, vs, rfl, h.sq, fun q hq => p.newL hs3 hq (cut_dts r _ _)⟩
/-! ### built-in calls -/
def fLen : OpN := fun xs s => match xs with
  | [.obj n] => match lstAt s n with
    | some xs => some (.int xs.length, s)
    | none => none
  | [.tup xs] => some (.int xs.length, s)
  | [.str z] => if z.length ≤ sizeLine then some (.int z.length, s) else none
  | _ => none
theorem dc_len : DCall X (.builtin "len") fLen := by
  refine ⟨fun vs H Q => (∃ p ys, vs = [.ref p] ∧ (SqL X.K H p ys ∨ SqT X.K H p ys) ∧ Q (.int ys.length) H) ∨ (∃ z, vs = [.str z] ∧ z.length ≤ sizeLine ∧ Q (.int z.length) H), fun pins s σ H vs us Q I rv hq => ?_, fun φ H s vs ds Q so rx p => ?_⟩
  · rcases hq with hq | hq
    · exact call_len_seq pins s σ H vs us Q I rv hq
    · exact call_len_str pins s σ H vs us Q I rv hq
  · cases rx with
    | nil => exact p.elim
    | cons r1 r2 =>
      cases r2 with
      | cons _ _ => cases r1 <;> exact p.elim
      | nil =>
        cases r1 <;> first | exact p.elim | skip
        · rename_i z
          simp only [fLen] at p
          split at p
          · rename_i hz
            exact .inr ⟨z, rfl, hz, p.ok so (.int _)⟩
          · exact p.elim
        · rename_i a vs ds h r
          exact .inl ⟨a, vs, rfl, .inr h, by rw [r.length]; exact p.ok so (.int _)⟩
        · rename_i a n ha
          simp only [fLen] at p
          split at p
          · rename_i xs e
            obtain ⟨vs, k, r⟩ := so.lst (lstAt_eq e) ha
            exact .inl ⟨a, vs, rfl, .inl (SqL.of k), by rw [r.length]; exact p.ok so (.int _)⟩
          · exact p.elim
def fInt : OpN := fun xs s => match xs with
  | [.int i] => some (.int i, s)
  | [.bl k] => some (.int (if k then 1 else 0), s)
  | _ => none
theorem dts1 {K : PySem.W.Frag} {φ : List Addr} {H : Hp} {vs : List V} {x : D} (r : Dts K φ H vs [x]) : ∃ v, vs = [v] ∧ Dt K φ H v x := by
  cases r with
  | cons r1 r2 => cases r2; exact ⟨_, rfl, r1⟩
theorem dts2 {K : PySem.W.Frag} {φ : List Addr} {H : Hp} {vs : List V} {x y : D} (r : Dts K φ H vs [x, y]) : ∃ v u, vs = [v, u] ∧ Dt K φ H v x ∧ Dt K φ H u y := by
  cases r with
  | cons r1 r2 => cases r2 with
    | cons r2 r3 => cases r3; exact ⟨_, _, rfl, r1, r2⟩
theorem dc_int : DCall X (.type "int") fInt := ⟨_, call_int1, fun φ H s vs ds Q so rx p => by
  unfold fInt at p
  split at p
  · obtain ⟨v, rfl, r⟩ := dts1 rx
    cases r
    exact .inl ⟨_, rfl, p.ok so (.int _)⟩
  · obtain ⟨v, rfl, r⟩ := dts1 rx
    cases r
    exact .inr ⟨_, rfl, p.ok so (.int _)⟩
  · exact p.elim⟩
def fBool : OpN := fun xs s => match xs with
  | [.int i] => some (.bl (i != 0), s)
  | [.bl k] => some (.bl k, s)
  | _ => none
theorem dc_bool : DCall X (.type "bool") fBool := ⟨_, call_bool1, fun φ H s vs ds Q so rx p => by
  unfold fBool at p
  split at p
  · obtain ⟨v, rfl, r⟩ := dts1 rx
    cases r
    exact .inl ⟨_, rfl, p.ok so (.bl _)⟩
  · obtain ⟨v, rfl, r⟩ := dts1 rx
    cases r
    exact .inr ⟨_, rfl, p.ok so (.bl _)⟩
  · exact p.elim⟩
def maxI (i j : Int) : Int := if j > i then j else i
def minI (i j : Int) : Int := if j < i then j else i
def intsOf : List D → Option (List Int)
  | [] => some []
  | .int i :: r => (intsOf r).map (i :: ·)
  | _ :: _ => none
theorem intsOf_eq : ∀ {xs : List D} {ns : List Int}, intsOf xs = some ns → xs = ns.map D.int
  | [], _, e => by cases e; rfl
  | .int i :: r, _, e => by
    simp only [intsOf, Option.map_eq_some_iff] at e
    obtain ⟨ms, e, rfl⟩ := e
    rw [intsOf_eq e]
    rfl
  | .non :: _, _, e => by cases e
  | .bl _ :: _, _, e => by cases e
  | .str _ :: _, _, e => by cases e
  | .tup _ :: _, _, e => by cases e
  | .obj _ :: _, _, e => by cases e
  | .adr _ :: _, _, e => by cases e
  | .ty _ :: _, _, e => by cases e
  | .fz _ :: _, _, e => by cases e
def maxL : List Int → Int
  | [] => 0
  | a :: r => r.foldl maxI a
def minL : List Int → Int
  | [] => 0
  | a :: r => r.foldl minI a
theorem fold_max : ∀ (r : List Int) (a : Int), (r.foldl maxI a ∈ a :: r) ∧ ∀ y ∈ a :: r, y ≤ r.foldl maxI a
  | [], a => ⟨by simp, fun y hy => by simp at hy; subst hy; exact Int.le_refl _⟩
  | b :: r, a => by
    obtain ⟨h1, h2⟩ := fold_max r (maxI a b)
    have hm : maxI a b = a ∨ maxI a b = b := by unfold maxI; split <;> simp
    have h0 : a ≤ maxI a b ∧ b ≤ maxI a b := by unfold maxI; split <;> omega
    refine ⟨?_, fun y hy => ?_⟩
    · rw [List.foldl_cons]
      rcases List.mem_cons.mp h1 with h1 | h1
      · rw [h1]; rcases hm with h | h <;> rw [h] <;> simp
      · simp [h1]
    · rw [List.foldl_cons]
      have h3 := h2 (maxI a b) (by simp)
      rcases List.mem_cons.mp hy with rfl | hy
      · exact Int.le_trans h0.1 h3
      · rcases List.mem_cons.mp hy with rfl | hy
        · exact Int.le_trans h0.2 h3
        · exact h2 y (List.mem_cons_of_mem _ hy)
theorem fold_min : ∀ (r : List Int) (a : Int), (r.foldl minI a ∈ a :: r) ∧ ∀ y ∈ a :: r, r.foldl minI a ≤ y
  | [], a => ⟨by simp, fun y hy => by simp at hy; subst hy; exact Int.le_refl _⟩
  | b :: r, a => by
    obtain ⟨h1, h2⟩ := fold_min r (minI a b)
    have hm : minI a b = a ∨ minI a b = b := by unfold minI; split <;> simp
    have h0 : minI a b ≤ a ∧ minI a b ≤ b := by unfold minI; split <;> omega
    refine ⟨?_, fun y hy => ?_⟩
    · rw [List.foldl_cons]
      rcases List.mem_cons.mp h1 with h1 | h1
      · rw [h1]; rcases hm with h | h <;> rw [h] <;> simp
      · simp [h1]
    · rw [List.foldl_cons]
      have h3 := h2 (minI a b) (by simp)
      rcases List.mem_cons.mp hy with rfl | hy
      · exact Int.le_trans h3 h0.1
      · rcases List.mem_cons.mp hy with rfl | hy
        · exact Int.le_trans h3 h0.2
        · exact h2 y (List.mem_cons_of_mem _ hy)
theorem maxL_of {ns : List Int} {m : Int} (h0 : 0 < ns.length) (h1 : m ∈ ns) (h2 : ∀ y ∈ ns, y ≤ m) : m = maxL ns := by
  cases ns with
  | nil => cases h0
  | cons a r =>
    obtain ⟨h3, h4⟩ := fold_max r a
    exact Int.le_antisymm (h4 m h1) (h2 _ h3)
theorem minL_of {ns : List Int} {m : Int} (h0 : 0 < ns.length) (h1 : m ∈ ns) (h2 : ∀ y ∈ ns, m ≤ y) : m = minL ns := by
  cases ns with
  | nil => cases h0
  | cons a r =>
    obtain ⟨h3, h4⟩ := fold_min r a
    exact Int.le_antisymm (h2 _ h3) (h4 m h1)
theorem lst_ints {K : PySem.W.Frag} {φ : List Addr} {H : Hp} {s : Sto} {n : Nat} {a : Addr} {xs : List D} {ns : List Int} (so : So K φ H s) (e : lstAt s n = some xs) (e2 : intsOf xs = some ns) (ha : φ[n]? = some a) : SqL K H a (ns.map V.int) := by
  obtain ⟨vs, k, r⟩ := so.lst (lstAt_eq e) ha
  rw [intsOf_eq e2] at r
  rw [r.ints] at k
  exact SqL.of k
/-- of a list of ints -/
def fLs (g : List Int → Int) (c : List Int → Bool) : OpN := fun xs s => match xs with
  | [.obj n] => match lstAt s n with
    | some ys => match intsOf ys with
      | some ns => if c ns = true then some (.int (g ns), s) else none
      | none => none
    | none => none
  | _ => none
theorem fls_read {g : List Int → Int} {c : List Int → Bool} {φ : List Addr} {H : Hp} {s : Sto} {vs : List V} {ds : List D} {Q : VK} (so : So X.K φ H s) (rx : Dts X.K φ H vs ds) (p : PsO X.K φ H Q (fLs g c ds s)) :
    ∃ (a : Addr) (ns : List Int), vs = [V.ref a] ∧ SqL X.K H a (ns.map V.int) ∧ c ns = true ∧ Q (.int (g ns)) H := by
  unfold fLs at p
  split at p
  · obtain ⟨v, rfl, r⟩ := dts1 rx
    cases r
    rename_i n a ha
    split at p
    · rename_i ys e
      split at p
      · rename_i ns e2
        split at p
        · rename_i hc
          exact ⟨a, ns, rfl, lst_ints so e e2 ha, hc, p.ok so (.int _)⟩
        · exact p.elim
      · exact p.elim
    · exact p.elim
  · exact p.elim
def fSum : OpN := fLs List.sum fun _ => true
theorem dc_sum (hc : X.calm = true) : DCall X (.builtin "sum") fSum := ⟨_, cr_sum hc, fun φ H s vs ds Q so rx p => by
  obtain ⟨a, ns, h1, h2, _, h3⟩ := fls_read so rx p
  exact ⟨a, ns, h1, h2, h3⟩⟩
def fMaxL : OpN := fLs maxL fun ns => decide (0 < ns.length)
def fMinL : OpN := fLs minL fun ns => decide (0 < ns.length)
theorem dc_maxL (hc : X.calm = true) : DCall X (.builtin "max") fMaxL := ⟨_, cr_max hc, fun φ H s vs ds Q so rx p => by
  obtain ⟨a, ns, h1, h2, h0, h3⟩ := fls_read so rx p
  exact ⟨a, ns, h1, h2, of_decide_eq_true h0, fun m hm hy => by rw [maxL_of (of_decide_eq_true h0) hm hy]; exact h3⟩⟩
theorem dc_minL (hc : X.calm = true) : DCall X (.builtin "min") fMinL := ⟨_, cr_min hc, fun φ H s vs ds Q so rx p => by
  obtain ⟨a, ns, h1, h2, h0, h3⟩ := fls_read so rx p
  exact ⟨a, ns, h1, h2, of_decide_eq_true h0, fun m hm hy => by rw [minL_of (of_decide_eq_true h0) hm hy]; exact h3⟩⟩
def f2I (g : Int → Int → Int) : OpN := fun xs s => match xs with
  | [.int i, .int j] => some (.int (g i j), s)
  | _ => none
theorem dc_max2 (hc : X.calm = true) : DCall X (.builtin "max") (f2I maxI) := ⟨_, call_max2 hc, fun φ H s vs ds Q so rx p => by
  unfold f2I at p
  split at p
  · obtain ⟨v, u, rfl, r1, r2⟩ := dts2 rx
    cases r1
    cases r2
    exact ⟨_, _, rfl, p.ok so (.int _)⟩
  · exact p.elim⟩
theorem dc_min2 (hc : X.calm = true) : DCall X (.builtin "min") (f2I minI) := ⟨_, call_min2 hc, fun φ H s vs ds Q so rx p => by
  unfold f2I at p
  split at p
  · obtain ⟨v, u, rfl, r1, r2⟩ := dts2 rx
    cases r1
    cases r2
    exact ⟨_, _, rfl, p.ok so (.int _)⟩
  · exact p.elim⟩
def fMax : OpN := orN (f2I maxI) fMaxL
def fMin : OpN := orN (f2I minI) fMinL
theorem dc_max (hc : X.calm = true) : DCall X (.builtin "max") fMax := (dc_max2 hc).or (dc_maxL hc)
theorem dc_min (hc : X.calm = true) : DCall X (.builtin "min") fMin := (dc_min2 hc).or (dc_minL hc)
/-- list(x), tuple(x) -/
def fTuple : OpN := fun xs s => match xs with
  | [.obj n] => match lstAt s n with
    | some ys => some (.tup ys, s)
    | none => none
  | [.tup ys] => some (.tup ys, s)
  | _ => none
theorem dc_tuple : DCall X (.type "tuple") fTuple := ⟨_, call_tuple_of, fun φ H s vs ds Q so rx p => by
  unfold fTuple at p
  split at p
  · obtain ⟨v, rfl, r⟩ := dts1 rx
    cases r
    rename_i n a ha
    split at p
    · rename_i ys e
      obtain ⟨ws, k, r⟩ := so.lst (lstAt_eq e) ha
      exact ⟨a, ws, rfl, .inl ⟨SqL.of k, fun l hl => p.newT so hl r⟩⟩
    · exact p.elim
  · obtain ⟨v, rfl, r⟩ := dts1 rx
    cases r
    rename_i h r
    exact ⟨_, _, rfl, .inr ⟨h, p.ok so (.tup h r)⟩⟩
  · exact p.elim⟩
def fList : OpN := fun xs s => match xs with
  | [.obj n] => match lstAt s n with
    | some ys => some (.obj s.length, s ++ [.lst ys])
    | none => none
  | [.tup ys] => some (.obj s.length, s ++ [.lst ys])
  | _ => none
theorem dc_list : DCall X (.type "list") fList := ⟨_, call_list_of, fun φ H s vs ds Q so rx p => by
  unfold fList at p
  split at p
  · obtain ⟨v, rfl, r⟩ := dts1 rx
    cases r
    rename_i n a ha
    split at p
    · rename_i ys e
      obtain ⟨ws, k, r⟩ := so.lst (lstAt_eq e) ha
      exact ⟨a, ws, rfl, .inl (SqL.of k), fun l hl => p.newL so hl r⟩
    · exact p.elim
  · obtain ⟨v, rfl, r⟩ := dts1 rx
    cases r
    rename_i h r
    exact ⟨_, _, rfl, .inr h, fun l hl => p.newL so hl r⟩
  · exact p.elim⟩
/-- isinstance of a built-in type -/
inductive Kd where
  | non | bl | int | str | tup | lst | dct
def Kd.name : Kd → String
  | .non => "NoneType" | .bl => "bool" | .int => "int" | .str => "str" | .tup => "tuple" | .lst => "list" | .dct => "dict"
def kdOf (x : D) (s : Sto) : Option Kd := match x with
  | .non => some .non
  | .bl _ => some .bl
  | .int _ => some .int
  | .str _ => some .str
  | .tup _ => some .tup
  | .obj n => match s[n]? with
    | some (.lst _) => some .lst
    | some (.dK _) => some .dct
    | some (.dT _) => some .dct
    | _ => none
  | _ => none
def Kd.is (k : Kd) (n : String) : Bool := match k with
  | .bl => n == "bool" || n == "int"
  | k => k.name == n
def tyNames : List String := ["bool", "int", "str", "tuple", "list", "dict"]
theorem kd_ok : ∀ n ∈ tyNames, ∀ k : Kd, kitB k.name n = some (k.is n) := by
  intro n hn k
  simp only [tyNames, List.mem_cons, List.not_mem_nil, or_false] at hn
  rcases hn with rfl | rfl | rfl | rfl | rfl | rfl <;> cases k <;> decide +kernel
def fIsi : OpN := fun xs s => match xs with
  | [x, .ty n] => if n ∈ tyNames then match kdOf x s with
    | some k => some (.bl (k.is n), s)
    | none => none else none
  | _ => none
theorem kd_ty {φ : List Addr} {H : Hp} {s : Sto} {v : V} {x : D} {k : Kd} (so : So X.K φ H s) (r : Dt X.K φ H v x) (e : kdOf x s = some k) : TyX X.K H v (.type k.name) := by
  cases r <;> first | (cases e; done) | skip
  · cases e; exact .base (.non)
  · cases e; exact .base (.bl _)
  · cases e; exact .base (.int _)
  · cases e; exact .base (.str _)
  · cases e
    rename_i h r
    rcases h with (h | ⟨o, h⟩) | ⟨o, its, n, h, hc, _⟩
    · exact .base (.tup h)
    · exact .fTuple h
    · exact .kTuple h hc
  · rename_i a n ha
    simp only [kdOf] at e
    split at e
    · cases e
      rename_i q
      obtain ⟨b, hb, vs, k, _⟩ := so.at q
      rw [ha] at hb
      cases hb
      exact .base (.lst k)
    · cases e
      rename_i q
      obtain ⟨b, hb, vs, k, _⟩ := so.at q
      rw [ha] at hb
      cases hb
      exact .base (.dK k)
    · cases e
      rename_i q
      obtain ⟨b, hb, vs, k, _⟩ := so.at q
      rw [ha] at hb
      cases hb
      exact .base (.dT k)
    · cases e
theorem dc_isi : DCall X (.builtin "isinstance") fIsi := ⟨_, call_isi, fun φ H s vs ds Q so rx p => by
  unfold fIsi at p
  split at p
  · rename_i x n
    obtain ⟨v, u, rfl, r1, r2⟩ := dts2 rx
    cases r2
    split at p
    · rename_i hn
      split at p
      · rename_i k e
        exact ⟨v, .ty n, .type k.name, .type n, k.is n, rfl, .ty n, kd_ty so r1 e, kit_ty (kd_ok n hn k), p.ok so (.bl _)⟩
      · exact p.elim
    · exact p.elim
  · exact p.elim⟩
end
end DV

namespace DV
open PySem L2 PyProof.Rows
/-! ### methods of built-in types -/
abbrev OpM := D → List D → Sto → Option (D × Sto)
def liftM (f : OpM) (x : D) (xs : List D) : M D := fun s => match f x xs s with
  | some (d, s') => some (.ok d, s')
  | none => none
theorem PsO.ofM {K : PySem.W.Frag} {W : WK} {φ : List Addr} {H : Hp} {Q : VK} {f : OpM} {x : D} {xs : List D} {s : Sto} (h : Ps K W (Dt K) φ H (fun _ v H' _ _ => Q v H') (liftM f x xs s)) : PsO K φ H Q (f x xs s) := by
  unfold liftM at h
  split at h
  · rename_i e
    rw [e]
    exact h
  · exact h.elim
/-- the receiver has the type T -/
def tyD (T : String) (x : D) (s : Sto) : Bool := match x with
  | .str _ => T == "str"
  | .int _ => T == "int"
  | .obj n => match s[n]? with
    | some (.lst _) => T == "list"
    | some (.dK _) => T == "dict"
    | some (.dT _) => T == "dict"
    | _ => false
  | _ => false
theorem tyD_ok {K : PySem.W.Frag} {φ : List Addr} {H : Hp} {s : Sto} {T : String} {v : V} {x : D} (so : So K φ H s) (r : Dt K φ H v x) (e : tyD T x s = true) : tyV K T v H := by
  cases r <;> first | (cases e; done) | skip
  · exact eq_of_beq e
  · exact eq_of_beq e
  · rename_i a n ha
    simp only [tyD] at e
    split at e
    · rename_i q
      obtain ⟨b, hb, vs, k, _⟩ := so.at q
      rw [ha] at hb
      cases hb
      exact .inl ⟨eq_of_beq e, vs, SqL.of k⟩
    · rename_i q
      obtain ⟨b, hb, vs, k, _⟩ := so.at q
      rw [ha] at hb
      cases hb
      exact .inr (.inr (.inl ⟨eq_of_beq e, .inl ⟨vs, k⟩⟩))
    · rename_i q
      obtain ⟨b, hb, vs, k, _⟩ := so.at q
      rw [ha] at hb
      cases hb
      exact .inr (.inr (.inl ⟨eq_of_beq e, .inr ⟨vs, k⟩⟩))
    · cases e
def DMt (X : Cx) (id : String) (f : OpM) : Prop := ∃ r, MtR X id r ∧ ∀ φ H s v x vs xs Q, So X.K φ H s → Dt X.K φ H v x → Dts X.K φ H vs xs → PsO X.K φ H Q (f x xs s) → r v vs H Q
def orM (f g : OpM) : OpM := fun x xs s => match f x xs s with
  | some r => some r
  | none => g x xs s
def mTy (T : String) (x : D) : M Unit := fun s => if tyD T x s = true then some (.ok (), s) else none
def dBM (T : String) (f : OpM) (dx : DX) (da : DA) : DX := fun Δ => mbind (dx Δ) fun x => mbind (mTy T x) fun _ => mbind (da Δ) fun xs => liftM f x xs
section
variable {X : Cx} {W : WX}
theorem mTy_bind {K : PySem.W.Frag} {φ : List Addr} {H : Hp} {s : Sto} {T : String} {x : D} {γ δ : Type} {R' : List Addr → Hp → δ → γ → Prop} {W : WK} {C : List Addr → δ → Hp → γ → Sto → Prop} {k : Unit → M γ}
    (h : Ps K W R' φ H C (mbind (mTy T x) k s)) : tyD T x s = true ∧ Ps K W R' φ H C (k () s) := by
  unfold mbind mTy at h
  by_cases e : tyD T x s = true
  · rw [if_pos e] at h
    exact ⟨e, h⟩
  · rw [if_neg e] at h
    exact h.elim
theorem de_bm {T id : String} {name : Str} {f : OpM} {o e : Expr} {es : List Expr} {dx : DX} {da : DA} {apos cpos : Pos} (pa : PlainAttrs T) (slot : Slot T name id) (hty : typeOf (.builtin id) = pure (.type "method_descriptor")) (hm : DMt X id f) (ho : DE X W o dx) (ha : DAs X W (e :: es) da)
    (hbase : attributeBase o name X.env (eval o X.env) = eval o X.env := by rfl)
    (hfew : ((backTo cpos (starEach (e :: es) X.env)).all (fun x => !x.1) && (backToKw cpos (keywordEach [] X.env)).all (fun x => x.1.isSome) && decide ((e :: es).length + ([] : List Keyword).length + (if ([] : List Keyword).isEmpty then 0 else 1) < 30)) = true := by rfl)
    (hline : (apos.endLine == cpos.line) = true := by rfl) (hs : starEach (e :: es) X.env = (false, eval e X.env) :: starEach es X.env := by rfl) (hplain : (backTo cpos (starEach es X.env)).any (·.1) = false := by rfl) :
    DE X W (.Call (.Attribute o name apos) (e :: es) [] cpos) (dBM T f dx da) := by
  obtain ⟨r, h, hr⟩ := hm
  exact pe_imp (pe_bm pa slot hty h ho ha hbase hfew hline hs hplain) fun σ H Q ⟨Δ, φ, s, hσ, hs, h⟩ => upE_bind hσ hs h fun φ1 v H1 x s1 f1 hσ1 hs1 rx h1 => by
    obtain ⟨ty, h1⟩ := mTy_bind h1
    exact ⟨tyD_ok hs1 rx ty, upA_bind hσ1 hs1 h1 fun φ2 vs H2 xs s2 f2 hσ2 hs2 rs h2 => hr φ2 H2 s2 v x vs xs Q hs2 (rx.fu f2) rs (PsO.ofM h2)⟩
theorem de_bm0 {T id : String} {name : Str} {f : OpM} {o : Expr} {dx : DX} {apos cpos : Pos} (pa : PlainAttrs T) (slot : Slot T name id) (hty : typeOf (.builtin id) = pure (.type "method_descriptor")) (hm : DMt X id f) (ho : DE X W o dx)
    (hbase : attributeBase o name X.env (eval o X.env) = eval o X.env := by rfl) (hline : (apos.endLine == cpos.line) = true := by rfl) : DE X W (.Call (.Attribute o name apos) [] [] cpos) (dBM T f dx dNil) := by
  obtain ⟨r, h, hr⟩ := hm
  exact pe_imp (pe_bm0 pa slot hty h ho hbase hline) fun σ H Q ⟨Δ, φ, s, hσ, hs, h⟩ => upE_bind hσ hs h fun φ1 v H1 x s1 f1 hσ1 hs1 rx h1 => by
    obtain ⟨ty, h1⟩ := mTy_bind h1
    exact ⟨tyD_ok hs1 rx ty, hr φ1 H1 s1 v x [] [] Q hs1 rx .nil (PsO.ofM h1)⟩
def fAppend : OpM := fun x xs s => match x, xs with
  | .obj n, [y] => match lstAt s n with
    | some ys => if ys.length < sizeLine then some (.non, s.set n (.lst (ys ++ [y]))) else none
    | none => none
  | _, _ => none
theorem dm_append : DMt X "list.append" fAppend := ⟨_, mt_append, fun φ H s v x vs xs Q so rx rs p => by
  unfold fAppend at p
  split at p
  · rename_i n y
    obtain ⟨u, rfl, r⟩ := dts1 rs
    cases rx
    rename_i a ha
    split at p
    · rename_i ys e
      split at p
      · rename_i hz
        obtain ⟨ws, k, rw⟩ := so.lst (lstAt_eq e) ha
        exact ⟨a, ws, u, rfl, rfl, k, by rw [rw.length]; exact hz, p.set so ha (rw.append (.cons r .nil)) .non⟩
      · exact p.elim
    · exact p.elim
  · exact p.elim⟩
def fExtend : OpM := fun x xs s => match x, xs with
  | .obj n, [.obj m] => match lstAt s n, lstAt s m with
    | some ys, some zs => if ys.length + zs.length ≤ sizeLine then some (.non, s.set n (.lst (ys ++ zs))) else none
    | _, _ => none
  | _, _ => none
theorem dm_extend : DMt X "list.extend" fExtend := ⟨_, mt_extend, fun φ H s v x vs xs Q so rx rs p => by
  unfold fExtend at p
  split at p
  · rename_i n m
    obtain ⟨u, rfl, r⟩ := dts1 rs
    cases rx
    cases r
    rename_i a ha b hb
    split at p
    · rename_i ys zs e e'
      split at p
      · rename_i hz
        obtain ⟨ws, k, rw⟩ := so.lst (lstAt_eq e) ha
        obtain ⟨ws', k', rw'⟩ := so.lst (lstAt_eq e') hb
        exact ⟨a, b, ws, ws', rfl, rfl, k, k', by rw [rw.length, rw'.length]; exact hz, p.set so ha (rw.append rw') .non⟩
      · exact p.elim
    · exact p.elim
  · exact p.elim⟩
def fClear : OpM := fun x xs s => match x, xs with
  | .obj n, [] => match lstAt s n with
    | some _ => some (.non, s.set n (.lst []))
    | none => none
  | _, _ => none
theorem dm_clear : DMt X "list.clear" fClear := ⟨_, mt_clear, fun φ H s v x vs xs Q so rx rs p => by
  unfold fClear at p
  split at p
  · rename_i n
    cases rs
    cases rx
    rename_i a ha
    split at p
    · rename_i ys e
      obtain ⟨ws, k, rw⟩ := so.lst (lstAt_eq e) ha
      exact ⟨a, ws, rfl, rfl, k, p.set so ha .nil .non⟩
    · exact p.elim
  · exact p.elim⟩
/-- texts: of one text -/
def fS1 (g : Str → Str → D) (c : Str → Bool) : OpM := fun x xs s => match x, xs with
  | .str a, [.str b] => if c a = true then some (g a b, s) else none
  | _, _ => none
theorem dm_S1 {id : String} {g : Str → Str → D} {gV : Str → Str → V} {c : Str → Bool} {C : Str → Prop} (hr : MtR X id (fun x xs H Q => ∃ a b, x = .str a ∧ xs = [.str b] ∧ C a ∧ Q (gV a b) H)) (hc : ∀ a, c a = true → C a) (hg : ∀ a b φ H, Dt X.K φ H (gV a b) (g a b)) : DMt X id (fS1 g c) :=
  ⟨_, hr, fun φ H s v x vs xs Q so rx rs p => by
  unfold fS1 at p
  split at p
  · obtain ⟨u, rfl, r⟩ := dts1 rs
    cases rx
    cases r
    split at p
    · rename_i hz
      exact ⟨_, _, rfl, rfl, hc _ hz, p.ok so (hg _ _ _ _)⟩
    · exact p.elim
  · exact p.elim⟩
def lenOk (a : Str) : Bool := decide (a.length ≤ sizeLine)
def fStrip : OpM := fS1 (fun a b => .str (Txt.stripChars a b)) lenOk
theorem dm_strip : DMt X "str.strip" fStrip := dm_S1 mt_stripChars (fun _ h => of_decide_eq_true h) fun _ _ _ _ => .str _
def fRstrip : OpM := fS1 (fun a b => .str (Txt.rstripChars a b)) lenOk
theorem dm_rstrip : DMt X "str.rstrip" fRstrip := dm_S1 mt_rstripChars (fun _ h => of_decide_eq_true h) fun _ _ _ _ => .str _
def fEndswith : OpM := fS1 (fun a b => .bl (Txt.endswith a b)) fun _ => true
theorem dm_endswith : DMt X "str.endswith" fEndswith := ⟨_, mt_endswith, fun φ H s v x vs xs Q so rx rs p => by
  unfold fEndswith fS1 at p
  split at p
  · obtain ⟨u, rfl, r⟩ := dts1 rs
    cases rx
    cases r
    rw [if_pos rfl] at p
    exact ⟨_, _, rfl, rfl, p.ok so (.bl _)⟩
  · exact p.elim⟩
def strsOf : List D → Option (List Str)
  | [] => some []
  | .str i :: r => (strsOf r).map (i :: ·)
  | _ :: _ => none
theorem strsOf_dts {K : PySem.W.Frag} {φ : List Addr} {H : Hp} : ∀ {vs : List V} {xs : List D} {ys : List Str}, Dts K φ H vs xs → strsOf xs = some ys → vs = ys.map V.str
  | _, _, _, .nil, e => by cases e; rfl
  | _, _, _, .cons (.str i) r, e => by
    simp only [strsOf, Option.map_eq_some_iff] at e
    obtain ⟨ms, e, rfl⟩ := e
    rw [strsOf_dts r e]
    rfl
  | _, _, _, .cons .non _, e => by cases e
  | _, _, _, .cons (.bl _) _, e => by cases e
  | _, _, _, .cons (.int _) _, e => by cases e
  | _, _, _, .cons (.tup _ _) _, e => by cases e
  | _, _, _, .cons (.obj _) _, e => by cases e
  | _, _, _, .cons (.adr _) _, e => by cases e
  | _, _, _, .cons (.ty _) _, e => by cases e
  | _, _, _, .cons (.fz _ _) _, e => by cases e
def joinOk (a : Str) (ys : List Str) : Bool := decide ((ys.map (·.length)).sum + ys.length * a.length ≤ 16777216)
def fJoin : OpM := fun x xs s => match x, xs with
  | .str a, [.obj n] => match lstAt s n with
    | some zs => match strsOf zs with
      | some ys => if joinOk a ys = true then some (.str (Txt.join a ys), s) else none
      | none => none
    | none => none
  | _, _ => none
theorem dm_join : DMt X "str.join" fJoin := ⟨_, mt_join, fun φ H s v x vs xs Q so rx rs p => by
  unfold fJoin at p
  split at p
  · rename_i a n
    obtain ⟨u, rfl, r⟩ := dts1 rs
    cases rx
    cases r
    rename_i b hb
    split at p
    · rename_i zs e
      split at p
      · rename_i ys e2
        split at p
        · rename_i hz
          obtain ⟨ws, k, rw⟩ := so.lst (lstAt_eq e) hb
          rw [strsOf_dts rw e2] at k
          exact ⟨a, b, ys, rfl, rfl, .inl (SqL.of k), of_decide_eq_true hz, p.ok so (.str _)⟩
        · exact p.elim
      · exact p.elim
    · exact p.elim
  · exact p.elim⟩
/-- n.bit_length() -/
def fBits : Op1 := fun x s => match x with
  | .int i => some (.int (Builtin.Int.intBits i : Nat), s)
  | _ => none
theorem de_bits {o : Expr} {da : DX} {apos pos : Pos} (ho : DE X W o da) (hbase : attributeBase o "bit_length" X.env (eval o X.env) = eval o X.env := by rfl) (hline : (apos.endLine == pos.line) = true := by rfl) : DE X W (.Call (.Attribute o "bit_length" apos) [] [] pos) (dOp1 fBits da) :=
  pe_imp (pe_bits ho hbase hline) fun σ H Q ⟨Δ, φ, s, hσ, hs, h⟩ => upE_bind hσ hs h fun φ1 v H1 x s1 f1 hσ1 hs1 rx h1 => by
    have p := PsO.of1 h1
    cases rx <;> first | exact p.elim | skip
    exact ⟨_, rfl, p.ok hs1 (.int _)⟩
/-! ### fields of instances -/
theorem Prs.lookup {R : V → D → Prop} : ∀ {vs : List (Str × V)} {ds : List (Str × D)} {f : Str} {d : D}, Prs R vs ds → ds.lookup f = some d → ∃ v, vs.lookup f = some v ∧ R v d
  | _, _, f, _, .cons (k := k) h r, e => by
    rw [List.lookup_cons] at e ⊢
    split at e
    · cases e
      exact ⟨_, rfl, h⟩
    · exact Prs.lookup r e
theorem Prs.lookup_none {R : V → D → Prop} : ∀ {vs : List (Str × V)} {ds : List (Str × D)} {f : Str}, Prs R vs ds → ds.lookup f = none → vs.lookup f = none
  | _, _, _, .nil, _ => rfl
  | _, _, f, .cons (k := k) h r, e => by
    rw [List.lookup_cons] at e ⊢
    split at e
    · cases e
    · exact Prs.lookup_none r e
def insAt (s : Sto) (n : Nat) : Option (Addr × List (Str × D)) := match s[n]? with
  | some (.ins C fs) => some (C, fs)
  | _ => none
theorem insAt_eq {s : Sto} {n : Nat} {C : Addr} {fs : List (Str × D)} (h : insAt s n = some (C, fs)) : s[n]? = some (.ins C fs) := by
  unfold insAt at h
  split at h
  · cases h; assumption
  · cases h
/-- e.f of an instance of the class C -/
def fFld (C : Addr) (f : Str) : Op1 := fun x s => match x with
  | .obj n => match insAt s n with
    | some (C', fs) => if C' = C then match fs.lookup f with
      | some d => some (d, s)
      | none => none else none
    | none => none
  | _ => none
theorem de_fld {C : Addr} {f : Str} {e : Expr} {da : DX} {pos : Pos} (c : Cls X.K C) (nf : NoAttr X.K C f) (he : DE X W e da) (hb : attributeBase e f X.env (eval e X.env) = eval e X.env := by rfl) : DE X W (.Attribute e f pos) (dOp1 (fFld C f) da) :=
  pe_imp (pe_fld he hb) fun σ H Q ⟨Δ, φ, s, hσ, hs, h⟩ => upE_bind hσ hs h fun φ1 v H1 x s1 f1 hσ1 hs1 rx h1 => by
    have p := PsO.of1 h1
    unfold fFld at p
    split at p
    · rename_i n
      cases rx
      rename_i a ha
      split at p
      · rename_i C' fs e
        split at p
        · rename_i hC
          subst hC
          split at p
          · rename_i d e2
            obtain ⟨b, hb, dx, vs, k, r⟩ := hs1.at (insAt_eq e)
            rw [ha] at hb
            cases hb
            obtain ⟨w, h3, h4⟩ := r.lookup e2
            exact ⟨a, _, dx, vs, w, rfl, k, c, nf, h3, p.ok hs1 h4⟩
          · exact p.elim
        · exact p.elim
      · exact p.elim
    · exact p.elim
end
end DV

namespace DV
open PySem L2 PyProof.Rows
/-! ### statements -/
inductive SR where
  | nx (Δ : Dn) | rt (d : D) | bk (Δ : Dn) | ct (Δ : Dn) | ex (x : Xc) (Δ : Dn)
abbrev RS := Option (SR × Sto)
abbrev DS := Dn → Sto → RS
def PsS (K : PySem.W.Frag) (W : WX) (D : Ends) (φ : List Addr) (H : Hp) : RS → Prop
  | some (.nx Δ, s') => ∀ φ' σ' H', Fu K φ φ' H H' → So K φ' H' s' → Sg K φ' H' σ' Δ → D.nx σ' H'
  | some (.rt d, s') => ∀ φ' v H', Fu K φ φ' H H' → So K φ' H' s' → Dt K φ' H' v d → D.rt v H'
  | some (.bk Δ, s') => ∀ φ' σ' H', Fu K φ φ' H H' → So K φ' H' s' → Sg K φ' H' σ' Δ → D.bk σ' H'
  | some (.ct Δ, s') => ∀ φ' σ' H', Fu K φ φ' H H' → So K φ' H' s' → Sg K φ' H' σ' Δ → D.ct σ' H'
  | some (.ex x Δ, s') => ∀ φ' σ' H' c dd, Fu K φ φ' H H' → So K φ' H' s' → Sg K φ' H' σ' Δ → Xr K φ' H' c dd x → W c dd σ' H'
  | none => False
def upS (K : PySem.W.Frag) (W : WX) (ds : DS) : TS := fun D σ H => ∃ Δ φ s, Sg K φ H σ Δ ∧ So K φ H s ∧ PsS K W D φ H (ds Δ s)
def DSt (X : Cx) (W : WX) (st : Stmt) (ds : DS) : Prop := PS X st (upS X.K W ds)
def DSs (X : Cx) (W : WX) (sts : List Stmt) (ds : DS) : Prop := PSs X sts (upS X.K W ds)
theorem ps_imp {X : Cx} {st : Stmt} {t t' : TS} (h : PS X st t) (f : ∀ D σ H, t' D σ H → t D σ H) : PS X st t' := ⟨fun pins s σ H D I q => h.run pins s σ H D I (f _ _ _ q)⟩
theorem pss_imp {X : Cx} {st : List Stmt} {t t' : TS} (h : PSs X st t) (f : ∀ D σ H, t' D σ H → t D σ H) : PSs X st t' := ⟨fun pins s σ H D I q => h.run pins s σ H D I (f _ _ _ q)⟩
section
variable {K : PySem.W.Frag} {W : WX} {D : Ends} {φ φ' : List Addr} {H H' : Hp} {s s' : Sto} {σ : L2.St} {Δ : Dn}
theorem PsS.shift (f : Fu K φ φ' H H') : ∀ {r : RS}, PsS K W D φ H r → PsS K W D φ' H' r
  | some (.nx Δ, s'), h => fun ψ b G g so q => h ψ b G (f.trans g) so q
  | some (.rt Δ, s'), h => fun ψ b G g so q => h ψ b G (f.trans g) so q
  | some (.bk Δ, s'), h => fun ψ b G g so q => h ψ b G (f.trans g) so q
  | some (.ct Δ, s'), h => fun ψ b G g so q => h ψ b G (f.trans g) so q
  | some (.ex x Δ, s'), h => fun ψ b G c dd g so q x => h ψ b G c dd (f.trans g) so q x
  | none, h => h
/-- an expression, then -/
def sbind {α : Type} (m : M α) (Δ : Dn) (k : α → Sto → RS) : Sto → RS := fun s => match m s with
  | some (.ok a, s') => k a s'
  | some (.error x, s') => some (.ex x Δ, s')
  | none => none
theorem sb {α β : Type} {R : List Addr → Hp → β → α → Prop} {m : M α} {k : α → Sto → RS} (hσ : Sg K φ H σ Δ) (h : PsS K W D φ H (sbind m Δ k s)) :
    Ps K (wAt W σ) R φ H (fun φ1 b H1 a s1 => Fu K φ φ1 H H1 ∧ So K φ1 H1 s1 ∧ R φ1 H1 b a ∧ PsS K W D φ1 H1 (k a s1)) (m s) := by
  unfold sbind at h
  cases e : m s with
  | none => rw [e] at h; exact h.elim
  | some p =>
    obtain ⟨r, s'⟩ := p
    cases r with
    | ok a => rw [e] at h; exact fun ψ b G g so q => ⟨g, so, q, h.shift g⟩
    | error x => rw [e] at h; exact fun ψ G c dd g so q => h ψ σ G c dd g so (hσ.fu g) q
theorem sbE {de : DX} {k : DV.D → Sto → RS} {Q : VK} (hσ : Sg K φ H σ Δ) (hs : So K φ H s) (h : PsS K W D φ H (sbind (de Δ) Δ k s))
    (q : ∀ φ1 v H1 d s1, Fu K φ φ1 H H1 → Sg K φ1 H1 σ Δ → So K φ1 H1 s1 → Dt K φ1 H1 v d → PsS K W D φ1 H1 (k d s1) → Q v H1) : upE K W de σ H Q :=
  ⟨Δ, φ, s, hσ, hs, Ps.mono (fun φ1 v H1 d s1 z => q φ1 v H1 d s1 z.1 (hσ.fu z.1) z.2.1 z.2.2.1 z.2.2.2) (sb hσ h)⟩
theorem sbT {dt : DT} {k : Bool → Sto → RS} {Q : Bool → Hp → Prop} (hσ : Sg K φ H σ Δ) (hs : So K φ H s) (h : PsS K W D φ H (sbind (dt Δ) Δ k s))
    (q : ∀ φ1 b H1 s1, Fu K φ φ1 H H1 → Sg K φ1 H1 σ Δ → So K φ1 H1 s1 → PsS K W D φ1 H1 (k b s1) → Q b H1) : upT K W dt σ H Q :=
  ⟨Δ, φ, s, hσ, hs, Ps.mono (fun φ1 v H1 d s1 z => by
    obtain ⟨z1, z2, z3, z4⟩ := z
    subst z3
    exact q φ1 _ H1 s1 z1 (hσ.fu z1) z2 z4) (sb hσ h)⟩
end
/-! ### targets -/
theorem Dt.tupI {K : PySem.W.Frag} {φ : List Addr} {H : Hp} {v : V} {xs : List D} (h : Dt K φ H v (.tup xs)) : ∃ a vs, v = .ref a ∧ SqT K H a vs ∧ Dts K φ H vs xs := by
  cases h with
  | tup h r => exact ⟨_, _, rfl, h, r⟩
abbrev DGf := D → Dn → Sto → Option (Dn × Sto)
def PsG (K : PySem.W.Frag) (φ : List Addr) (H : Hp) (Q : L2.St → Hp → Prop) : Option (Dn × Sto) → Prop
  | some (Δ, s') => ∀ φ' σ' H', Fu K φ φ' H H' → So K φ' H' s' → Sg K φ' H' σ' Δ → Q σ' H'
  | none => False
def upG (K : PySem.W.Frag) (g : DGf) : TG := fun v σ H Q => ∃ d Δ φ s, Dt K φ H v d ∧ Sg K φ H σ Δ ∧ So K φ H s ∧ PsG K φ H Q (g d Δ s)
def upGs (K : PySem.W.Frag) (g : List D → Dn → Sto → Option (Dn × Sto)) : TGs := fun v σ H Q => ∃ d Δ φ s, Dts K φ H v d ∧ Sg K φ H σ Δ ∧ So K φ H s ∧ PsG K φ H Q (g d Δ s)
def DGt (X : Cx) (e : Expr) (g : DGf) : Prop := PG X e (upG X.K g)
def DGs (X : Cx) (es : List Expr) (g : List D → Dn → Sto → Option (Dn × Sto)) : Prop := PGs X es (upGs X.K g)
theorem pg_imp {X : Cx} {e : Expr} {t t' : TG} (h : PG X e t) (f : ∀ v σ H Q, t' v σ H Q → t v σ H Q) : PG X e t' := ⟨fun pins s σ H v u Q I r q => h.run pins s σ H v u Q I r (f _ _ _ _ q)⟩
theorem pgs_imp {X : Cx} {e : List Expr} {t t' : TGs} (h : PGs X e t) (f : ∀ v σ H Q, t' v σ H Q → t v σ H Q) : PGs X e t' := ⟨fun pins s σ H v u Q I r q => h.run pins s σ H v u Q I r (f _ _ _ _ q)⟩
theorem PsG.shift {K : PySem.W.Frag} {φ φ' : List Addr} {H H' : Hp} {Q : L2.St → Hp → Prop} (f : Fu K φ φ' H H') : ∀ {r : Option (Dn × Sto)}, PsG K φ H Q r → PsG K φ' H' Q r
  | some (Δ, s'), h => fun ψ b G g so q => h ψ b G (f.trans g) so q
  | none, h => h
def gN (i : Nat) : DGf := fun d Δ s => some (Δ.set i (some d), s)
def gsNil : List D → Dn → Sto → Option (Dn × Sto) := fun ds Δ s => match ds with
  | [] => some (Δ, s)
  | _ => none
def gsCons (g : DGf) (r : List D → Dn → Sto → Option (Dn × Sto)) : List D → Dn → Sto → Option (Dn × Sto) := fun ds Δ s => match ds with
  | d :: ds => match g d Δ s with
    | some (Δ1, s1) => r ds Δ1 s1
    | none => none
  | _ => none
def gTp (n : Nat) (g : List D → Dn → Sto → Option (Dn × Sto)) : DGf := fun d Δ s => match d with
  | .tup xs => if xs.length = n then g xs Δ s else none
  | _ => none
section
variable {X : Cx} {W : WX}
theorem dg_name {i : Nat} {x : Str} {pos : Pos} (hN : X.N.Nodup) (hi : X.N[i]? = some x := by rfl) (hx : Loc X.env.scope x := by first | exact Or.inl rfl | exact Or.inr rfl) (hf : X.fn x = true ∨ X.env.scope.names.lookup x = some .local := by first | exact .inl rfl | exact .inr rfl) : DGt X (.Name x pos) (gN i) :=
  pg_imp (pg_name hN hi hx hf) fun v σ H Q ⟨d, Δ, φ, s, rd, hσ, hs, h⟩ => h φ _ H (Fu.refl _ _) hs (hσ.set rd i)
theorem dgs_nil : DGs X [] gsNil := pgs_imp pgs_nil fun v σ H Q ⟨d, Δ, φ, s, rd, hσ, hs, h⟩ => by
  cases rd with
  | nil => exact ⟨rfl, h φ _ H (Fu.refl _ _) hs hσ⟩
  | cons _ _ => exact h.elim
theorem dgs_cons {e : Expr} {es : List Expr} {g : DGf} {r : List D → Dn → Sto → Option (Dn × Sto)} (h1 : DGt X e g) (h2 : DGs X es r) (hs : (assignEach (e :: es) X.env).map (·.2) = assign e X.env :: (assignEach es X.env).map (·.2) := by rfl) : DGs X (e :: es) (gsCons g r) := pgs_imp (pgs_cons h1 h2 hs) fun v σ H Q ⟨d, Δ, φ, s, rd, hσ, hs, h⟩ => by
  cases rd with
  | nil => exact h.elim
  | cons q rq =>
    rename_i v vs d ds
    refine ⟨_, _, rfl, _, Δ, φ, s, q, hσ, hs, ?_⟩
    simp only [gsCons] at h
    split at h
    · rename_i Δ1 s1 e
      rw [e]
      exact fun ψ σ' G f so hg => ⟨_, Δ1, ψ, s1, rq.fu f, hg, so, h.shift f⟩
    · exact h.elim
theorem dg_tup {es : List Expr} {k : Nat} {g : List D → Dn → Sto → Option (Dn × Sto)} {n : Nat} (hc : X.calm = true) (h : DGs X es g) (hn : (assignEach es X.env).length = n := by rfl) (hst : (assignEach es X.env).findIdx? (·.1) = none := by rfl) {pos : Pos} :
    DGt X (.Tuple es k pos) (gTp n g) := pg_imp (pg_tup hc h hn hst) fun v σ H Q ⟨d, Δ, φ, s, rd, hσ, hs, h⟩ => by
  unfold gTp at h
  split at h
  · rename_i xs
    obtain ⟨a, vs, rfl, hq, r⟩ := rd.tupI
    split at h
    · rename_i hn
      exact ⟨_, _, rfl, hq, by rw [r.length]; exact hn, _, Δ, φ, s, r, hσ, hs, h⟩
    · exact h.elim
  · exact h.elim
/-- o[i] = ., a list -/
def fSet : D → D → D → Sto → Option Sto := fun o i d s => match o, i with
  | .obj n, .int k => match lstAt s n with
    | some xs => match ixN xs.length k with
      | some j => some (s.set n (.lst (xs.set j d)))
      | none => none
    | none => none
  | _, _ => none
def gSb (f : D → D → D → Sto → Option Sto) (do_ di : DX) : DGf := fun d Δ s => match do_ Δ s with
  | some (.ok o, s1) => match di Δ s1 with
    | some (.ok i, s2) => match f o i d s2 with
      | some s3 => some (Δ, s3)
      | none => none
    | _ => none
  | _ => none
theorem upE_at {K : PySem.W.Frag} {de : DX} {σ : L2.St} {Δ : Dn} {φ : List Addr} {H : Hp} {s s1 : Sto} {d : D} {Q : VK} (hσ : Sg K φ H σ Δ) (hs : So K φ H s) (e : de Δ s = some (.ok d, s1)) (q : ∀ φ1 v H1, Fu K φ φ1 H H1 → Sg K φ1 H1 σ Δ → So K φ1 H1 s1 → Dt K φ1 H1 v d → Q v H1) : upE K W de σ H Q :=
  ⟨Δ, φ, s, hσ, hs, by rw [e]; exact fun φ1 v H1 f so r => q φ1 v H1 f (hσ.fu f) so r⟩
theorem dg_sub {o i : Expr} {eo ei : DX} {pos : Pos} (ho : DE X W o eo) (hi : DE X W i ei)
    (ha : ∀ v, assign (.Subscript o i pos) X.env v = (do let ov ← holding [v] (eval o X.env); let iv ← holding [v, ov] (eval i X.env); standAt pos; holding [v, ov, iv] (setItem ov iv v); release [v, ov, iv] []) := by intro _; rfl) : DGt X (.Subscript o i pos) (gSb fSet eo ei) := pg_imp (pg_sub ho hi set_list ha) fun v σ H Q ⟨d, Δ, φ, s, rd, hσ, hs, h⟩ => by
  unfold gSb at h
  split at h
  · rename_i od s1 e1
    refine upE_at hσ hs e1 fun φ1 vo H1 f1 hσ1 hs1 ro => ?_
    split at h
    · rename_i idd s2 e2
      refine upE_at hσ1 hs1 e2 fun φ2 vi H2 f2 hσ2 hs2 ri => ?_
      have ro2 := ro.fu f2
      have rd2 := (rd.fu f1).fu f2
      split at h
      · rename_i s3 e3
        unfold fSet at e3
        split at e3
        · cases ro2
          cases ri
          rename_i a ha
          split at e3
          · rename_i xs e4
            split at e3
            · rename_i j e5
              cases e3
              obtain ⟨vs, k, r⟩ := hs2.lst (lstAt_eq e4) ha
              refine ⟨a, vs, _, j, rfl, rfl, k, by rw [r.length]; exact e5, ?_⟩
              have fu2 : Fu X.K φ2 φ2 H2 (upd H2 a (.lst (vs.set j v))) := fu_set hs2 ha
              exact h φ2 _ _ ((f1.trans f2).trans fu2) (hs2.set ha ⟨_, upd_same, (r.set rd2 j).fu fu2⟩) (hσ2.fu fu2)
            · cases e3
          · cases e3
        · cases e3
      · exact h.elim
    · exact h.elim
  · exact h.elim
/-! ### the statements -/
def dAsg (de : DX) (g : DGf) : DS := fun Δ => sbind (de Δ) Δ fun d s => match g d Δ s with
  | some (Δ', s') => some (.nx Δ', s')
  | none => none
theorem ds_asg {tg e : Expr} {de : DX} {g : DGf} {pos : Pos} (he : DE X W e de) (hg : DGt X tg g) (hs : swapsWithSole [tg] e pos.line X.env = pure false := by rfl) (hw : swappedStores [tg] e X.env = pure none := by rfl) (h1 : (assignEach [tg] X.env).map (·.2) = [assign tg X.env] := by rfl) : DSt X W (.Assign [tg] e pos) (dAsg de g) :=
  ps_imp (ps_asg he hg hs hw h1) fun D σ H ⟨Δ, φ, s, hσ, hs, h⟩ => sbE hσ hs h fun φ1 v H1 d s1 f1 hσ1 hs1 rd h1 => by
    refine ⟨d, Δ, φ1, s1, rd, hσ1, hs1, ?_⟩
    split at h1
    · rename_i Δ' s' e
      rw [e]
      exact h1
    · exact h1.elim
theorem ds_set {i : Nat} {x : Str} {e : Expr} {de : DX} {pos pos' : Pos} (hN : X.N.Nodup) (he : DE X W e de) (hi : X.N[i]? = some x := by rfl) (hx : Loc X.env.scope x := by first | exact Or.inl rfl | exact Or.inr rfl) (hs : swapsWith e (some (.Name x pos')) pos.line X.env = pure false := by rfl)
    (hf : X.fn x = true ∨ X.env.scope.names.lookup x = some .local := by first | exact .inl rfl | exact .inr rfl) : DSt X W (.Assign [.Name x pos'] e pos) (dAsg de (gN i)) :=
  ps_imp (ps_set hN hi hx he hs hf) fun D σ H ⟨Δ, φ, s, hσ, hs, h⟩ => sbE hσ hs h fun φ1 v H1 d s1 f1 hσ1 hs1 rd h1 => h1 φ1 _ H1 (Fu.refl _ _) hs1 (hσ1.set rd i)
def dDrop (de : DX) : DS := fun Δ => sbind (de Δ) Δ fun _ s => some (.nx Δ, s)
theorem ds_expr {e : Expr} {de : DX} {pos : Pos} (he : DE X W e de) (hs : swapsWith e none pos.line X.env = pure false := by rfl) : DSt X W (.Expr e pos) (dDrop de) :=
  ps_imp (ps_expr he hs) fun D σ H ⟨Δ, φ, s, hσ, hs, h⟩ => sbE hσ hs h fun φ1 v H1 d s1 f1 hσ1 hs1 rd h1 => h1 φ1 _ H1 (Fu.refl _ _) hs1 hσ1
def dRet (de : DX) : DS := fun Δ => sbind (de Δ) Δ fun d s => some (.rt d, s)
theorem ds_ret {e : Expr} {de : DX} {pos : Pos} (he : DE X W e de) : DSt X W (.Return (some e) pos) (dRet de) :=
  ps_imp (ps_ret he) fun D σ H ⟨Δ, φ, s, hσ, hs, h⟩ => sbE hσ hs h fun φ1 v H1 d s1 f1 hσ1 hs1 rd h1 => h1 φ1 _ H1 (Fu.refl _ _) hs1 rd
def dRetN : DS := fun _ s => some (.rt .non, s)
theorem ds_retN {pos : Pos} : DSt X W (.Return none pos) dRetN := ps_imp ps_retN fun D σ H ⟨Δ, φ, s, hσ, hs, h⟩ => h φ _ H (Fu.refl _ _) hs .non
def dNx : DS := fun Δ s => some (.nx Δ, s)
def dBk : DS := fun Δ s => some (.bk Δ, s)
def dCt : DS := fun Δ s => some (.ct Δ, s)
theorem ds_pass {pos : Pos} : DSt X W (.Pass pos) dNx := ps_imp ps_pass fun D σ H ⟨Δ, φ, s, hσ, hs, h⟩ => h φ _ H (Fu.refl _ _) hs hσ
theorem ds_break {pos : Pos} : DSt X W (.Break pos) dBk := ps_imp ps_break fun D σ H ⟨Δ, φ, s, hσ, hs, h⟩ => h φ _ H (Fu.refl _ _) hs hσ
theorem ds_continue {pos : Pos} : DSt X W (.Continue pos) dCt := ps_imp ps_continue fun D σ H ⟨Δ, φ, s, hσ, hs, h⟩ => h φ _ H (Fu.refl _ _) hs hσ
/-- what is never reached -/
def dStop : DS := fun _ _ => none
theorem ds_never {st : Stmt} : DSt X W st dStop := ps_imp ps_never fun D σ H ⟨Δ, φ, s, hσ, hs, h⟩ => h.elim
theorem dss_never {st : List Stmt} : DSs X W st dStop := pss_imp pss_never fun D σ H ⟨Δ, φ, s, hσ, hs, h⟩ => h.elim
def dSeq (a b : DS) : DS := fun Δ s => match a Δ s with
  | some (.nx Δ', s') => b Δ' s'
  | r => r
theorem seq_read {K : PySem.W.Frag} {D : Ends} {a b : DS} {Δ : Dn} {φ : List Addr} {H : Hp} {s : Sto} (h : PsS K W D φ H (dSeq a b Δ s)) : PsS K W { D with nx := upS K W b D } φ H (a Δ s) := by
  unfold dSeq at h
  split at h
  · rename_i Δ' s' e
    rw [e]
    exact fun ψ σ' G f so hg => ⟨Δ', ψ, s', hg, so, h.shift f⟩
  · rename_i r
    cases e : a Δ s with
    | none => rw [e] at h; exact h.elim
    | some p =>
      obtain ⟨q, s'⟩ := p
      rw [e] at h
      cases q with
      | nx Δ' => exact absurd e (r _ _)
      | rt d => exact h
      | bk d => exact h
      | ct d => exact h
      | ex x d => exact h
theorem dss_nil : DSs X W [] dNx := pss_imp pss_nil fun D σ H ⟨Δ, φ, s, hσ, hs, h⟩ => h φ _ H (Fu.refl _ _) hs hσ
theorem dss_cons {st : Stmt} {rest : List Stmt} {a b : DS} (h1 : DSt X W st a) (h2 : DSs X W rest b) : DSs X W (st :: rest) (dSeq a b) :=
  pss_imp (pss_cons h1 h2) fun D σ H ⟨Δ, φ, s, hσ, hs, h⟩ => ⟨Δ, φ, s, hσ, hs, seq_read h⟩
theorem dss_one {st : Stmt} {a : DS} (h1 : DSt X W st a) : DSs X W [st] a := pss_one h1
def dIfS (t : DT) (a b : DS) : DS := fun Δ => sbind (t Δ) Δ fun c s => if c = true then a Δ s else b Δ s
theorem ds_if {c : Expr} {p q : List Stmt} {t : DT} {a b : DS} {pos : Pos} (hc : DTe X W c t) (ha : DSs X W p a) (hb : DSs X W q b) : DSt X W (.If c p q pos) (dIfS t a b) :=
  ps_imp (ps_if hc ha hb) fun D σ H ⟨Δ, φ, s, hσ, hs, h⟩ => sbT hσ hs h fun φ1 c H1 s1 f1 hσ1 hs1 h1 => by
    cases c with
    | true => exact iteT ⟨Δ, φ1, s1, hσ1, hs1, h1⟩
    | false => exact iteF ⟨Δ, φ1, s1, hσ1, hs1, h1⟩
/-! ### while -/
def whRun (t : DT) (b : DS) : Nat → DS
  | 0 => fun _ _ => none
  | n + 1 => fun Δ => sbind (t Δ) Δ fun c s => if c = true then (match b Δ s with
    | some (.nx Δ', s') => whRun t b n Δ' s'
    | some (.ct Δ', s') => whRun t b n Δ' s'
    | some (.bk Δ', s') => some (.nx Δ', s')
    | r => r) else some (.nx Δ, s)
theorem ds_while (n : Nat) {c : Expr} {body : List Stmt} {t : DT} {b : DS} {pos : Pos} (hp : PassesOwn (model X.prog X.w) X.A X.env X.xe) (hc : DTe X W c t) (hb : DSs X W body b) : DSt X W (.While c body [] pos) (whRun t b n) :=
  ps_imp (ps_while hp hc hb) fun D σ H ⟨Δ, φ, s, hσ, hs, h⟩ => by
    refine ⟨fun m σ H => ∃ Δ φ s, Sg X.K φ H σ Δ ∧ So X.K φ H s ∧ PsS X.K W D φ H (whRun t b m Δ s), ⟨n, Δ, φ, s, hσ, hs, h⟩, ?_⟩
    rintro m σ H ⟨Δ, φ, s, hσ, hs, h⟩
    cases m with
    | zero => exact h.elim
    | succ m =>
      refine sbT hσ hs h fun φ1 c H1 s1 f1 hσ1 hs1 h1 => ?_
      cases c with
      | false => exact iteF (h1 φ1 _ H1 (Fu.refl _ _) hs1 hσ1)
      | true =>
        refine iteT ⟨fun σ' H' => ∃ Δ φ s, Sg X.K φ H' σ' Δ ∧ So X.K φ H' s ∧ PsS X.K W D φ H' (whRun t b m Δ s), fun σ' H' w => ⟨m, Nat.lt_succ_self m, w⟩, Δ, φ1, s1, hσ1, hs1, ?_⟩
        rw [if_pos rfl] at h1
        cases e : b Δ s1 with
        | none => rw [e] at h1; exact h1.elim
        | some p =>
          obtain ⟨q, s'⟩ := p
          rw [e] at h1
          cases q with
          | nx Δ' => exact fun ψ σ' G f so hg => ⟨Δ', ψ, s', hg, so, h1.shift f⟩
          | ct Δ' => exact fun ψ σ' G f so hg => ⟨Δ', ψ, s', hg, so, h1.shift f⟩
          | rt d => exact h1
          | bk d => exact h1
          | ex x d => exact h1
end
end DV

namespace DV
open PySem L2 PyProof.Rows
/-! ### what a loop walks -/
mutual
def D.beq : D → D → Bool
  | .non, .non => true
  | .bl a, .bl b => a == b
  | .int a, .int b => a == b
  | .str a, .str b => decide (a = b)
  | .tup xs, .tup ys => D.beqs xs ys
  | .obj a, .obj b => a == b
  | .adr a, .adr b => a == b
  | .ty a, .ty b => a == b
  | .fz xs, .fz ys => D.beqs xs ys
  | .exc c ks xs, .exc d ls ys => c == d && decide (ks = ls) && D.beqs xs ys
  | _, _ => false
def D.beqs : List D → List D → Bool
  | [], [] => true
  | x :: xs, y :: ys => D.beq x y && D.beqs xs ys
  | _, _ => false
end
mutual
theorem D.beq_eq : ∀ {x y : D}, D.beq x y = true → x = y
  | .non, .non, _ => rfl
  | .bl a, .bl b, h => by rw [eq_of_beq (show (a == b) = true from h)]
  | .int a, .int b, h => by rw [eq_of_beq (show (a == b) = true from h)]
  | .str a, .str b, h => by rw [of_decide_eq_true (show decide (a = b) = true from h)]
  | .tup xs, .tup ys, h => by rw [D.beqs_eq (show D.beqs xs ys = true from h)]
  | .obj a, .obj b, h => by rw [eq_of_beq (show (a == b) = true from h)]
  | .adr a, .adr b, h => by rw [eq_of_beq (show (a == b) = true from h)]
  | .ty a, .ty b, h => by rw [eq_of_beq (show (a == b) = true from h)]
  | .fz xs, .fz ys, h => by rw [D.beqs_eq (show D.beqs xs ys = true from h)]
  | .exc c ks xs, .exc d ls ys, h => by
    have h : (c == d && decide (ks = ls) && D.beqs xs ys) = true := h
    rw [Bool.and_eq_true, Bool.and_eq_true] at h
    rw [eq_of_beq h.1.1, of_decide_eq_true h.1.2, D.beqs_eq h.2]
theorem D.beqs_eq : ∀ {xs ys : List D}, D.beqs xs ys = true → xs = ys
  | [], [], _ => rfl
  | x :: xs, y :: ys, h => by
    have h : (D.beq x y && D.beqs xs ys) = true := h
    rw [Bool.and_eq_true] at h
    rw [D.beq_eq h.1, D.beqs_eq h.2]
end
mutual
theorem D.beq_self : ∀ x : D, D.beq x x = true
  | .non => rfl
  | .bl a => beq_self_eq_true a
  | .int a => beq_self_eq_true a
  | .str a => decide_eq_true rfl
  | .tup xs => D.beqs_self xs
  | .obj a => beq_self_eq_true a
  | .adr a => beq_self_eq_true a
  | .ty a => beq_self_eq_true a
  | .fz xs => D.beqs_self xs
  | .exc c ks xs => by
    show (c == c && decide (ks = ks) && D.beqs xs xs) = true
    rw [D.beqs_self xs]
    simp
theorem D.beqs_self : ∀ xs : List D, D.beqs xs xs = true
  | [] => rfl
  | x :: xs => by
    show (D.beq x x && D.beqs xs xs) = true
    rw [D.beq_self x, D.beqs_self xs]
    rfl
end
/-- the items; the list of the store that must stand as it is -/
structure Itd where
  its : List D
  src : Option (Nat × List D)
def Itd.still (I : Itd) (s : Sto) : Bool := match I.src with
  | none => true
  | some (n, xs) => match lstAt s n with
    | some ys => D.beqs ys xs
    | none => false
theorem Itd.still_at {I : Itd} {s : Sto} (h : I.still s = true) : ∀ n xs, I.src = some (n, xs) → lstAt s n = some xs := fun n xs e => by
  unfold Itd.still at h
  rw [e] at h
  simp only at h
  split at h
  · rename_i ys e2
    rw [e2, D.beqs_eq h]
  · cases h
/-- from now on, while it stands, J yields the items -/
def Yl (K : PySem.W.Frag) (φ : List Addr) (H : Hp) (J : It) (I : Itd) : Prop := ∀ φ' H' s', Fu K φ φ' H H' → So K φ' H' s' → (∀ n xs, I.src = some (n, xs) → lstAt s' n = some xs) →
  ∀ i, (∀ d, I.its[i]? = some d → J.go i H' ∧ ∀ x H'', J.yld i H' x H'' → Fu K φ' φ' H' H'' ∧ So K φ' H'' s' ∧ Dt K φ' H'' x d) ∧ (I.its.length ≤ i → J.stop i H')
abbrev DI := Dn → M Itd
def upI (K : PySem.W.Frag) (W : WX) (di : DI) : TI := fun σ H R => ∃ Δ φ s, Sg K φ H σ Δ ∧ So K φ H s ∧ Ps K (wAt W σ) (Yl K) φ H (fun _ J H' _ _ => R J H') (di Δ s)
def DIt (X : Cx) (W : WX) (tg e : Expr) (di : DI) : Prop := PI X tg e (upI X.K W di)
theorem pi_imp {X : Cx} {tg e : Expr} {t t' : TI} (h : PI X tg e t) (f : ∀ σ H R, t' σ H R → t σ H R) : PI X tg e t' := ⟨fun pins s σ H R I q => h.run pins s σ H R I (f _ _ _ q)⟩
section
variable {K : PySem.W.Frag} {φ : List Addr} {H : Hp} {s : Sto}
theorem yl_range (lo : Int) (n : Nat) : Yl K φ H (Itr lo n) ⟨(List.range n).map fun i => .int (lo + (i : Nat)), none⟩ := fun φ' H' s' f so _ i => by
  refine ⟨fun d e => ?_, fun h => by have h2 : n ≤ i := by simpa using h
                                     exact h2⟩
  rw [List.getElem?_map] at e
  cases q : (List.range n)[i]? with
  | none => rw [q] at e; cases e
  | some j =>
    rw [q] at e
    cases e
    obtain ⟨hl, hj⟩ := List.getElem?_eq_some_iff.mp q
    rw [List.getElem_range] at hj
    subst hj
    have hl2 : i < n := by simpa using hl
    refine ⟨hl2, fun x H'' y => ?_⟩
    obtain ⟨rfl, rfl⟩ := y
    exact ⟨Fu.refl _ _, so, .int _⟩
theorem yl_list {n : Nat} {a : Addr} {xs : List D} (ha : φ[n]? = some a) : Yl K φ H (Itl K a) ⟨xs, some (n, xs)⟩ := fun φ' H' s' f so st i => by
  obtain ⟨vs, k, r⟩ := so.lst (lstAt_eq (st n xs rfl)) (f.get ha)
  refine ⟨fun d e => ?_, fun h => ⟨vs, SqL.of k, by rw [r.length]; exact h⟩⟩
  obtain ⟨v, hv, rv⟩ := r.get e
  refine ⟨⟨vs, v, SqL.of k, hv⟩, fun x H'' y => ?_⟩
  obtain ⟨rfl, y⟩ := y
  have e2 := y vs (SqL.of k)
  rw [hv] at e2
  cases e2
  exact ⟨Fu.refl _ _, so, rv⟩
theorem yl_tup {a : Addr} {vs : List V} {xs : List D} (h : SqT K H a vs) (r : Dts K φ H vs xs) : Yl K φ H (Itt K a) ⟨xs, none⟩ := fun φ' H' s' f so st i => by
  have k := f.go _ _ h
  refine ⟨fun d e => ?_, fun h => ⟨vs, k, by rw [r.length]; exact h⟩⟩
  obtain ⟨v, hv, rv⟩ := r.get e
  refine ⟨⟨vs, v, k, hv⟩, fun x H'' y => ?_⟩
  obtain ⟨rfl, y⟩ := y
  have e2 := y vs k
  rw [hv] at e2
  cases e2
  exact ⟨Fu.refl _ _, so, rv.fu f⟩
def enumD : Nat → List D → List D
  | _, [] => []
  | k, d :: r => .tup [.int (k : Nat), d] :: enumD (k + 1) r
theorem enumD_len : ∀ (xs : List D) (k : Nat), (enumD k xs).length = xs.length
  | [], _ => rfl
  | _ :: r, k => by simp only [enumD, List.length_cons]; rw [enumD_len r (k + 1)]
theorem enumD_get : ∀ (xs : List D) (k i : Nat) (d : D), (enumD k xs)[i]? = some d → ∃ x, xs[i]? = some x ∧ d = .tup [.int ((k + i : Nat) : Int), x]
  | [], _, _, _, e => by cases e
  | x :: r, k, 0, d, e => by cases e; exact ⟨x, rfl, rfl⟩
  | x :: r, k, i + 1, d, e => by
    obtain ⟨y, h1, h2⟩ := enumD_get r (k + 1) i d e
    exact ⟨y, h1, by rw [h2]; congr 3; omega⟩
theorem yl_enum {n : Nat} {a : Addr} {xs : List D} (ha : φ[n]? = some a) : Yl K φ H (Ite K a) ⟨enumD 0 xs, some (n, xs)⟩ := fun φ' H' s' f so st i => by
  obtain ⟨vs, k, r⟩ := so.lst (lstAt_eq (st n xs rfl)) (f.get ha)
  refine ⟨fun d e => ?_, fun h => ⟨vs, SqL.of k, by rw [r.length]; rw [enumD_len] at h; exact h⟩⟩
  obtain ⟨x, hx, rfl⟩ := enumD_get xs 0 i d e
  obtain ⟨v, hv, rv⟩ := r.get hx
  refine ⟨⟨vs, v, SqL.of k, hv⟩, fun w H'' y => ?_⟩
  obtain ⟨T, z, rfl, hT, rfl, y⟩ := y
  have e2 := y vs (SqL.of k)
  rw [hv] at e2
  cases e2
  have fT : Fu K φ' φ' H' (upd H' T (.tup [.int (i : Nat), v])) := fu_new hT
  exact ⟨fT, so.new hT, .tup (SqT.of upd_same) (.cons (by rw [Nat.zero_add]; exact .int _) (.cons (rv.fu fT) .nil))⟩
end
/-- a text's signs -/
theorem yl_str {K : PySem.W.Frag} {φ : List Addr} {H : Hp} (z : Str) : Yl K φ H (Its z) ⟨z.cps.toList.map fun c => .str ⟨#[c]⟩, none⟩ := fun φ' H' s' f so _ i => by
  refine ⟨fun d e => ?_, fun h => by have h2 : z.cps.size ≤ i := by simpa using h
                                     exact h2⟩
  rw [List.getElem?_map] at e
  cases q : z.cps.toList[i]? with
  | none => rw [q] at e; cases e
  | some c =>
    rw [q] at e
    cases e
    have hl := (List.getElem?_eq_some_iff.mp q).1
    have hl2 : i < z.cps.size := by simpa using hl
    refine ⟨hl2, fun x H'' y => ?_⟩
    obtain ⟨rfl, c', hc, rfl⟩ := y
    rw [Array.getElem?_toList] at q
    rw [q] at hc
    cases hc
    exact ⟨Fu.refl _ _, so, .str _⟩
section
variable {X : Cx} {W : WX}
def iSeqL (da : DX) : DI := fun Δ => mbind (da Δ) fun x s => match x with
  | .obj n => match lstAt s n with
    | some xs => some (.ok ⟨xs, some (n, xs)⟩, s)
    | none => none
  | _ => none
theorem di_list {tg e : Expr} {da : DX} (h : DE X W e da) : DIt X W tg e (iSeqL da) := pi_imp (pi_list h) fun σ H R ⟨Δ, φ, s, hσ, hs, h⟩ => upE_bind hσ hs h fun φ1 v H1 x s1 f1 hσ1 hs1 rx h1 => by
  split at h1
  · rename_i n
    cases rx
    rename_i a ha
    split at h1
    · rename_i xs e
      obtain ⟨vs, k, r⟩ := hs1.lst (lstAt_eq e) ha
      exact ⟨a, rfl, ⟨vs, SqL.of k⟩, h1.ok hs1 (yl_list ha)⟩
    · exact h1.elim
  · exact h1.elim
def iSeqT (da : DX) : DI := fun Δ => mbind (da Δ) fun x s => match x with
  | .tup xs => some (.ok ⟨xs, none⟩, s)
  | _ => none
theorem di_tup {tg e : Expr} {da : DX} (h : DE X W e da) : DIt X W tg e (iSeqT da) := pi_imp (pi_tup h) fun σ H R ⟨Δ, φ, s, hσ, hs, h⟩ => upE_bind hσ hs h fun φ1 v H1 x s1 f1 hσ1 hs1 rx h1 => by
  split at h1
  · obtain ⟨a, vs, rfl, hq, r⟩ := rx.tupI
    exact ⟨a, rfl, ⟨vs, hq⟩, h1.ok hs1 (yl_tup hq r)⟩
  · exact h1.elim
def iSeqS (da : DX) : DI := fun Δ => mbind (da Δ) fun x s => match x with
  | .str z => some (.ok ⟨z.cps.toList.map fun c => .str ⟨#[c]⟩, none⟩, s)
  | _ => none
theorem di_str {tg e : Expr} {da : DX} (h : DE X W e da) : DIt X W tg e (iSeqS da) := pi_imp (pi_str h) fun σ H R ⟨Δ, φ, s, hσ, hs, h⟩ => upE_bind hσ hs h fun φ1 v H1 x s1 f1 hσ1 hs1 rx h1 => by
  split at h1
  · rename_i z
    cases rx
    exact ⟨z, rfl, h1.ok hs1 (yl_str z)⟩
  · exact h1.elim
def rngOk (i : Int) : Bool := decide (-(2 ^ 62) ≤ i) && decide (i < 2 ^ 62)
def rngI (lo : Int) (n : Nat) : Itd := ⟨(List.range n).map fun i => .int (lo + (i : Nat)), none⟩
def iRange1 (da : DA) : DI := fun Δ => mbind (da Δ) fun xs s => match xs with
  | [.int j] => if rngOk j = true then some (.ok (rngI 0 j.toNat), s) else none
  | _ => none
def iRange2 (da : DA) : DI := fun Δ => mbind (da Δ) fun xs s => match xs with
  | [.int i, .int j] => if (rngOk i && rngOk j) = true then some (.ok (rngI i (j - i).toNat), s) else none
  | _ => none
theorem rngOk_iff {i : Int} (h : rngOk i = true) : -(2 ^ 62) ≤ i ∧ i < 2 ^ 62 := by
  unfold rngOk at h
  simpa only [Bool.and_eq_true, decide_eq_true_eq] using h
theorem di_range1 {tg a : Expr} {da : DA} {p pos : Pos} (hg : Gl X "range") (hm : X.mg "range" = none) (ha : DAs X W [a] da) (hs : starEach [a] X.env = [(false, eval a X.env)] := by rfl) : DIt X W tg (.Call (.Name "range" p) [a] [] pos) (iRange1 da) :=
  pi_imp (pi_range1 hg hm ha hs) fun σ H R ⟨Δ, φ, s, hσ, hs, h⟩ => upA_bind hσ hs h fun φ1 v H1 x s1 f1 hσ1 hs1 rx h1 => by
    split at h1
    · rename_i j
      obtain ⟨u, rfl, r⟩ := dts1 rx
      cases r
      split at h1
      · rename_i hz
        obtain ⟨z1, z2⟩ := rngOk_iff hz
        exact ⟨j, rfl, z1, z2, h1.ok hs1 (yl_range 0 _)⟩
      · exact h1.elim
    · exact h1.elim
theorem di_range2 {tg a b : Expr} {da : DA} {p pos : Pos} (hg : Gl X "range") (hm : X.mg "range" = none) (ha : DAs X W [a, b] da) (hs : starEach [a, b] X.env = [(false, eval a X.env), (false, eval b X.env)] := by rfl)
    (hs2 : starEach [b] X.env = [(false, eval b X.env)] := by rfl) : DIt X W tg (.Call (.Name "range" p) [a, b] [] pos) (iRange2 da) :=
  pi_imp (pi_range2 hg hm ha hs hs2) fun σ H R ⟨Δ, φ, s, hσ, hs, h⟩ => upA_bind hσ hs h fun φ1 v H1 x s1 f1 hσ1 hs1 rx h1 => by
    split at h1
    · rename_i i j
      obtain ⟨u, w, rfl, r, r'⟩ := dts2 rx
      cases r
      cases r'
      split at h1
      · rename_i hz
        rw [Bool.and_eq_true] at hz
        obtain ⟨z1, z2⟩ := rngOk_iff hz.1
        obtain ⟨z3, z4⟩ := rngOk_iff hz.2
        exact ⟨i, j, rfl, ⟨z1, z2, z3, z4⟩, h1.ok hs1 (yl_range i _)⟩
      · exact h1.elim
    · exact h1.elim
/-- enumerate(list): the list stands -/
def iEnum (da : DA) : DI := fun Δ => mbind (da Δ) fun xs s => match xs with
  | [.obj n] => match lstAt s n with
    | some ys => some (.ok ⟨enumD 0 ys, some (n, ys)⟩, s)
    | none => none
  | _ => none
theorem di_enum {elts : List Expr} {kk : Nat} {tpos : Pos} {e : Expr} {da : DA} {p pos : Pos} (hg : Gl X "enumerate") (hm : X.mg "enumerate" = none) (ha : DAs X W [e] da) (hs : starEach [e] X.env = [(false, eval e X.env)] := by rfl) : DIt X W (.Tuple elts kk tpos) (.Call (.Name "enumerate" p) [e] [] pos) (iEnum da) :=
  pi_imp (pi_enum hg hm ha hs) fun σ H R ⟨Δ, φ, s, hσ, hs, h⟩ => upA_bind hσ hs h fun φ1 v H1 x s1 f1 hσ1 hs1 rx h1 => by
    split at h1
    · rename_i n
      obtain ⟨u, rfl, r⟩ := dts1 rx
      cases r
      rename_i a ha
      split at h1
      · rename_i xs e
        obtain ⟨vs, k, r⟩ := hs1.lst (lstAt_eq e) ha
        exact ⟨a, vs, rfl, SqL.of k, h1.ok hs1 (yl_enum ha)⟩
      · exact h1.elim
    · exact h1.elim
/-! ### for -/
def forRun (I : Itd) (g : DGf) (b : DS) : List D → DS
  | [], Δ, s => if I.still s = true then some (.nx Δ, s) else none
  | d :: r, Δ, s => if I.still s = true then (match g d Δ s with
    | some (Δ1, s1) => match b Δ1 s1 with
      | some (.nx Δ2, s2) => forRun I g b r Δ2 s2
      | some (.ct Δ2, s2) => forRun I g b r Δ2 s2
      | some (.bk Δ2, s2) => some (.nx Δ2, s2)
      | q => q
    | none => none) else none
def dFor (di : DI) (g : DGf) (b : DS) : DS := fun Δ => sbind (di Δ) Δ fun I s => forRun I g b I.its Δ s
theorem ds_for {tg iter : Expr} {body : List Stmt} {di : DI} {g : DGf} {b : DS} {pos : Pos} (hp : PassesOwn (model X.prog X.w) X.A X.env X.xe) (hc : X.calm = true) (hi : DIt X W tg iter di) (hg : DGt X tg g) (hb : DSs X W body b)
    (hs : ∀ x, foldedSetIterable iter X.env x = pure x := by intro _; rfl) : DSt X W (.For tg iter body [] pos) (dFor di g b) :=
  ps_imp (ps_for hp hc hi hg hb hs) fun D σ H ⟨Δ, φ, s, hσ, hs, h⟩ => by
    refine ⟨Δ, φ, s, hσ, hs, Ps.mono (fun φ1 J H1 I s1 z => ?_) (sb (R := Yl X.K) hσ h)⟩
    obtain ⟨f1, so1, yl, h1⟩ := z
    have hσ1 := hσ.fu f1
    refine ⟨fun i m σ' H' => m = I.its.length - i ∧ i ≤ I.its.length ∧ ∃ Δ' ψ s', Fu X.K φ1 ψ H1 H' ∧ So X.K ψ H' s' ∧ Sg X.K ψ H' σ' Δ' ∧ PsS X.K W D ψ H' (forRun I g b (I.its.drop i) Δ' s'),
      ⟨_, rfl, Nat.zero_le _, Δ, φ1, s1, Fu.refl _ _, so1, hσ1, h1⟩, ?_⟩
    rintro i m σ' H' ⟨rfl, hi, Δ', ψ, s', f, so, hg', h'⟩
    by_cases hl : i < I.its.length
    · rw [List.drop_eq_getElem_cons hl] at h'
      unfold forRun at h'
      by_cases st : I.still s' = true
      · rw [if_pos st] at h'
        obtain ⟨y1, _⟩ := yl ψ H' s' f so (Itd.still_at st) i
        obtain ⟨go, yld⟩ := y1 _ (List.getElem?_eq_getElem hl)
        refine .inr ⟨go, fun σ2 H2 => i + 1 ≤ I.its.length ∧ ∃ Δ' ψ s', Fu X.K φ1 ψ H1 H2 ∧ So X.K ψ H2 s' ∧ Sg X.K ψ H2 σ2 Δ' ∧ PsS X.K W D ψ H2 (forRun I g b (I.its.drop (i + 1)) Δ' s'), fun σ2 H2 z => ⟨_, by omega, rfl, z.1, z.2⟩, fun x H2 y => ?_⟩
        obtain ⟨f2, so2, rx⟩ := yld x H2 y
        refine ⟨_, Δ', ψ, s', rx, hg'.fu f2, so2, ?_⟩
        cases e : g I.its[i] Δ' s' with
        | none => rw [e] at h'; exact h'.elim
        | some p =>
          obtain ⟨Δ1, s1'⟩ := p
          rw [e] at h'
          refine fun ψ3 σ3 H3 f3 so3 hg3 => ⟨Δ1, ψ3, s1', hg3, so3, ?_⟩
          have h3 := h'.shift (f2.trans f3)
          have ff := (f.trans f2).trans f3
          cases e2 : b Δ1 s1' with
          | none => simp only [e2] at h3; exact h3.elim
          | some p =>
            obtain ⟨q, s2⟩ := p
            simp only [e2] at h3
            cases q with
            | nx Δ2 => exact fun ψ4 σ4 H4 f4 so4 hg4 => ⟨hl, Δ2, ψ4, s2, ff.trans f4, so4, hg4, h3.shift f4⟩
            | ct Δ2 => exact fun ψ4 σ4 H4 f4 so4 hg4 => ⟨hl, Δ2, ψ4, s2, ff.trans f4, so4, hg4, h3.shift f4⟩
            | bk Δ2 => exact h3
            | rt d => exact h3
            | ex x d => exact h3
      · rw [if_neg st] at h'
        exact h'.elim
    · have e : i = I.its.length := by omega
      subst e
      rw [List.drop_length] at h'
      unfold forRun at h'
      by_cases st : I.still s' = true
      · rw [if_pos st] at h'
        obtain ⟨_, y2⟩ := yl ψ H' s' f so (Itd.still_at st) I.its.length
        exact .inl ⟨y2 (Nat.le_refl _), h' ψ σ' H' (Fu.refl _ _) so hg'⟩
      · rw [if_neg st] at h'
        exact h'.elim
/-! ### list comprehensions -/
def wipeD (Δ : Dn) : List Nat → Dn
  | [] => Δ
  | v :: vs => (wipeD Δ vs).set v none
theorem wipe_sg {K : PySem.W.Frag} {φ : List Addr} {H : Hp} {σ : L2.St} {Δ : Dn} (h : Sg K φ H σ Δ) : ∀ vs : List Nat, Sg K φ H (wipe σ vs) (wipeD Δ vs)
  | [] => h
  | v :: vs => (wipe_sg h vs).forget v none
/-- the turns of a comprehension: the new list stands at n -/
def lcRun (I : Itd) (g : DGf) (tt : DT) (de : DX) (n : Nat) : List D → Dn → Sto → Option Sto
  | [], _, s => if I.still s = true then some s else none
  | d :: r, Δ, s => if I.still s = true then (match g d Δ s with
    | some (Δ1, s1) => match tt Δ1 s1 with
      | some (.ok true, s2) => match de Δ1 s2 with
        | some (.ok y, s3) => match lstAt s3 n with
          | some acc => if acc.length < sizeLine then lcRun I g tt de n r Δ (s3.set n (.lst (acc ++ [y]))) else none
          | none => none
        | _ => none
      | some (.ok false, s2) => lcRun I g tt de n r Δ s2
      | _ => none
    | none => none) else none
def dYes : DT := fun _ => mret true
def dLc (vs : List Nat) (di : DI) (g : DGf) (tt : DT) (de : DX) : DX := fun Δ => mbind (di Δ) fun I s => match lcRun I g tt de s.length I.its (wipeD Δ vs) (s ++ [.lst []]) with
  | some s' => some (.ok (.obj s.length), s')
  | none => none
abbrev W0 : WX := fun _ _ _ _ => False
def DTs (X : Cx) (W : WX) (ifs : List Expr) (dt : DT) : Prop := PTs X ifs (upT X.K W dt)
theorem dts_nil : DTs X W [] dYes := ⟨fun pins s σ H Q I ⟨Δ, φ, st, hσ, hs, h⟩ => pts_nil.run pins s σ H Q I (h.ok hs rfl)⟩
theorem dts_one {c : Expr} {dt : DT} (h : DTe X W c dt) : DTs X W [c] dt := pts_one h
end
end DV

namespace DV
open PySem L2 PyProof.Rows
theorem wipe_get (σ : L2.St) (j : Nat) : ∀ vs : List Nat, (wipe σ vs)[j]? = if j ∈ vs then (σ[j]?).map (fun _ => none) else σ[j]?
  | [] => by simp [wipe]
  | v :: vs => by
    have ih := wipe_get σ j vs
    unfold wipe
    by_cases e : v = j
    · subst e
      by_cases hl : v < σ.length
      · rw [List.getElem?_set_self (by rw [wipe_length]; exact hl)]
        simp [hl]
      · rw [List.getElem?_eq_none (by rw [List.length_set, wipe_length]; omega)]
        simp [List.getElem?_eq_none (Nat.le_of_not_lt hl)]
    · rw [List.getElem?_set_ne e, ih]
      by_cases h : j ∈ vs
      · simp [h]
      · have : j ∉ v :: vs := by simp only [List.mem_cons, not_or]; exact ⟨fun z => e z.symm, h⟩
        simp [h, this]
theorem wipe_set {σ : L2.St} {vs : List Nat} {i : Nat} {o : Option V} (h : i ∈ vs) : wipe (σ.set i o) vs = wipe σ vs := by
  apply List.ext_getElem?
  intro j
  rw [wipe_get, wipe_get]
  by_cases hj : j ∈ vs
  · rw [if_pos hj, if_pos hj]
    by_cases e : i = j
    · subst e
      by_cases hl : i < σ.length
      · rw [List.getElem?_set_self hl, List.getElem?_eq_getElem hl]; rfl
      · rw [List.getElem?_eq_none (by rw [List.length_set]; omega), List.getElem?_eq_none (by omega)]
    · rw [List.getElem?_set_ne e]
  · rw [if_neg hj, if_neg hj, List.getElem?_set_ne (fun e => hj (by rw [← e]; exact h))]
theorem wipe_wipe {σ : L2.St} {vs : List Nat} : wipe (wipe σ vs) vs = wipe σ vs := by
  apply List.ext_getElem?
  intro j
  rw [wipe_get, wipe_get]
  by_cases hj : j ∈ vs
  · rw [if_pos hj, if_pos hj]; cases σ[j]? <;> rfl
  · rw [if_neg hj, if_neg hj]
/-- a target of a comprehension: names of its own -/
def NgOk (K : PySem.W.Frag) (vs : List Nat) (t : TG) (g : DGf) : Prop := ∀ v d σ Δ φ H s Δ' s' Q, Dt K φ H v d → Sg K φ H σ Δ → g d Δ s = some (Δ', s') → (s' = s → ∀ σ', wipe σ' vs = wipe σ vs → Sg K φ H σ' Δ' → Q σ' H) → t v σ H Q
def NgsOk (K : PySem.W.Frag) (vs : List Nat) (t : TGs) (g : List D → Dn → Sto → Option (Dn × Sto)) : Prop := ∀ v d σ Δ φ H s Δ' s' Q, Dts K φ H v d → Sg K φ H σ Δ → g d Δ s = some (Δ', s') → (s' = s → ∀ σ', wipe σ' vs = wipe σ vs → Sg K φ H σ' Δ' → Q σ' H) → t v σ H Q
theorem ng_name {K : PySem.W.Frag} {vs : List Nat} {i : Nat} (h : i ∈ vs) : NgOk K vs (gName i) (gN i) := fun v d σ Δ φ H s Δ' s' Q rd hσ e q => by
  cases e
  exact q rfl _ (wipe_set h) (hσ.set rd i)
theorem ngs_nil {K : PySem.W.Frag} {vs : List Nat} : NgsOk K vs gNil gsNil := fun v d σ Δ φ H s Δ' s' Q rd hσ e q => by
  unfold gsNil at e
  split at e
  · cases e
    cases rd
    exact ⟨rfl, q rfl σ rfl hσ⟩
  · cases e
theorem ngs_cons {K : PySem.W.Frag} {vs : List Nat} {t : TG} {u : TGs} {g : DGf} {r : List D → Dn → Sto → Option (Dn × Sto)} (h1 : NgOk K vs t g) (h2 : NgsOk K vs u r) : NgsOk K vs (gCons t u) (gsCons g r) := fun v d σ Δ φ H s Δ' s' Q rd hσ e q => by
  unfold gsCons at e
  split at e
  · cases rd
    rename_i q1 q2
    split at e
    · rename_i Δ1 s1 e1
      refine ⟨_, _, rfl, h1 _ _ σ Δ φ H s Δ1 s1 _ q1 hσ e1 fun es σ1 w1 hσ1 => ?_⟩
      subst es
      exact h2 _ _ σ1 Δ1 φ H _ Δ' s' _ q2 hσ1 e fun es2 σ2 w2 hσ2 => q es2 σ2 (w2.trans w1) hσ2
    · cases e
  · cases e
theorem ng_tup {K : PySem.W.Frag} {vs : List Nat} {n : Nat} {u : TGs} {r : List D → Dn → Sto → Option (Dn × Sto)} (h : NgsOk K vs u r) : NgOk K vs (gTup K n u) (gTp n r) := fun v d σ Δ φ H s Δ' s' Q rd hσ e q => by
  unfold gTp at e
  split at e
  · obtain ⟨a, ws, rfl, hq, rr⟩ := rd.tupI
    split at e
    · rename_i hn
      exact ⟨a, ws, rfl, hq, by rw [rr.length]; exact hn, h _ _ σ Δ φ H s Δ' s' _ rr hσ e q⟩
    · cases e
  · cases e
section
variable {X : Cx} {W : WX}
theorem lc_read {K : PySem.W.Frag} {vs : List Nat} {t : TG} {g : DGf} {di : DI} {tt : DT} {de : DX} {σ : L2.St} {H : Hp} {Q : VK} (ng : NgOk K vs t g) (h : upE K W (dLc vs di g tt de) σ H Q) :
    tLc (upI K W di) t (upT K W0 tt) (upE K W0 de) vs σ H Q := by
  obtain ⟨Δ, φ, s, hσ, hs, h⟩ := h
  refine ⟨Δ, φ, s, hσ, hs, Ps.mono (fun φ1 J H1 I s1 z => ?_) (Ps.bind (R := Yl K) h)⟩
  obtain ⟨f1, so1, yl, h1⟩ := z
  have hσ1 := hσ.fu f1
  intro Dd hD
  split at h1
  case h_2 => exact h1.elim
  rename_i sf ef
  have fD : Fu K φ1 (φ1 ++ [Dd]) H1 (upd H1 Dd (.lst [])) := fu_newO hD
  have soD : So K (φ1 ++ [Dd]) (upd H1 Dd (.lst [])) (s1 ++ [.lst []]) := Dts.newO so1 hD .nil
  have gD : (φ1 ++ [Dd])[s1.length]? = some Dd := by rw [so1.len, List.getElem?_append_right (Nat.le_refl _)]; simp
  refine ⟨fun i m H' => m = I.its.length - i ∧ i ≤ I.its.length ∧ ∃ ψ s', Fu K φ1 ψ H1 H' ∧ So K ψ H' s' ∧ ψ[s1.length]? = some Dd ∧ lcRun I g tt de s1.length (I.its.drop i) (wipeD Δ vs) s' = some sf,
    ⟨_, rfl, Nat.zero_le _, _, _, fD, soD, gD, ef⟩, ?_⟩
  rintro i m H' ⟨rfl, hi, ψ, s', f, so, gd, e⟩
  by_cases hl : i < I.its.length
  · rw [List.drop_eq_getElem_cons hl] at e
    unfold lcRun at e
    by_cases st : I.still s' = true
    · rw [if_pos st] at e
      obtain ⟨y1, _⟩ := yl ψ H' s' f so (Itd.still_at st) i
      obtain ⟨go, yld⟩ := y1 _ (List.getElem?_eq_getElem hl)
      refine .inr ⟨go, fun H2 => i + 1 ≤ I.its.length ∧ ∃ ψ s', Fu K φ1 ψ H1 H2 ∧ So K ψ H2 s' ∧ ψ[s1.length]? = some Dd ∧ lcRun I g tt de s1.length (I.its.drop (i + 1)) (wipeD Δ vs) s' = some sf, fun H2 z => ⟨_, by omega, rfl, z.1, z.2⟩, fun x H2 y => ?_⟩
      obtain ⟨f2, so2, rx⟩ := yld x H2 y
      have ff := f.trans f2
      cases eg : g I.its[i] (wipeD Δ vs) s' with
      | none => rw [eg] at e; cases e
      | some p =>
        obtain ⟨Δ1, s2⟩ := p
        simp only [eg] at e
        refine ng x _ (wipe σ vs) (wipeD Δ vs) ψ H2 s' Δ1 s2 _ rx (wipe_sg (hσ1.fu ff) vs) eg fun es σ2 w2 hσ2 => ⟨w2.trans wipe_wipe, ?_⟩
        subst es
        cases et : tt Δ1 s2 with
        | none => rw [et] at e; cases e
        | some p =>
          obtain ⟨r, s3⟩ := p
          cases r with
          | error _ => simp only [et] at e; cases e
          | ok b =>
            refine ⟨Δ1, ψ, s2, hσ2, so2, ?_⟩
            rw [et]
            intro ψ3 b' H3 f3 so3 eb
            subst eb
            have ff3 := ff.trans f3
            cases b' with
            | false =>
              simp only [et] at e
              exact iteF ⟨hl, ψ3, s3, ff3, so3, f3.get (f2.get gd), e⟩
            | true =>
              simp only [et] at e
              refine iteT ?_
              cases ee : de Δ1 s3 with
              | none => rw [ee] at e; cases e
              | some p =>
                obtain ⟨r, s4⟩ := p
                cases r with
                | error _ => simp only [ee] at e; cases e
                | ok yd =>
                  refine ⟨Δ1, ψ3, s3, hσ2.fu f3, so3, ?_⟩
                  rw [ee]
                  intro ψ4 yv H4 f4 so4 ry
                  simp only [ee] at e
                  have gd4 : ψ4[s1.length]? = some Dd := f4.get (f3.get (f2.get gd))
                  split at e
                  · rename_i acc ea
                    split at e
                    · rename_i hz
                      obtain ⟨ws, k, r⟩ := so4.lst (lstAt_eq ea) gd4
                      have fs : Fu K ψ4 ψ4 H4 (upd H4 Dd (.lst (ws ++ [yv]))) := fu_set so4 gd4
                      refine ⟨ws, k, by rw [r.length]; exact hz, hl, ψ4, _, (ff3.trans f4).trans fs, so4.set (o := .lst (acc ++ [yd])) gd4 ⟨_, upd_same, (r.append (.cons ry .nil)).fu fs⟩, gd4, e⟩
                    · cases e
                  · cases e
    · rw [if_neg st] at e
      cases e
  · have e2 : i = I.its.length := by omega
    subst e2
    rw [List.drop_length] at e
    unfold lcRun at e
    by_cases st : I.still s' = true
    · rw [if_pos st] at e
      cases e
      obtain ⟨_, y2⟩ := yl ψ H' _ f so (Itd.still_at st) I.its.length
      exact .inl ⟨y2 (Nat.le_refl _), h1 ψ _ H' f so (.obj gd)⟩
    · rw [if_neg st] at e
      cases e
/-- the comprehension's context -/
abbrev Bk (X : Cx) (scope : Scope) (s : Shared) (H : Hp) (C : Addr) (cl : List (Str × Addr)) (fp : List Addr) : Cx := X.blk s H scope (compEnvC scope cl C X.env) fp
theorem de_lc {elt tg iter : Expr} {ifs : List Expr} {scope : Scope} {own : List (Str × Nat)} {pos : Pos} {di : DI} {t : TG} {g : DGf} {tt : DT} {de : DX} (hc : X.calm = true) (hN : X.N.Nodup) (hi : DIt X W tg iter di) (ok : BlkOk X.N X.env.scope scope own)
    (ng : NgOk X.K (own.map (·.2)) t g) (hg : ∀ s H C cl fp, PG (Bk X scope s H C cl fp) tg t) (ht : ∀ s H C cl fp, DTs (Bk X scope s H C cl fp) W0 ifs tt) (he : ∀ s H C cl fp, DE (Bk X scope s H C cl fp) W0 elt de)
    (hs : ∀ x, foldedSetIterable iter X.env x = pure x := by intro _; rfl) : DE X W (.ListComp elt [⟨tg, iter, ifs, 0⟩] scope pos) (dLc (own.map (·.2)) di g tt de) :=
  pe_imp (pe_lc (tt := upT X.K W0 tt) (te := upE X.K W0 de) hc hN hi ok hg ht he hs) fun σ H Q h => lc_read ng h
theorem ds_setLc {i : Nat} {y : Str} {py : Pos} {elt tg iter : Expr} {ifs : List Expr} {scope : Scope} {own : List (Str × Nat)} {pos spos : Pos} {di : DI} {t : TG} {g : DGf} {tt : DT} {de : DX} (hc : X.calm = true) (hN : X.N.Nodup) (hi : DIt X W tg iter di) (ok : BlkOk X.N X.env.scope scope own)
    (ng : NgOk X.K (own.map (·.2)) t g) (hg : ∀ s H C cl fp, PG (Bk X scope s H C cl fp) tg t) (ht : ∀ s H C cl fp, DTs (Bk X scope s H C cl fp) W0 ifs tt) (he : ∀ s H C cl fp, DE (Bk X scope s H C cl fp) W0 elt de)
    (hsw : swapsWith (.ListComp elt [⟨tg, iter, ifs, 0⟩] scope pos) (some (.Name y py)) spos.line X.env = pure true) (hy : X.N[i]? = some y := by rfl) (hyl : X.env.scope.names.lookup y = some .local := by rfl)
    (hs : ∀ x, foldedSetIterable iter X.env x = pure x := by intro _; rfl) : DSt X W (.Assign [.Name y py] (.ListComp elt [⟨tg, iter, ifs, 0⟩] scope pos) spos) (dAsg (dLc (own.map (·.2)) di g tt de) (gN i)) :=
  ps_imp (ps_setLc (tt := upT X.K W0 tt) (te := upE X.K W0 de) hc hN hy hyl hsw hi ok hg ht he hs) fun D σ H ⟨Δ, φ, s, hσ, hs, h⟩ => lc_read (W := W) ng (sbE hσ hs h fun φ1 v H1 d s1 f1 hσ1 hs1 rd h1 => h1 φ1 _ H1 (Fu.refl _ _) hs1 (hσ1.set rd i))
end
end DV

namespace DV
open PySem L2 PyProof.Rows
/-! ### defs: what they promise, their bodies, their calls -/
def spD (K : PySem.W.Frag) (n : Nat) (f : FnD) : Sp := fun vs H Q E => vs.length = n ∧ ∃ ds φ s, Dts K φ H vs ds ∧ So K φ H s ∧ Ps K E (Dt K) φ H (fun _ v H' _ _ => Q v H') (f ds s)
def runFn (n : Nat) (b : DS) : FnD := fun args s => match b (startD n args) s with
  | some (.rt d, s') => some (.ok d, s')
  | some (.nx _, s') => some (.ok .non, s')
  | some (.ex x _, s') => some (.error x, s')
  | _ => none
/-- the context of a def's body -/
abbrev Bx (P : Program) (w : World) (K : PySem.W.Frag) (mg : Str → Option Value) (base : Heap) (N : List Str) (qual : Str) (sc : Scope) (f : Addr) (cdv : Value) (A : Around) (outer : List Env) (s : Shared) (H : Hp) (E : XK) : Cx :=
  cxOf (L2.CX P w) P w K mg base N qual sc f cdv A outer s H E
abbrev EW (E : XK) : WX := fun c d _ H => E c d H
section
variable {P : Program} {w : World} {K : PySem.W.Frag} {mg : Str → Option Value} {base : Heap}
/-- room, and no object is being shown -/
structure RoomG (k : Nat) (A : Around) : Prop where
  rm : Room k A
  gd : A.guards = some []
theorem RoomG.mono {j k : Nat} {A : Around} (r : RoomG k A) (h : j ≤ k) : RoomG j A := ⟨r.rm.mono h, r.gd⟩
theorem gd_deeper {A : Around} {env : Env} (h : A.guards = some []) : (A.deeper env).guards = some [] := h
theorem gd_make {A : Around} {C : Addr} {us : List Value} {kw : List (Str × Value)} (h : A.guards = some []) : (A.under (.builtin "type.__call__" ⟨.ref C :: us, kw⟩)).guards = some [] := by
  first
    | exact h
    | (simp [Around.under, pushGuards, Code.guards, Code.isGuard, guardIds, h])
theorem RoomG.deeper {k : Nat} {A : Around} (r : RoomG (k + 1) A) (env : Env) : RoomG k (A.deeper env) := ⟨r.rm.deeper env, gd_deeper r.gd⟩
theorem RoomG.make {k : Nat} {A : Around} (r : RoomG (k + 1) A) (C : Addr) (us : List Value) (kw : List (Str × Value)) : RoomG k (A.under (.builtin "type.__call__" ⟨.ref C :: us, kw⟩)) := ⟨r.rm.make C us kw, gd_make r.gd⟩
/-- the def at f does the run fM, wherever it is called with room and nothing being shown -/
structure FnG (P : Program) (w : World) (K : PySem.W.Frag) (mg : Str → Option Value) (base : Heap) (k : Nat) (f : Addr) (fd : FuncData) (ps : List Str) (fM : FnD) : Prop where
  run : ∀ (A : Around) (outer : List Env) (s : Shared) (H : Hp) (args : Args) (us : List Value) (vs : List V) (Q : VK) (E : XK), RoomG k A → Env0 P w K mg base A outer s H → BindsTo s fd args (ps.zip us) → Vals vs us → spD K ps.length fM vs H Q E →
    codeAny (model P w) A (.call (.ref f) args) (CR (L2.CX P w) outer P w H s Q E) s
theorem fn_mkD {x qual : Str} {st : Stmt} {f : Addr} {fd : FuncData} {N ps : List Str} {k n : Nat} {b : DS} {M : FnD} (hM : M = runFn n b) (hn : N.length = n) (F : Fun K x qual st f fd) (S : FnScope N ps (defScope st))
    (hb : ∀ (cdv : Value) (A : Around) (outer : List Env) (s : Shared) (H : Hp) (E : XK), RoomG k (Bx P w K mg base N qual (defScope st) f cdv A outer s H E).A → Takes (Bx P w K mg base N qual (defScope st) f cdv A outer s H E) (EW E) →
      PassesOwn (model P w) (Bx P w K mg base N qual (defScope st) f cdv A outer s H E).A (Bx P w K mg base N qual (defScope st) f cdv A outer s H E).env (Bx P w K mg base N qual (defScope st) f cdv A outer s H E).xe →
      DSs (Bx P w K mg base N qual (defScope st) f cdv A outer s H E) (EW E) (defBody st) b) : FnG P w K mg base (k + 1) f fd ps M := by
  subst hM hn
  refine ⟨fun A outer s H args us vs Q E hr env0 bind rel hsp => ?_⟩
  obtain ⟨hl, ds, φ, st', rd, so, h⟩ := hsp
  obtain ⟨oc, od, kV, doc, pm, an, cdv, ct, osl, rfl, lk, hcd⟩ := F.ex
  have old : ∀ (a : Addr) (u : Obj), base.get? a = some u → s.heap.get? a = some u := fun a u e => (env0.bs a u e).1
  have kin := env0.mod.kin.keeps old
  have par : ∀ y ∈ ps.zip us, (defScope st).names.lookup y.1 = some .local ∨ ((defScope st).names.lookup y.1 = some .cell ∧ ((cellsFrom (s.heap.objs.size + 1) (defScope st).names []).lookup y.1).isSome = true) := fun y hy => by
    rcases S.par y.1 (List.of_mem_zip (a := y.1) (b := y.2) hy).1 with q | q
    · exact Or.inl q
    · exact Or.inr (And.intro q (PySem.W.cellsFrom_some _ _ _ (Or.inl q)))
  refine codeAny_call_function hr.rm.depth (kin _ _ lk) rfl S.co S.gen rfl (PySem.W.codeRec_of kin hcd) (bind _ _ _ _ ?_)
  refine wpAny_newFunctionEnv_cells S.kind par fun env henv t1 inc => ?_
  subst henv
  have body := hb cdv A outer s H E (hr.deeper _) (takes_of rfl rfl rfl rfl) (passes_of rfl)
  have J0 : Inv (Bx P w K mg base N qual (defScope st) f cdv A outer s H E) [] (L2.start N vs) H t1 := inv_start S hr.rm.hd env0 hl rel inc
  have start : upS K (EW E) b { nx := fun _ H' => Q .non H', rt := Q } (L2.start N vs) H := by
    refine ⟨startD N.length ds, φ, st', Sg.start rd, so, ?_⟩
    unfold runFn at h
    cases e : b (startD N.length ds) st' with
    | none => rw [e] at h; exact h.elim
    | some p =>
      obtain ⟨q, s'⟩ := p
      rw [e] at h
      cases q with
      | rt d => exact h
      | nx Δ => exact fun ψ σ' H' g so' _ => h ψ .non H' g so' .non
      | ex x Δ => exact fun ψ σ' H' c dd g so' _ xr => h ψ H' c dd g so' xr
      | bk Δ => exact h.elim
      | ct Δ => exact h.elim
  have ends : ∀ {σ' : L2.St} {H' : Hp} {v : V} {u : Value} {t2 : Shared}, Inv (Bx P w K mg base N qual (defScope st) f cdv A outer s H E) [] σ' H' t2 → RelV v u → Q v H' → CE outer P w H s Q u t2 := fun {σ' H' v u t2} J rv q => ⟨v, H', J.os, J.bare, J.base, J.hok, rv, q⟩
  refine ⟨env0.mod.nolimit.keeps fun a u e => inc.toInCall.keep a u (old a u e), codeAny_func (wpAny_mono (body.run [] t1 (L2.start N vs) H _ J0 start) (fun fl t2 hs => ?_) fun _ _ hs => hs)⟩
  cases fl with
  | ret u => obtain ⟨v, σ', H', J, rv, q⟩ := hs; exact ends J rv q
  | next => obtain ⟨σ', H', J, q⟩ := hs; exact ends (v := V.non) (u := Value.none) J rfl q
  | brk => obtain ⟨_, _, _, q⟩ := hs; exact q.elim
  | cont => obtain ⟨_, _, _, q⟩ := hs; exact q.elim
end
section
variable {X : Cx} {W : WX} {k : Nat} {f C : Addr} {fd : FuncData} {ps : List Str} {fM : FnD} {dvs : List V} {dds : List D} {ds : List Value} {x m : Str} {p pos apos : Pos} {e o : Expr} {es : List Expr} {da : DA}
abbrev FnX (X : Cx) (k : Nat) (f : Addr) (fd : FuncData) (ps : List Str) (fM : FnD) : Prop := FnG X.prog X.w X.K X.mg X.base k f fd ps fM
/-- the run of a callee over the data -/
def dCl (fM : FnD) (da : DA) : DX := fun Δ => mbind (da Δ) fM
theorem call_sp {φ : List Addr} {H : Hp} {s : Sto} {vs : List V} {xs : List D} {Q : VK} {σ : L2.St} (F : FnX X k f fd ps fM) (hb : Binds X.K fd ps []) (hl : vs.length = ps.length) (so : So X.K φ H s) (rx : Dts X.K φ H vs xs) (h : Ps X.K (wAt W σ) (Dt X.K) φ H (fun _ v H' _ _ => Q v H') (fM xs s)) :
    spD X.K ps.length fM (vs ++ []) H Q (WE W σ) := by
  rw [List.append_nil]
  exact ⟨hl, xs, φ, s, rx, so, h⟩
/-- how many arguments -/
def argN (n : Nat) (fM : FnD) : FnD := fun xs s => if xs.length = n then fM xs s else none
theorem argN_len {K : PySem.W.Frag} {E : WK} {φ : List Addr} {H : Hp} {s : Sto} {n : Nat} {xs : List D} {C : List Addr → V → Hp → D → Sto → Prop} (h : Ps K E (Dt K) φ H C (argN n fM xs s)) : xs.length = n ∧ Ps K E (Dt K) φ H C (fM xs s) := by
  unfold argN at h
  split at h
  · rename_i z; exact ⟨z, h⟩
  · exact h.elim
theorem run_fnG {pins : List (Addr × Obj)} {σ : L2.St} {H : Hp} {s : Shared} {Q : VK} {us : List Value} {vs : List V} (F : FnX X k f fd ps fM) (hr : RoomG k X.A) (hb : Binds X.K fd ps []) (tk : Takes X W) (I : Inv X pins σ H s) (r : Vals vs us) (h : spD X.K ps.length fM (vs ++ []) H Q (WE W σ)) :
    wpAny (model X.prog X.w) X.A (call (.ref f) us) (EP X pins σ Q) X.xe s := by
  rw [List.append_nil] at h
  have hl : us.length = ps.length := r.length.symm.trans h.1
  have bb := hb s us I.kIn (by rw [List.append_nil]; exact hl)
  rw [List.append_nil] at bb
  refine wpAny_call (codeAny_mono (F.run X.A X.stack s H ⟨us, []⟩ us vs Q (WE W σ) hr I.env0 bb r h) fun q s' hq => ?_)
  cases q with
  | error e => exact passAt tk σ pins H s e s' I hq
  | ok fl => cases fl with
    | ret u => exact I.after hq
    | next => exact hq.elim
    | brk => exact hq.elim
    | cont => exact hq.elim
theorem de_call_l (F : FnX X k f fd ps fM) (hr : RoomG k X.A) (hm : X.mg x = some (.ref f)) (hk : PySem.W.keepIn X.K (.ref f) = true) (hb : Binds X.K fd ps []) (tk : Takes X W) (ha : DAs X W (e :: es) da) (hg : Gl X x := by rfl)
    (hdb : (x == ("__debug__" : Str)) = false := by decide) (he : starEach (e :: es) X.env = (false, eval e X.env) :: starEach es X.env := by rfl) (hpl : (backTo pos (starEach es X.env)).any (·.1) = false := by rfl) :
    DE X W (.Call (.Name x p) (e :: es) [] pos) (dCl (argN ps.length fM) da) := by
  refine ⟨fun pins s σ H Q I ⟨Δ, φ, st, hσ, hs, h⟩ => wpAny_Call_Name_kw (ld_glob I hg hm ?_ hdb)⟩
  have hA : upA X.K W da σ H fun vs H2 => ∃ φ2 xs s2, So X.K φ2 H2 s2 ∧ Dts X.K φ2 H2 vs xs ∧ Ps X.K (wAt W σ) (Dt X.K) φ2 H2 (fun _ v H' _ _ => Q v H') (argN ps.length fM xs s2) :=
    upA_bind hσ hs h fun φ2 vs H2 xs s2 f2 hσ2 hs2 rs h3 => ⟨φ2, xs, s2, hs2, rs, h3⟩
  refine PySem.W.callWith_K (h₀ := X.base) I.ok.mod.kin hk (thn (ha.run pos pins s σ H _ I hA) fun us t1 ⟨vs, H1, I1, r, φ2, xs, s2, hs2, rs, h3⟩ => ⟨I1.kIn, ?_⟩) he hpl
  obtain ⟨hl, h4⟩ := argN_len h3
  exact run_fnG F hr hb tk I1 r (call_sp F hb (by rw [rs.length]; exact hl) hs2 rs h4)
theorem de_call0 (F : FnX X k f fd [] fM) (hr : RoomG k X.A) (hm : X.mg x = some (.ref f)) (hk : PySem.W.keepIn X.K (.ref f) = true) (hb : Binds X.K fd [] []) (tk : Takes X W) (hg : Gl X x := by rfl) (hdb : (x == ("__debug__" : Str)) = false := by decide) :
    DE X W (.Call (.Name x p) [] [] pos) (dCl fM dNil) :=
  ⟨fun pins s σ H Q I ⟨Δ, φ, st, hσ, hs, h⟩ => wpAny_Call_Name_kw (ld_glob I hg hm (PySem.W.callWith_K0 I.kIn hk (run_fnG (us := []) (vs := []) F hr hb tk I .nil (call_sp F hb rfl hs .nil h))) hdb)⟩
/-! ### methods of own classes -/
/-- o is an instance of C without an attribute m of its own -/
def mIns (C : Addr) (m : Str) (x : D) : M Unit := fun s => match x with
  | .obj n => match insAt s n with
    | some (C', fs) => if C' = C ∧ fs.lookup m = none then some (.ok (), s) else none
    | none => none
  | _ => none
theorem mIns_bind {K : PySem.W.Frag} {φ : List Addr} {H : Hp} {s : Sto} {x : D} {v : V} {γ δ : Type} {R' : List Addr → Hp → δ → γ → Prop} {W : WK} {Cc : List Addr → δ → Hp → γ → Sto → Prop} {k : Unit → M γ} (so : So K φ H s) (rx : Dt K φ H v x)
    (h : Ps K W R' φ H Cc (mbind (mIns C m x) k s)) : (∃ a dx fs, v = .ref a ∧ H a = some (.ins C dx fs) ∧ fs.lookup m = none) ∧ Ps K W R' φ H Cc (k () s) := by
  unfold mbind at h
  cases e : mIns C m x s with
  | none => rw [e] at h; exact h.elim
  | some p =>
    unfold mIns at e
    split at e
    · split at e
      · rename_i n C' fs e1
        split at e
        · rename_i z
          cases e
          obtain ⟨z1, z2⟩ := z
          subst z1
          cases rx
          rename_i a ha
          obtain ⟨b, hb, dx, vs, k, r⟩ := so.at (insAt_eq e1)
          rw [ha] at hb
          cases hb
          refine ⟨⟨a, dx, vs, rfl, k, r.lookup_none z2⟩, ?_⟩
          simp only [mIns, e1, z2, and_self, if_true] at h
          exact h
        · cases e
      · cases e
    · cases e
def dMe (C : Addr) (m : Str) (fM : FnD) (dx : DX) (da : DA) : DX := fun Δ => mbind (dx Δ) fun x => mbind (mIns C m x) fun _ => mbind (da Δ) fun xs => fM (x :: xs)
theorem de_meth_l {dx : DX} {pl : Sem Bool} (he : DE X W o dx) (c : Cls X.K C) (hm : Meth X.K C m f) (F : FnX X k f fd ps fM) (hr : RoomG k X.A) (hb : Binds X.K fd ps []) (tk : Takes X W) (ha : DAs X W (e :: es) da)
    (hst : starEach (e :: es) X.env = (false, eval e X.env) :: starEach es X.env := by rfl) (hpl : (backTo pos (starEach es X.env)).any (·.1) = false := by rfl)
    (ht : eval (.Call (.Attribute o m apos) (e :: es) [] pos) X.env = (do let ov ← eval o X.env; standAt apos.atName; let (f, first) ← holding [ov] (getMethod ov m pl); callWith pos f first (backTo pos (starEach (e :: es) X.env)) (backToKw pos (keywordEach [] X.env))) := by rfl) :
    DE X W (.Call (.Attribute o m apos) (e :: es) [] pos) (dMe C m (argN ps.length fM) dx da) := by
  refine ⟨fun pins s σ H Q I ⟨Δ, φ, st, hσ, hs, h⟩ => ?_⟩
  have hE : upE X.K W dx σ H fun v H1 => ∃ φ1 x s1, Sg X.K φ1 H1 σ Δ ∧ So X.K φ1 H1 s1 ∧ Dt X.K φ1 H1 v x ∧ Ps X.K (wAt W σ) (Dt X.K) φ1 H1 (fun _ v H' _ _ => Q v H') (mbind (mIns C m x) (fun _ => mbind (da Δ) fun xs => argN ps.length fM (x :: xs)) s1) :=
    upE_bind hσ hs h fun φ1 v H1 x s1 f1 hσ1 hs1 rx h1 => ⟨φ1, x, s1, hσ1, hs1, rx, h1⟩
  refine PySem.W.methodCall_KW (pl := pl) (thn (he.run pins s σ H _ I hE) fun u t1 ⟨v, H1, I1, rv, φ1, x, s1, hσ1, hs1, rx, h1⟩ => ?_) ht
  obtain ⟨⟨a, dxx, fs, rfl, ea, lk⟩, h2⟩ := mIns_bind hs1 rx h1
  obtain rfl : u = Value.ref a := rv
  refine getmeth_ok I1 ea c hm lk ?_
  have hA : upA X.K W da σ H1 fun vs H2 => ∃ φ2 xs s2, So X.K φ2 H2 s2 ∧ Dt X.K φ2 H2 (.ref a) x ∧ Dts X.K φ2 H2 vs xs ∧ Ps X.K (wAt W σ) (Dt X.K) φ2 H2 (fun _ v H' _ _ => Q v H') (argN ps.length fM (x :: xs) s2) :=
    upA_bind hσ1 hs1 h2 fun φ2 vs H2 xs s2 f2 hσ2 hs2 rs h3 => ⟨φ2, xs, s2, hs2, rx.fu f2, rs, h3⟩
  refine PySem.W.callWith_K (first := [Value.ref a]) (h₀ := X.base) I.ok.mod.kin hm.kp (thn (ha.run pos pins t1 σ H1 _ I1 hA) fun us t2 ⟨vs, H2, I2, r, φ2, xs, s2, hs2, rx2, rs, h3⟩ => ⟨I2.kIn, ?_⟩) hst hpl
  obtain ⟨hl, h4⟩ := argN_len h3
  exact run_fnG (us := Value.ref a :: us) (vs := V.ref a :: vs) F hr hb tk I2 (.cons rfl r) (call_sp F hb (by rw [List.length_cons, rs.length]; exact hl) hs2 (.cons rx2 rs) h4)
theorem de_meth0_l {dx : DX} {pl : Sem Bool} (he : DE X W o dx) (c : Cls X.K C) (hm : Meth X.K C m f) (F : FnX X k f fd ps fM) (hr : RoomG k X.A) (hb : Binds X.K fd ps []) (tk : Takes X W)
    (ht : eval (.Call (.Attribute o m apos) [] [] pos) X.env = (do let ov ← eval o X.env; standAt apos.atName; let (f, first) ← holding [ov] (getMethod ov m pl); callWith pos f first (backTo pos (starEach [] X.env)) (backToKw pos (keywordEach [] X.env))) := by rfl) :
    DE X W (.Call (.Attribute o m apos) [] [] pos) (dMe C m (argN ps.length fM) dx dNil) := by
  refine ⟨fun pins s σ H Q I ⟨Δ, φ, st, hσ, hs, h⟩ => ?_⟩
  have hE : upE X.K W dx σ H fun v H1 => ∃ φ1 x s1, Sg X.K φ1 H1 σ Δ ∧ So X.K φ1 H1 s1 ∧ Dt X.K φ1 H1 v x ∧ Ps X.K (wAt W σ) (Dt X.K) φ1 H1 (fun _ v H' _ _ => Q v H') (mbind (mIns C m x) (fun _ => mbind (dNil Δ) fun xs => argN ps.length fM (x :: xs)) s1) :=
    upE_bind hσ hs h fun φ1 v H1 x s1 f1 hσ1 hs1 rx h1 => ⟨φ1, x, s1, hσ1, hs1, rx, h1⟩
  refine PySem.W.methodCall_KW (pl := pl) (thn (he.run pins s σ H _ I hE) fun u t1 ⟨v, H1, I1, rv, φ1, x, s1, hσ1, hs1, rx, h1⟩ => ?_) ht
  obtain ⟨⟨a, dxx, fs, rfl, ea, lk⟩, h2⟩ := mIns_bind hs1 rx h1
  obtain rfl : u = Value.ref a := rv
  refine getmeth_ok I1 ea c hm lk ?_
  obtain ⟨hl, h4⟩ := argN_len (xs := [x]) h2
  exact PySem.W.callWith_K0 (first := [Value.ref a]) I1.kIn hm.kp (run_fnG (us := [Value.ref a]) (vs := [V.ref a]) F hr hb tk I1 (.cons rfl .nil) (call_sp F hb (by simpa using hl) hs1 (.cons rx .nil) h4))
/-! ### new instances -/
def mMk (C : Addr) (fM : FnD) (xs : List D) : M D := fun s => match fM (.obj s.length :: xs) (s ++ [.ins C []]) with
  | some (.ok .non, s') => some (.ok (.obj s.length), s')
  | some (.error x, s') => some (.error x, s')
  | _ => none
def dMk (C : Addr) (fM : FnD) (da : DA) : DX := fun Δ => mbind (da Δ) (mMk C fM)
theorem run_mk {pins : List (Addr × Obj)} {σ : L2.St} {H : Hp} {t : Shared} {Q : VK} {us : List Value} {vs : List V} {xs : List D} {φ : List Addr} {s : Sto} (Mc : Mk X.K C f) (F : FnX X k f fd ps fM) (hr : RoomG (k + 1) X.A) (hb : Binds X.K fd ps []) (tk : Takes X W)
    (I : Inv X pins σ H t) (r : Vals vs us) (so : So X.K φ H s) (rx : Dts X.K φ H vs xs) (h : Ps X.K (wAt W σ) (Dt X.K) φ H (fun _ v H' _ _ => Q v H') (mMk C (argN ps.length fM) xs s)) : wpAny (model X.prog X.w) X.A (call (.ref C) us) (EP X pins σ Q) X.xe t := by
  have I2 := Inv.made (C := C) I
  generalize ex : t.heap.objs.size + 1 = a at I2
  generalize ed : t.heap.objs.size = dx at I2 ex
  have hdx : H dx = none := I.hok.fresh (Nat.le_of_eq ed)
  have ha : H a = none := I.hok.fresh (by omega)
  have hne : a ≠ dx := by omega
  have so1 : So X.K φ (upd H dx (.own a)) s := so.new hdx
  have ha1 : upd H dx (.own a) a = none := by rw [upd_ne hne]; exact ha
  have f1 : Fu X.K φ φ H (upd H dx (.own a)) := fu_new hdx
  have f2 : Fu X.K φ (φ ++ [a]) (upd H dx (.own a)) (upd (upd H dx (.own a)) a (.ins C dx [])) := fu_newO ha1
  have so2 : So X.K (φ ++ [a]) (upd (upd H dx (.own a)) a (.ins C dx [])) (s ++ [.ins C []]) := so1.newO ha1 ⟨dx, [], upd_same, .nil⟩
  have ra : Dt X.K (φ ++ [a]) (upd (upd H dx (.own a)) a (.ins C dx [])) (.ref a) (.obj s.length) := obj_new so1
  have rs : Dts X.K (φ ++ [a]) (upd (upd H dx (.own a)) a (.ins C dx [])) (.ref a :: vs) (.obj s.length :: xs) := .cons ra ((rx.fu f1).fu f2)
  have hq : xs.length + 1 = ps.length ∧ Ps X.K (wAt W σ) (Dt X.K) (φ ++ [a]) (upd (upd H dx (.own a)) a (.ins C dx [])) (fun ψ v H' d s' => v = .non ∧ Q (.ref a) H') (fM (.obj s.length :: xs) (s ++ [.ins C []])) := by
    unfold mMk argN at h
    by_cases z : (D.obj s.length :: xs).length = ps.length
    · rw [if_pos z] at h
      refine ⟨by simpa using z, ?_⟩
      cases e : fM (.obj s.length :: xs) (s ++ [.ins C []]) with
      | none => rw [e] at h; exact h.elim
      | some p =>
        obtain ⟨q, s'⟩ := p
        rw [e] at h
        cases q with
        | error x => exact h.shift (f1.trans f2)
        | ok d =>
          cases d <;> first | exact h.elim | skip
          intro ψ v H' f3 so3 rv
          cases rv
          exact ⟨rfl, h ψ (.ref a) H' ((f1.trans f2).trans f3) so3 (ra.fu f3)⟩
    · rw [if_neg z] at h
      exact h.elim
  obtain ⟨hl, hq⟩ := hq
  have hv : (V.ref a :: vs).length = ps.length := by rw [List.length_cons, rx.length]; exact hl
  have r2 : Vals (V.ref a :: vs) (Value.ref a :: us) := .cons rfl r
  have hu : (Value.ref a :: us).length = ps.length := by rw [← r2.length]; exact hv
  have bb := hb _ (Value.ref a :: us) I2.kIn (by rw [List.append_nil]; exact hu)
  rw [List.append_nil] at bb
  refine wpAny_call (make_map (f := f) I.kIn Mc.makes Mc.init (beq_iff_eq.mp Mc.fn) ?_)
  rw [ed, ex]
  refine codeAny_mono (F.run _ X.stack _ _ ⟨Value.ref a :: us, []⟩ (Value.ref a :: us) (V.ref a :: vs) (fun v H2 => v = .non ∧ Q (.ref a) H2) (WE W σ) (hr.make C us []) (I2.env0.make C us []) bb r2 ⟨hv, _, _, _, rs, so2, hq⟩) fun q s' hq' => ?_
  cases q with
  | error e => exact passAt tk σ pins _ _ e s' I2 hq'
  | ok fl =>
    cases fl with
    | ret u =>
      obtain ⟨v, H', I3, rv, ev, q3⟩ := I2.after hq'
      cases ev
      exact ⟨rv, V.ref a, H', I3, rfl, q3⟩
    | next => exact hq'.elim
    | brk => exact hq'.elim
    | cont => exact hq'.elim
theorem de_make_l (Mc : Mk X.K C f) (F : FnX X k f fd ps fM) (hr : RoomG (k + 1) X.A) (hm : X.mg x = some (.ref C)) (hb : Binds X.K fd ps []) (tk : Takes X W) (ha : DAs X W (e :: es) da) (hg : Gl X x := by rfl)
    (hdb : (x == ("__debug__" : Str)) = false := by decide) (he : starEach (e :: es) X.env = (false, eval e X.env) :: starEach es X.env := by rfl) (hpl : (backTo pos (starEach es X.env)).any (·.1) = false := by rfl) :
    DE X W (.Call (.Name x p) (e :: es) [] pos) (dMk C (argN ps.length fM) da) := by
  refine ⟨fun pins s σ H Q I ⟨Δ, φ, st, hσ, hs, h⟩ => wpAny_Call_Name_kw (ld_glob I hg hm ?_ hdb)⟩
  have hA : upA X.K W da σ H fun vs H2 => ∃ φ2 xs s2, So X.K φ2 H2 s2 ∧ Dts X.K φ2 H2 vs xs ∧ Ps X.K (wAt W σ) (Dt X.K) φ2 H2 (fun _ v H' _ _ => Q v H') (mMk C (argN ps.length fM) xs s2) :=
    upA_bind hσ hs h fun φ2 vs H2 xs s2 f2 hσ2 hs2 rs h3 => ⟨φ2, xs, s2, hs2, rs, h3⟩
  refine PySem.W.callWith_K (h₀ := X.base) I.ok.mod.kin Mc.kp (thn (ha.run pos pins s σ H _ I hA) fun us t1 ⟨vs, H1, I1, r, φ2, xs, s2, hs2, rs, h3⟩ => ⟨I1.kIn, ?_⟩) he hpl
  exact run_mk Mc F hr hb tk I1 r hs2 rs h3
theorem de_call {n : Nat} (F : FnX X k f fd ps fM) (hr : RoomG k X.A) (hm : X.mg x = some (.ref f)) (hk : PySem.W.keepIn X.K (.ref f) = true) (hb : Binds X.K fd ps []) (tk : Takes X W) (ha : DAs X W (e :: es) da) (hn : ps.length = n := by rfl) (hg : Gl X x := by rfl)
    (hdb : (x == ("__debug__" : Str)) = false := by decide) (he : starEach (e :: es) X.env = (false, eval e X.env) :: starEach es X.env := by rfl) (hpl : (backTo pos (starEach es X.env)).any (·.1) = false := by rfl) :
    DE X W (.Call (.Name x p) (e :: es) [] pos) (dCl (argN n fM) da) := by
  subst hn
  exact de_call_l F hr hm hk hb tk ha hg hdb he hpl
theorem de_meth {n : Nat} {dx : DX} {pl : Sem Bool} (he : DE X W o dx) (c : Cls X.K C) (hm : Meth X.K C m f) (F : FnX X k f fd ps fM) (hr : RoomG k X.A) (hb : Binds X.K fd ps []) (tk : Takes X W) (ha : DAs X W (e :: es) da) (hn : ps.length = n := by rfl)
    (hst : starEach (e :: es) X.env = (false, eval e X.env) :: starEach es X.env := by rfl) (hpl : (backTo pos (starEach es X.env)).any (·.1) = false := by rfl)
    (ht : eval (.Call (.Attribute o m apos) (e :: es) [] pos) X.env = (do let ov ← eval o X.env; standAt apos.atName; let (f, first) ← holding [ov] (getMethod ov m pl); callWith pos f first (backTo pos (starEach (e :: es) X.env)) (backToKw pos (keywordEach [] X.env))) := by rfl) :
    DE X W (.Call (.Attribute o m apos) (e :: es) [] pos) (dMe C m (argN n fM) dx da) := by
  subst hn
  exact de_meth_l he c hm F hr hb tk ha hst hpl ht
theorem de_meth0 {n : Nat} {dx : DX} {pl : Sem Bool} (he : DE X W o dx) (c : Cls X.K C) (hm : Meth X.K C m f) (F : FnX X k f fd ps fM) (hr : RoomG k X.A) (hb : Binds X.K fd ps []) (tk : Takes X W) (hn : ps.length = n := by rfl)
    (ht : eval (.Call (.Attribute o m apos) [] [] pos) X.env = (do let ov ← eval o X.env; standAt apos.atName; let (f, first) ← holding [ov] (getMethod ov m pl); callWith pos f first (backTo pos (starEach [] X.env)) (backToKw pos (keywordEach [] X.env))) := by rfl) :
    DE X W (.Call (.Attribute o m apos) [] [] pos) (dMe C m (argN n fM) dx dNil) := by
  subst hn
  exact de_meth0_l he c hm F hr hb tk ht
theorem de_make {n : Nat} (Mc : Mk X.K C f) (F : FnX X k f fd ps fM) (hr : RoomG (k + 1) X.A) (hm : X.mg x = some (.ref C)) (hb : Binds X.K fd ps []) (tk : Takes X W) (ha : DAs X W (e :: es) da) (hn : ps.length = n := by rfl) (hg : Gl X x := by rfl)
    (hdb : (x == ("__debug__" : Str)) = false := by decide) (he : starEach (e :: es) X.env = (false, eval e X.env) :: starEach es X.env := by rfl) (hpl : (backTo pos (starEach es X.env)).any (·.1) = false := by rfl) :
    DE X W (.Call (.Name x p) (e :: es) [] pos) (dMk C (argN n fM) da) := by
  subst hn
  exact de_make_l Mc F hr hm hb tk ha hg hdb he hpl
/-! ### self.f = e -/
def putD (f : Str) (d : D) : List (Str × D) → List (Str × D)
  | [] => [(f, d)]
  | (g, y) :: r => if g = f then (g, d) :: r else (g, y) :: putD f d r
theorem put_prs {R : V → D → Prop} {f : Str} {v : V} {d : D} (q : R v d) : ∀ {vs : List (Str × V)} {ds : List (Str × D)}, Prs R vs ds → Prs R (putF f v vs) (putD f d ds)
  | _, _, .nil => .cons q .nil
  | _, _, .cons (k := k) h r => by
    by_cases e : k = f
    · simp only [putF, putD, if_pos e]
      first | exact .cons q r | (subst e; exact .cons q r)
    · simp only [putF, putD, if_neg e]
      exact .cons h (put_prs q r)
theorem Prs.length {κ : Type} {R : V → D → Prop} : ∀ {vs : List (κ × V)} {ds : List (κ × D)}, Prs R vs ds → vs.length = ds.length
  | _, _, .nil => rfl
  | _, _, .cons _ r => congrArg (· + 1) (Prs.length r)
def fStF (C : Addr) (f : Str) (o d : D) (s : Sto) : Option Sto := match o with
  | .obj n => match insAt s n with
    | some (C', fs) => if C' = C ∧ fs.length < 1000 then some (s.set n (.ins C (putD f d fs))) else none
    | none => none
  | _ => none
def dStF (C : Addr) (f : Str) (do_ dv : DX) : DS := fun Δ => sbind (dv Δ) Δ fun d => sbind (do_ Δ) Δ fun o s => match fStF C f o d s with
  | some s' => some (.nx Δ, s')
  | none => none
theorem ds_fld {fn : Str} {v : Expr} {eo ev : DX} {pos' : Pos} (c : Cls X.K C) (nf : NoAttr X.K C fn) (ho : DE X W o eo) (hv : DE X W v ev) (hs : swapsWith v (some (.Attribute o fn pos')) pos.line X.env = pure false := by rfl) : DSt X W (.Assign [.Attribute o fn pos'] v pos) (dStF C fn eo ev) :=
  ps_imp (ps_fld ho hv hs) fun D σ H ⟨Δ, φ, s, hσ, hs, h⟩ => sbE hσ hs h fun φ1 u H1 d s1 f1 hσ1 hs1 rd h1 => sbE hσ1 hs1 h1 fun φ2 uo H2 od s2 f2 hσ2 hs2 ro h2 => by
    unfold fStF at h2
    split at h2
    · rename_i s' e
      split at e
      · split at e
        · rename_i n C' fs e1
          split at e
          · rename_i z
            cases e
            obtain ⟨z1, z2⟩ := z
            subst z1
            cases ro
            rename_i a ha
            obtain ⟨b, hb, dx, vs, kk, r⟩ := hs2.at (insAt_eq e1)
            rw [ha] at hb
            cases hb
            have fu2 : Fu X.K φ2 φ2 H2 (upd H2 a (.ins C' dx (putF fn u vs))) := fu_set hs2 ha
            exact ⟨a, _, dx, vs, rfl, kk, c, nf, by rw [r.length]; exact z2, h2 φ2 _ _ fu2 (hs2.set ha ⟨dx, _, upd_same, (put_prs (rd.fu f2) r).fu fu2⟩) (hσ2.fu fu2)⟩
          · cases e
        · cases e
      · cases e
    · exact h2.elim
end
end DV

namespace DV
open PySem L2 PyProof.Rows
section
variable {X : Cx} {W : WX}
/-! ### chains -/
theorem chain_read {f g : Op2} {r r' : R2} (hr : ∀ φ H s x y v u Q, So X.K φ H s → Dt X.K φ H v x → Dt X.K φ H u y → PsO X.K φ H Q (f x y s) → r v u H Q)
    (hr' : ∀ φ H s x y v u Q, So X.K φ H s → Dt X.K φ H v x → Dt X.K φ H u y → PsO X.K φ H Q (g x y s) → r' v u H Q) (hf : ∀ x y s z s', f x y s = some (z, s') → s' = s) {da db dc : DX} {σ : L2.St} {H : Hp} {Q : VK}
    (h : upE X.K W (dChain f g da db dc) σ H Q) : tChain r r' (upE X.K W da) (upE X.K W db) (upE X.K W dc) σ H Q := by
  obtain ⟨Δ, φ, s, hσ, hs, h⟩ := h
  refine upE_bind hσ hs h fun φ1 v H1 x s1 f1 hσ1 hs1 rx h1 => upE_bind hσ1 hs1 h1 fun φ2 u H2 y s2 f2 hσ2 hs2 ry h2 => ?_
  refine hr φ2 H2 s2 x y v u _ hs2 (rx.fu f2) ry ?_
  unfold mbind lift2 at h2
  cases e : f x y s2 with
  | none => rw [e] at h2; exact h2.elim
  | some p =>
    obtain ⟨z, s3⟩ := p
    have es := hf _ _ _ _ _ e
    subst es
    rw [e] at h2
    intro φ3 w H3 f3 so3 rz
    have h3 := h2.shift f3
    cases z <;> first | exact h3.elim | skip
    rename_i b
    cases rz
    refine ⟨b, rfl, ?_⟩
    cases b with
    | false => exact iteF (h3.ok so3 (.bl _))
    | true =>
      refine iteT ?_
      exact upE_bind (hσ2.fu f3) so3 h3 fun φ4 w' H4 d s4 f4 hσ4 hs4 rd h4 => hr' φ4 H4 s4 y d u w' Q hs4 ((ry.fu f3).fu f4) rd (PsO.of h4)
/-- the two run on values and leave the store -/
def Pure2 (f : Op2) : Prop := ∀ x y s z s', f x y s = some (z, s') → s' = s
theorem pure_fI {c : Int → Int → Bool} {g : Int → Int → D} : Pure2 (fI c g) := fun x y s z s' e => by
  unfold fI at e
  split at e
  · split at e
    · cases e; rfl
    · cases e
  · cases e
theorem de_chain {op op' : CmpOp} {f g : Op2} {a b c : Expr} {da db dc : DX} {pos : Pos} (ho : DOp X (compareOp op) f) (ho' : DOp X (compareOp op') g) (pf : Pure2 f) (ha : DE X W a da) (hb : DE X W b db) (hc : DE X W c dc) (hm : lastMarks [op, op'] [b, c] = false := by with_unfolding_all rfl) :
    DE X W (.Compare a [op, op'] [b, c] pos) (dChain f g da db dc) := by
  obtain ⟨r, h, hr⟩ := ho
  obtain ⟨r', h', hr'⟩ := ho'
  exact pe_imp (pe_chain h h' ha hb hc hm) fun σ H Q q => chain_read hr hr' pf q
theorem dt_chain {op op' : CmpOp} {f g : Op2} {a b c : Expr} {da db dc : DX} {pos : Pos} (ho : DOp X (compareOp op) f) (ho' : DOp X (compareOp op') g) (pf : Pure2 f) (ha : DE X W a da) (hb : DE X W b db) (hc : DE X W c dc) (hm : lastMarks [op, op'] [b, c] = false := by with_unfolding_all rfl) :
    DTe X W (.Compare a [op, op'] [b, c] pos) (dTest (dChain f g da db dc)) := by
  obtain ⟨r, h, hr⟩ := ho
  obtain ⟨r', h', hr'⟩ := ho'
  exact pt_imp (pt_chain h h' ha hb hc hm) fun σ H Q q => chain_read hr hr' pf (bl_read q)
/-! ### dicts -/
def keyD : D → Option Key
  | .int i => some (.inl i)
  | .str x => some (.inr x)
  | _ => none
def valD {κ : Type} [DecidableEq κ] (kvs : List (κ × D)) (k : κ) : Option D := (kvs.find? fun kv => decide (kv.1 = k)).map (·.2)
def putKD {κ : Type} [DecidableEq κ] (kvs : List (κ × D)) (k : κ) (v : D) : List (κ × D) := if (kvs.any fun kv => decide (kv.1 = k)) = true then kvs.map (fun kv => if kv.1 = k then (kv.1, v) else kv) else kvs ++ [(k, v)]
theorem Prs.val {κ : Type} [DecidableEq κ] {R : V → D → Prop} (k : κ) : ∀ {vs : List (κ × V)} {ds : List (κ × D)}, Prs R vs ds → (∀ d, valD ds k = some d → ∃ v, valV vs k = some v ∧ R v d) ∧ (valD ds k = none → valV vs k = none)
  | _, _, .nil => ⟨fun d e => (by cases e), fun _ => rfl⟩
  | _, _, .cons (k := k') (v := v) (vs := vs) (d := d) (ds := ds) h r => by
    unfold valD valV
    rw [List.find?_cons, List.find?_cons]
    by_cases e : k' = k
    · simp only [e, decide_true]
      exact ⟨fun d e => (by cases e; exact ⟨v, rfl, h⟩), fun e => (by cases e)⟩
    · simp only [e, decide_false]
      exact Prs.val k r
theorem Prs.any {κ : Type} [DecidableEq κ] {R : V → D → Prop} (k : κ) : ∀ {vs : List (κ × V)} {ds : List (κ × D)}, Prs R vs ds → (vs.any fun kv => decide (kv.1 = k)) = ds.any fun kv => decide (kv.1 = k)
  | _, _, .nil => rfl
  | _, _, .cons h r => by rw [List.any_cons, List.any_cons, Prs.any k r]
theorem Prs.append {κ : Type} {R : V → D → Prop} : ∀ {vs ws : List (κ × V)} {ds es : List (κ × D)}, Prs R vs ds → Prs R ws es → Prs R (vs ++ ws) (ds ++ es)
  | _, _, _, _, .nil, q => q
  | _, _, _, _, .cons h r, q => .cons h (Prs.append r q)
theorem Prs.upd {κ : Type} [DecidableEq κ] {R : V → D → Prop} {k : κ} {v : V} {d : D} (q : R v d) : ∀ {vs : List (κ × V)} {ds : List (κ × D)}, Prs R vs ds → Prs R (vs.map (fun kv => if kv.1 = k then (kv.1, v) else kv)) (ds.map (fun kv => if kv.1 = k then (kv.1, d) else kv))
  | _, _, .nil => .nil
  | _, _, .cons (k := k') h r => by
    rw [List.map_cons, List.map_cons]
    by_cases e : k' = k
    · simp only [if_pos e]
      exact .cons q (Prs.upd q r)
    · simp only [if_neg e]
      exact .cons h (Prs.upd q r)
theorem Prs.put {κ : Type} [DecidableEq κ] {R : V → D → Prop} {k : κ} {v : V} {d : D} (q : R v d) {vs : List (κ × V)} {ds : List (κ × D)} (r : Prs R vs ds) : Prs R (putK vs k v) (putKD ds k d) := by
  unfold putK putKD
  rw [r.any k]
  split
  · exact r.upd q
  · exact r.append (.cons q .nil)
def dctAt (s : Sto) (n : Nat) : Option (List (Key × D)) := match s[n]? with
  | some (.dK xs) => some xs
  | _ => none
theorem dctAt_eq {s : Sto} {n : Nat} {xs : List (Key × D)} (h : dctAt s n = some xs) : s[n]? = some (.dK xs) := by
  unfold dctAt at h
  split at h
  · cases h; assumption
  · cases h
theorem So.dct {K : PySem.W.Frag} {φ : List Addr} {H : Hp} {s : Sto} (h : So K φ H s) {n : Nat} {xs : List (Key × D)} (e : dctAt s n = some xs) {a : Addr} (ha : φ[n]? = some a) : ∃ vs, H a = some (.dK vs) ∧ Prs (Dt K φ H) vs xs := by
  obtain ⟨b, hb, q⟩ := h.ob _ _ (dctAt_eq e)
  rw [ha] at hb
  cases hb
  exact q
theorem keyD_kV {K : PySem.W.Frag} {φ : List Addr} {H : Hp} {v : V} {x : D} {k : Key} (r : Dt K φ H v x) (e : keyD x = some k) : v = kV k := by
  cases r <;> first | (cases e; rfl) | cases e
def mDct (x : D) : M Unit := fun s => match x with
  | .obj n => match dctAt s n with
    | some _ => some (.ok (), s)
    | none => none
  | _ => none
/-- the entry at a key, of a dict -/
def dGetK (x y : D) (s : Sto) : Option (Option D) := match x with
  | .obj n => match dctAt s n with
    | some kvs => match keyD y with
      | some k => some (valD kvs k)
      | none => none
    | none => none
  | _ => none
theorem dGetK_ok {K : PySem.W.Frag} {φ : List Addr} {H : Hp} {s : Sto} {v u : V} {x y : D} {o : Option D} (so : So K φ H s) (rx : Dt K φ H v x) (ry : Dt K φ H u y) (e : dGetK x y s = some o) : ∃ a ov, v = .ref a ∧ DGet H a u ov ∧ (∀ d, o = some d → ∃ w, ov = some w ∧ Dt K φ H w d) ∧ (o = none → ov = none) := by
  unfold dGetK at e
  split at e
  · cases rx
    rename_i n a ha
    split at e
    · rename_i kvs e1
      split at e
      · rename_i k e2
        cases e
        obtain ⟨vs, h1, r⟩ := so.dct e1 ha
        obtain ⟨q1, q2⟩ := r.val k
        rw [keyD_kV ry e2]
        exact ⟨a, _, rfl, DGet.k h1, q1, q2⟩
      · cases e
    · cases e
  · cases e
theorem mDct_bind {K : PySem.W.Frag} {φ : List Addr} {H : Hp} {s : Sto} {x : D} {v : V} {γ δ : Type} {R' : List Addr → Hp → δ → γ → Prop} {W : WK} {Cc : List Addr → δ → Hp → γ → Sto → Prop} {k : Unit → M γ} (so : So K φ H s) (rx : Dt K φ H v x)
    (h : Ps K W R' φ H Cc (mbind (mDct x) k s)) : (∃ a, v = .ref a ∧ IsD H a) ∧ Ps K W R' φ H Cc (k () s) := by
  unfold mbind at h
  cases e : mDct x s with
  | none => rw [e] at h; exact h.elim
  | some p =>
    rw [e] at h
    unfold mDct at e
    split at e
    · cases rx
      rename_i n a ha
      split at e
      · rename_i kvs e1
        cases e
        obtain ⟨vs, h1, r⟩ := so.dct e1 ha
        exact ⟨⟨a, rfl, .inl ⟨vs, .inl h1⟩⟩, h⟩
      · cases e
    · cases e
def dDGet1 (dx dy : DX) : DX := fun Δ => mbind (dx Δ) fun x => mbind (mDct x) fun _ => mbind (dy Δ) fun y s => match dGetK x y s with
  | some o => some (.ok (o.getD .non), s)
  | none => none
def dDGet2 (dx dy dz : DX) : DX := fun Δ => mbind (dx Δ) fun x => mbind (mDct x) fun _ => mbind (dy Δ) fun y => mbind (dz Δ) fun z s => match dGetK x y s with
  | some o => some (.ok (o.getD z), s)
  | none => none
theorem getD_dt {K : PySem.W.Frag} {φ : List Addr} {H : Hp} {o : Option D} {ov : Option V} {d : D} {w : V} (h1 : ∀ d, o = some d → ∃ w, ov = some w ∧ Dt K φ H w d) (h2 : o = none → ov = none) (r : Dt K φ H w d) : Dt K φ H (ov.getD w) (o.getD d) := by
  cases o with
  | none => rw [h2 rfl]; exact r
  | some x =>
    obtain ⟨w', e, r'⟩ := h1 x rfl
    rw [e]
    exact r'
theorem de_dget1 {o e : Expr} {dx dy : DX} {apos cpos : Pos} (hu : X.A.units + 1 < cLine) (ho : DE X W o dx) (he : DE X W e dy) (m : M1 X o "get" apos e cpos := by exact ⟨rfl, rfl, rfl, rfl⟩) : DE X W (.Call (.Attribute o "get" apos) [e] [] cpos) (dDGet1 dx dy) :=
  pe_imp (pe_dget1 hu ho he m) fun σ H Q ⟨Δ, φ, s, hσ, hs, h⟩ => upE_bind hσ hs h fun φ1 v H1 x s1 f1 hσ1 hs1 rx h1 => by
    obtain ⟨⟨a, rfl, d⟩, h2⟩ := mDct_bind hs1 rx h1
    refine ⟨a, rfl, d, upE_bind hσ1 hs1 h2 fun φ2 u H2 y s2 f2 hσ2 hs2 ry h3 => ?_⟩
    split at h3
    · rename_i o e
      obtain ⟨b, ov, eb, g, q1, q2⟩ := dGetK_ok hs2 (rx.fu f2) ry e
      cases eb
      exact ⟨ov, g, h3.ok hs2 (getD_dt q1 q2 .non)⟩
    · exact h3.elim
theorem de_dget2 {o e f : Expr} {dx dy dz : DX} {apos cpos : Pos} (hu : X.A.units + 1 < cLine) (ho : DE X W o dx) (he : DE X W e dy) (hf : DE X W f dz) (m : M2 X o "get" apos e f cpos := by exact ⟨rfl, rfl, rfl, rfl⟩) : DE X W (.Call (.Attribute o "get" apos) [e, f] [] cpos) (dDGet2 dx dy dz) :=
  pe_imp (pe_dget2 hu ho he hf m) fun σ H Q ⟨Δ, φ, s, hσ, hs, h⟩ => upE_bind hσ hs h fun φ1 v H1 x s1 f1 hσ1 hs1 rx h1 => by
    obtain ⟨⟨a, rfl, d⟩, h2⟩ := mDct_bind hs1 rx h1
    refine ⟨a, rfl, d, upE_bind hσ1 hs1 h2 fun φ2 u H2 y s2 f2 hσ2 hs2 ry h3 => upE_bind hσ2 hs2 h3 fun φ3 w H3 z s3 f3 hσ3 hs3 rz h4 => ?_⟩
    split at h4
    · rename_i o e
      obtain ⟨b, ov, eb, g, q1, q2⟩ := dGetK_ok hs3 ((rx.fu f2).fu f3) (ry.fu f3) e
      cases eb
      exact ⟨ov, g, h4.ok hs3 (getD_dt q1 q2 rz)⟩
    · exact h4.elim
/-- d[k] -/
def dDIx (dx dy : DX) : DX := fun Δ => mbind (dx Δ) fun x => mbind (dy Δ) fun y s => match dGetK x y s with
  | some (some d) => some (.ok d, s)
  | _ => none
theorem de_dix {o i : Expr} {dx dy : DX} {pos : Pos} (hu : X.A.units + 1 < cLine) (ho : DE X W o dx) (hi : DE X W i dy) (hs : NoSl i := by exact fun _ _ => rfl) : DE X W (.Subscript o i pos) (dDIx dx dy) :=
  pe_imp (pe_dget hu ho hi hs) fun σ H Q ⟨Δ, φ, s, hσ, hs, h⟩ => upE_bind hσ hs h fun φ1 v H1 x s1 f1 hσ1 hs1 rx h1 => upE_bind hσ1 hs1 h1 fun φ2 u H2 y s2 f2 hσ2 hs2 ry h2 => by
    split at h2
    · rename_i d e
      obtain ⟨a, ov, rfl, g, q1, q2⟩ := dGetK_ok hs2 (rx.fu f2) ry e
      obtain ⟨w, rfl, rw⟩ := q1 d rfl
      exact ⟨a, w, rfl, g, h2.ok hs2 rw⟩
    · exact h2.elim
/-- {} with keys that are ints or texts -/
def dDNew : DX := fun _ => mnew (.dK [])
theorem de_dnew {pos : Pos} : DE X W (.Dict [] [] pos) dDNew := pe_imp pe_dnewK fun σ H Q ⟨Δ, φ, s, hσ, hs, h⟩ p hp => h _ _ _ (fu_newO hp) (hs.newO (o := .dK []) hp ⟨[], upd_same, .nil⟩) (obj_new hs)
/-- d[k] = v -/
def dDPut (dx dy dv : DX) : DS := fun Δ => sbind (dv Δ) Δ fun v => sbind (dx Δ) Δ fun x => sbind (dy Δ) Δ fun y s => match x with
  | .obj n => match dctAt s n with
    | some kvs => match keyD y with
      | some k => if kvs.length < sizeLine then some (.nx Δ, s.set n (.dK (putKD kvs k v))) else none
      | none => none
    | none => none
  | _ => none
theorem ds_dput {o i value : Expr} {dx dy dv : DX} {pos pos' : Pos} (hu : X.A.units + 1 < cLine) (ho : DE X W o dx) (hi : DE X W i dy) (hv : DE X W value dv) (hs : swapsWith value (some (.Subscript o i pos')) pos.line X.env = pure false := by rfl) :
    DSt X W (.Assign [.Subscript o i pos'] value pos) (dDPut dx dy dv) :=
  ps_imp (ps_dput hu ho hi hv hs) fun D σ H ⟨Δ, φ, s, hσ, hs, h⟩ => sbE hσ hs h fun φ1 w H1 d s1 f1 hσ1 hs1 rd h1 => sbE hσ1 hs1 h1 fun φ2 v H2 x s2 f2 hσ2 hs2 rx h2 => sbE hσ2 hs2 h2 fun φ3 u H3 y s3 f3 hσ3 hs3 ry h3 => by
    split at h3
    · rename_i n
      have rx3 := rx.fu f3
      have rd3 := (rd.fu f2).fu f3
      cases rx3
      rename_i a ha
      split at h3
      · rename_i kvs e1
        split at h3
        · rename_i k e2
          split at h3
          · rename_i hz
            obtain ⟨vs, k1, r⟩ := hs3.dct e1 ha
            rw [keyD_kV ry e2]
            have ff : Fu X.K φ3 φ3 H3 (upd H3 a (.dK (putK vs k w))) := fu_set hs3 ha
            exact ⟨a, _, rfl, DPut.k k1 (by rw [r.length]; exact hz), h3 φ3 _ _ ff (hs3.set (o := .dK (putKD kvs k d)) ha ⟨_, upd_same, (r.put rd3).fu ff⟩) (hσ3.fu ff)⟩
          · exact h3.elim
        · exact h3.elim
      · exact h3.elim
    · exact h3.elim
/-- d.setdefault(k, v) -/
def dDSetd (dx dy dz : DX) : DX := fun Δ => mbind (dx Δ) fun x => mbind (mDct x) fun _ => mbind (dy Δ) fun y => mbind (dz Δ) fun z s => match x with
  | .obj n => match dctAt s n with
    | some kvs => match keyD y with
      | some k => if kvs.length < sizeLine then (match valD kvs k with
        | some d => some (.ok d, s)
        | none => some (.ok z, s.set n (.dK (putKD kvs k z)))) else none
      | none => none
    | none => none
  | _ => none
theorem de_dsetd {o e f : Expr} {dx dy dz : DX} {apos cpos : Pos} (ho : DE X W o dx) (he : DE X W e dy) (hf : DE X W f dz) (m : M2 X o "setdefault" apos e f cpos := by exact ⟨rfl, rfl, rfl, rfl⟩) : DE X W (.Call (.Attribute o "setdefault" apos) [e, f] [] cpos) (dDSetd dx dy dz) :=
  pe_imp (pe_dsetd ho he hf m) fun σ H Q ⟨Δ, φ, s, hσ, hs, h⟩ => upE_bind hσ hs h fun φ1 v H1 x s1 f1 hσ1 hs1 rx h1 => by
    obtain ⟨⟨a, rfl, d⟩, h2⟩ := mDct_bind hs1 rx h1
    refine ⟨a, rfl, d, upE_bind hσ1 hs1 h2 fun φ2 u H2 y s2 f2 hσ2 hs2 ry h3 => upE_bind hσ2 hs2 h3 fun φ3 w H3 z s3 f3 hσ3 hs3 rz h4 => ?_⟩
    split at h4
    · rename_i n
      have rx3 := (rx.fu f2).fu f3
      cases rx3
      rename_i ha
      split at h4
      · rename_i kvs e1
        split at h4
        · rename_i k e2
          split at h4
          · rename_i hz
            obtain ⟨vs, k1, r⟩ := hs3.dct e1 ha
            obtain ⟨q1, q2⟩ := r.val k
            refine ⟨vs, k, k1, keyD_kV ry e2, by rw [r.length]; exact hz, fun v0 ev => ?_, fun ev => ?_⟩
            · split at h4
              · rename_i d0 e3
                obtain ⟨v1, ev1, rv1⟩ := q1 d0 e3
                rw [ev1] at ev
                cases ev
                exact h4.ok hs3 rv1
              · rename_i e3
                rw [q2 e3] at ev
                cases ev
            · split at h4
              · rename_i d0 e3
                obtain ⟨v1, ev1, rv1⟩ := q1 d0 e3
                rw [ev1] at ev
                cases ev
              · rename_i e3
                have ff : Fu X.K φ3 φ3 H3 (upd H3 a (.dK (putK vs k w))) := fu_set hs3 ha
                exact h4 φ3 _ _ ff (hs3.set (o := .dK (putKD kvs k z)) ha ⟨_, upd_same, (r.put rz).fu ff⟩) (rz.fu ff)
          · exact h4.elim
        · exact h4.elim
      · exact h4.elim
    · exact h4.elim
/-! ### raise C('..'), an own class without an __init__ of its own -/
def dRaiseC (C : Addr) : DS := fun Δ s => some (.ex ⟨C, []⟩ Δ, s)
structure ExcF (K : PySem.W.Frag) (mg : Str → Option Value) (x : Str) (C : Addr) : Prop where
  q : PySem.W.excIn K C [.type "ValueError", .type "Exception", .type "BaseException", .type "object"] "ValueError.__new__" = true
  gC : mg x = some (.ref C)
  kC : PySem.W.keepIn K (.ref C) = true
  b : PySem.W.subIn K (.ref C) (.type "BaseException") = some true
  t : PySem.W.typeIn K (.ref C) = some (.type "type")
theorem ds_raiseC {x m : Str} {C : Addr} {j : Nat} {p p2 pos pos2 : Pos} (T : ExcF X.K X.mg x C) (hc : X.calm = true) (tk : Takes X W) (hg : Gl X x := by rfl) (hdb : (x == ("__debug__" : Str)) = false := by decide) :
    DSt X W (.Raise (some (.Call (.Name x p) [.Constant (.str m) j p2] [] pos)) none pos2) (dRaiseC C) :=
  ps_imp (ps_raise hc tk (pmk_own PySem.F.excBase_ValueError T.q T.gC T.kC (raises_own T.b T.t) hg hdb)) fun D σ H ⟨Δ, φ, s, hσ, hs, h⟩ => h φ σ H (.ref C) none (Fu.refl _ _) hs hσ ⟨rfl, .inl ⟨rfl, rfl⟩⟩
end
end DV

namespace DV
open PySem L2 PyProof.Rows
theorem hu64 {k : Nat} {A : Around} (hr : RoomG k A) : A.units + 64 < cLine := by have := hr.rm.un; omega
theorem hu66 {k : Nat} {A : Around} (hr : RoomG k A) : A.units + 66 < cLine := by have := hr.rm.un; omega
theorem hu1 {k : Nat} {A : Around} (hr : RoomG k A) : A.units + 1 < cLine := by have := hr.rm.un; omega
theorem hu0 {k : Nat} {A : Around} (hr : RoomG k A) : A.units < cLine := by have := hr.rm.un; omega
/-- no turn of a recursion is left -/
theorem fn_none {P : Program} {w : World} {K : PySem.W.Frag} {mg : Str → Option Value} {base : Heap} {k : Nat} {f : Addr} {fd : FuncData} {ps : List Str} : FnG P w K mg base k f fd ps (fun _ _ => none) :=
  ⟨fun A outer s H args us vs Q E _ _ _ _ h => by
    obtain ⟨_, ds, φ, s, _, _, h⟩ := h
    exact h.elim⟩
section
variable {X : Cx} {W : WX}
/-! ### a written dict of ints -/
def kdB : List DictEntry → List (Int × Int) → Bool
  | [], [] => true
  | e :: es, (k, v) :: r => (match e.key, e.val with
    | .int k' _, .int v' _ => k' == k && v' == v && e.hash == hashInt k
    | _, _ => false) && kdB es r
  | _, _ => false
def lookI : List (Int × Int) → Int → Option Int
  | [], _ => none
  | (k, v) :: r, i => if k = i then some v else lookI r i
theorem kdB_keys : ∀ {es : List DictEntry} {kvs : List (Int × Int)}, kdB es kvs = true → ∀ e ∈ es, ∃ k : Key, keyIs k e.key = true ∧ ∀ w, e.hash = keyH w k
  | [], [], _, _, h => by cases h
  | e :: es, (k, v) :: r, h, e', h' => by
    unfold kdB at h
    rw [Bool.and_eq_true] at h
    rcases List.mem_cons.mp h' with rfl | h'
    · obtain ⟨h1, _⟩ := h
      split at h1
      · rename_i k' t v' t' ek ev
        simp only [Bool.and_eq_true, beq_iff_eq] at h1
        obtain ⟨⟨rfl, rfl⟩, eh⟩ := h1
        exact ⟨.inl k', by rw [ek]; exact keyIs_int _ _, fun w => eh⟩
      · cases h1
    · exact kdB_keys h.2 e' h'
theorem kdB_find : ∀ {es : List DictEntry} {kvs : List (Int × Int)} (i : Int), kdB es kvs = true → match lookI kvs i with
    | some v => ∃ t, (es.find? fun e => keyIs (.inl i) e.key).map (·.val) = some (.int v t)
    | none => (es.find? fun e => keyIs (.inl i) e.key).map (·.val) = none
  | [], [], _, _ => rfl
  | e :: es, (k, v) :: r, i, h => by
    unfold kdB at h
    rw [Bool.and_eq_true] at h
    obtain ⟨h1, h2⟩ := h
    split at h1
    · rename_i k' t v' t' ek ev
      simp only [Bool.and_eq_true, beq_iff_eq] at h1
      obtain ⟨⟨rfl, rfl⟩, eh⟩ := h1
      rw [List.find?_cons]
      by_cases hk : k' = i
      · subst hk
        have q : keyIs (.inl k') e.key = true := by rw [ek]; exact keyIs_int _ _
        simp only [lookI, if_true, q, Option.map_some, ev]
        exact ⟨t', rfl⟩
      · have q : keyIs (.inl i) e.key = false := by
          rw [ek]
          show Value.isInt i (.int k' t) = false
          simp only [Value.isInt]
          exact beq_eq_false_iff_ne.mpr (fun z => hk (by first | exact z | exact z.symm))
        simp only [lookI, if_neg hk, q]
        exact kdB_find i h2
    · cases h1
structure KdI (K : PySem.W.Frag) (a : Addr) (kvs : List (Int × Int)) : Prop where
  ex : ∃ es n, K.lookup a = some ⟨.type "dict", none, .dict es n, #[]⟩ ∧ kdB es.toList kvs = true
  ns : (a == sysModules) = false
def dKGet (kvs : List (Int × Int)) (dy : DX) : DX := fun Δ => mbind (dy Δ) fun y s => match y with
  | .int i => match lookI kvs i with
    | some v => some (.ok (.int v), s)
    | none => some (.ok .non, s)
  | _ => none
theorem de_kget {o e : Expr} {a : Addr} {kvs : List (Int × Int)} {dy : DX} {apos cpos : Pos} (T : KdI X.K a kvs) (ho : PE X o (tC (.ref a))) (he : DE X W e dy) (m : M1 X o "get" apos e cpos := by exact ⟨rfl, rfl, rfl, rfl⟩) : DE X W (.Call (.Attribute o "get" apos) [e] [] cpos) (dKGet kvs dy) := by
  refine ⟨fun pins s σ H Q I ⟨Δ, φ, st, hσ, hs, h⟩ => ?_⟩
  obtain ⟨⟨es, n, hk, hd⟩, hns⟩ := T
  refine wpAny_Call_method m.base m.few m.line PySem.F.plainAttrs_dict PySem.F.slot_dict_get PySem.F.type_dict_get (thn (ho.run pins s σ H (fun v H1 => v = .ref a ∧ H1 = H) I ⟨rfl, rfl⟩) fun u s1 ⟨x, H1, I1, rx, ex, eH⟩ => ?_)
  subst ex eH
  obtain rfl : u = Value.ref a := rx
  have ob := I1.kIn a _ hk
  refine ⟨⟨_, ob, rfl⟩, fun b q => by cases q; exact ⟨_, ob, rfl⟩, ?_⟩
  rw [m.trees]
  have hE : upE X.K W dy σ H1 fun y H2 => ∃ i, y = .int i ∧ Q (match lookI kvs i with | some v => .int v | none => .non) H2 :=
    upE_bind hσ hs h fun φ1 v H2 y s2 f1 hσ1 hs1 ry h1 => by
      split at h1
      · cases ry
        rename_i i
        refine ⟨i, rfl, ?_⟩
        split at h1
        · exact h1.ok hs1 (.int _)
        · exact h1.ok hs1 .non
      · exact h1.elim
  refine Calls.callWith_builtin rfl (Calls.evalArgs_plain (Calls.spliced_cons (thn (he.run pins s1 σ H1 _ I1 hE) fun iv s2 ⟨y, H2, I2, ry, i, ey, q2⟩ => Calls.spliced_nil ?_)))
  subst ey
  obtain ⟨t, rfl⟩ := ry
  have ob2 := I2.kIn a _ hk
  have mo : s2.heap.MapOf (mixKind X.prog X.w) a (fun k => findBy (mixKind X.prog X.w).is es k) := ⟨_, es, n, ob2, ⟨rfl, rfl, rfl⟩, rfl, fun e he => by
    obtain ⟨k, k1, k2⟩ := kdB_keys hd e (by simpa using he)
    exact ⟨k, k1, k2 _⟩, fun _ => rfl⟩
  refine call_meetsIn PySem.F.slot_dict_get mo.typeIs PySem.F.entry_dict_get (PySem.F.args_dict_get_2 _ _) (meets_dict_get (mixKind X.prog X.w) a (k := .inl i) (kV_is (k := .inl i) (show ∃ t', Value.int i t = Value.int i t' from ⟨t, rfl⟩)) hns) ⟨_, mo, ?_⟩
  have hf := kdB_find i hd
  have e1 : findBy (mixKind X.prog X.w).is es (.inl i) = (es.toList.find? fun e => keyIs (.inl i) e.key).map (·.val) := by
    unfold findBy
    obtain ⟨l⟩ := es
    rw [List.find?_toArray]
    rfl
  rw [e1]
  cases eL : lookI kvs i with
  | none =>
    rw [eL] at hf q2
    simp only at hf q2
    rw [hf]
    exact ⟨.non, H2, I2.tok _, rfl, q2⟩
  | some v =>
    rw [eL] at hf q2
    simp only at hf q2
    obtain ⟨t', hf⟩ := hf
    rw [hf]
    exact ⟨.int v, H2, I2.tok _, ⟨t', rfl⟩, q2⟩
/-! ### max of a tuple of ints -/
theorem dpAll_ints {K : PySem.W.Frag} {H : Hp} : ∀ ns : List Int, DpAll K H (ns.map V.int) (ns.map PyData.int)
  | [] => .nil
  | i :: r => .cons (.int i) (dpAll_ints r)
theorem foldl_max (a : Int) : ∀ r : List Int, r.foldl max a = r.foldl maxI a := fun r => by
  have e : (fun a b : Int => max a b) = maxI := by
    funext a b
    unfold maxI
    by_cases h : b > a
    · rw [if_pos h]; omega
    · rw [if_neg h]; omega
  show r.foldl (fun a b : Int => max a b) a = _
  rw [e]
def fMaxT : OpN := fun xs s => match xs with
  | [.tup ys] => match intsOf ys with
    | some ns => if 0 < ns.length then some (.int (maxL ns), s) else none
    | none => none
  | _ => none
def rMaxT (K : PySem.W.Frag) : List V → Hp → VK → Prop := fun vs H Q => ∃ (a : Addr) (ns : List Int), vs = [V.ref a] ∧ SqT K H a (ns.map V.int) ∧ 0 < ns.length ∧ Q (.int (maxL ns)) H
theorem cr_maxT (hc : X.calm = true) (hu : X.A.units + 66 < cLine) : CallR X (.builtin "max") (rMaxT X.K) := by
  intro pins s σ H vs us Q I r h
  obtain ⟨a, ns, rfl, hs, hne, q⟩ := h
  obtain ⟨its, rv, hl, _⟩ := I.tuple hs
  rw [Vals.ref1 r]
  cases ns with
  | nil => exact absurd hne (Nat.lt_irrefl 0)
  | cons n r =>
    obtain ⟨as, hr⟩ := Dp.readsAll I _ _ its (dpAll_ints (n :: r)) rv
    have al : PySem.W.AlikeAll ((n :: r).map PyData.int) := ⟨fun x hx y hy => by
      obtain ⟨i, _, rfl⟩ := List.mem_map.mp hx
      obtain ⟨j, _, rfl⟩ := List.mem_map.mp hy
      rfl, fun x hx => by
      obtain ⟨i, _, rfl⟩ := List.mem_map.mp hx
      exact fun z => nomatch z⟩
    have dp : PyData.depthAll ((n :: r).map PyData.int) = 0 := PySem.W.depth_ints (n :: r)
    obtain ⟨o, ho, hcl, m, hd⟩ := hl
    refine PySem.W.max_tuple_data (x := .int n) (xs := r.map .int) (I.ok.hd hc) ⟨o, ho, hcl, m, hd⟩ hr al (by rw [List.map_cons] at dp; rw [dp]; omega) fun i v h' tk bs hv rd hk => ?_
    rw [PySem.W.maxD_ints, foldl_max] at rd
    cases rd
    exact ⟨.int (maxL (n :: r)), H, I.kept hk, ⟨_, rfl⟩, q⟩
theorem dc_maxT (hc : X.calm = true) (hu : X.A.units + 66 < cLine) : DCall X (.builtin "max") fMaxT := ⟨_, cr_maxT hc hu, fun φ H s vs ds Q so rx p => by
  unfold fMaxT at p
  split at p
  · obtain ⟨v, rfl, r⟩ := dts1 rx
    obtain ⟨a, ws, rfl, hq, r⟩ := r.tupI
    split at p
    · rename_i ns e
      split at p
      · rename_i hz
        rw [intsOf_eq e] at r
        rw [r.ints] at hq
        exact ⟨a, ns, rfl, hq, hz, p.ok so (.int _)⟩
      · exact p.elim
    · exact p.elim
  · exact p.elim⟩
def fMaxA : OpN := orN fMax fMaxT
theorem dc_maxA (hc : X.calm = true) (hu : X.A.units + 66 < cLine) : DCall X (.builtin "max") fMaxA := (dc_max hc).or (dc_maxT hc hu)
end
end DV

namespace DV
open PySem L2 PyProof.Rows
section
variable {X : Cx} {W : WX}
/-! ### a, b = x, y -/
def dPar (i j : Nat) (da : DA) : DS := fun Δ => sbind (da Δ) Δ fun xs s => match xs with
  | [x, y] => some (.nx ((Δ.set i (some x)).set j (some y)), s)
  | _ => none
theorem sbA {K : PySem.W.Frag} {D : Ends} {φ : List Addr} {H : Hp} {s : Sto} {σ : L2.St} {Δ : Dn} {da : DA} {k : List DV.D → Sto → RS} {Q : List V → Hp → Prop} (hσ : Sg K φ H σ Δ) (hs : So K φ H s) (h : PsS K W D φ H (sbind (da Δ) Δ k s))
    (q : ∀ φ1 vs H1 ds s1, Fu K φ φ1 H H1 → Sg K φ1 H1 σ Δ → So K φ1 H1 s1 → Dts K φ1 H1 vs ds → PsS K W D φ1 H1 (k ds s1) → Q vs H1) : upA K W da σ H Q :=
  ⟨Δ, φ, s, hσ, hs, Ps.mono (fun φ1 v H1 d s1 z => q φ1 v H1 d s1 z.1 (hσ.fu z.1) z.2.1 z.2.2.1 z.2.2.2) (sb hσ h)⟩
theorem ds_par {i j : Nat} {x y : Str} {a b : Expr} {da : DA} {px py pt pos : Pos} {kt k2 pt2} (hc : X.calm = true) (hN : X.N.Nodup) (ha : DAs X W [a, b] da) (hi : X.N[i]? = some x := by rfl) (hj : X.N[j]? = some y := by rfl) (hij : i ≠ j := by decide)
    (hx : X.env.scope.names.lookup x = some .local := by rfl) (hy : X.env.scope.names.lookup y = some .local := by rfl)
    (hw : swappedStores [.Tuple [.Name x px, .Name y py] kt pt] (.Tuple [a, b] k2 pt2) X.env = pure (some [x, y]) := by rfl)
    (hs : swapsWithSole [.Tuple [.Name x px, .Name y py] kt pt] (.Tuple [a, b] k2 pt2) pos.line X.env = pure false := by rfl) :
    DSt X W (.Assign [.Tuple [.Name x px, .Name y py] kt pt] (.Tuple [a, b] k2 pt2) pos) (dPar i j da) :=
  ps_imp (ps_par hc hN hi hj hij hx hy ha hw hs) fun D σ H ⟨Δ, φ, s, hσ, hs, h⟩ => sbA hσ hs h fun φ1 vs H1 ds s1 f1 hσ1 hs1 rs h1 => by
    split at h1
    · obtain ⟨v, w, rfl, r1, r2⟩ := dts2 rs
      exact ⟨v, w, rfl, h1 φ1 _ _ (Fu.refl _ _) hs1 ((hσ1.set r1 i).set r2 j)⟩
    · exact h1.elim
end
/-! ### the law -/
/-- what law(script) promises: for a list of at most 63 ints the answer is True -/
def spLaw (K : PySem.W.Frag) : Sp := fun vs H Q _ => ∃ (a : Addr) (ns : List Int), vs = [.ref a] ∧ FzL K H a (ns.map V.int) ∧ ns.length ≤ 63 ∧ ∀ H', Q (.bl true) H'
theorem So.none {K : PySem.W.Frag} {H : Hp} : So K [] H [] := ⟨rfl, .nil, fun n o e => by simp at e⟩
theorem FzL.only {K : PySem.W.Frag} {H : Hp} {a : Addr} {vs : List V} (o : Only H) (h : SqL K H a vs) : FzL K H a vs := by
  rcases h with (h | ⟨ob, h⟩) | h
  · rcases o a with z | ⟨ob, xs, z⟩ <;> (rw [z] at h; cases h)
  · exact .inl ⟨ob, h⟩
  · exact .inr (.inr h)
/-- the run over the data says True for every script -/
def AllTrue (fM : FnD) : Prop := ∀ ns : List Int, ns.length ≤ 63 → ∃ s, fM [.fz (ns.map .int)] [] = some (.ok (.bl true), s)
theorem no_exc {P : Program} {w : World} {H : Hp} {s : Shared} {e : Value} {s' : Shared} (h : L2.CX P w [] H s (fun _ _ _ => False) e s') : False := by
  obtain ⟨_, _, _, _, _, _, _, _, _, _, _, _, z⟩ := h
  exact z
/-- the law's call at the top, from its run over the data -/
theorem law_top {P : Program} {w : World} {K : PySem.W.Frag} {mg mb : Str → Option Value} {k : Nat} {fa a : Addr} {fd : FuncData} {x : Str} {fM : FnD} {t : Shared} {vs : List Value} {ns : List Int} (inK : K.In t.heap) (nsM : t.heap.Ns mainGlobals mg) (nsB : t.heap.Ns builtinsNs mb)
    (boot : ∀ y : Str, y ≠ "__name__" → mb y = bootBuiltins y) (lim : t.heap.NoLimit) (noG : t.gens = #[]) (script : t.heap.get? a = some { cls := .type "list", data := .seq vs.toArray }) (hints : IntsAre vs ns) (h63 : ns.length ≤ 63) (hr : RoomG k callerA)
    (F : ∀ base : Heap, K.In base → base.Ns mainGlobals mg → FnG P w K mg base k fa fd [x] fM) (bind : ∀ (s : Shared) (u : Value), BindsTo s fd ⟨[u], []⟩ [(x, u)]) (hT : AllTrue fM) :
    codeAny (model P w) callerA (.call (.ref fa) ⟨[.ref a], []⟩) (fun r t2 => r = .ok (.ret (.bool true)) ∧ OldK t.heap t2.heap ∧ t2.os = t.os ∧ AllBare t2.gens) t := by
  have vals := vals_ints hints
  have small : ns.length ≤ sizeLine := Nat.le_of_lt (small1000 (by omega))
  -- H tracks the script at most
  have run : ∀ H : Hp, (∀ b, H b = none ∨ ∃ ob xs, H b = some (.frz ob (.lst xs))) → FzL K H a (ns.map V.int) → HOk P w H t.heap → (∀ b, H b ≠ none → b = a) → (H a ≠ none → K.lookup a = none) →
      codeAny (model P w) callerA (.call (.ref fa) ⟨[.ref a], []⟩) (fun r t2 => r = .ok (.ret (.bool true)) ∧ OldK t.heap t2.heap ∧ t2.os = t.os ∧ AllBare t2.gens) t := fun H only fz hok alone free => by
    have untracked : ∀ {b : Addr} {o : Obj}, t.heap.get? b = some o → (b = a → H a = none) → (hidT t.heap H).get? b = some o := fun {b o} e n => hidT_get e (by
      cases q : H b with
      | none => rfl
      | some u =>
        have z := alone b (by rw [q]; simp)
        rw [z] at q
        rw [n z] at q
        cases q)
    have dicts : ∀ {b : Addr} {m : Str → Option Value}, t.heap.Ns b m → (hidT t.heap H).Ns b m := fun {b m} ⟨o, es, ep, e, d, r⟩ => ⟨o, es, ep, untracked e (fun z => by
      subst z
      rw [script] at e
      cases e
      cases (show Data.seq vs.toArray _ = Data.dict es ep from d)), d, r⟩
    have inB : K.In (hidT t.heap H) := fun b o e => untracked (inK b o e) (fun z => by
      subst z
      cases q : H b with
      | none => rfl
      | some u => rw [free (by rw [q]; simp)] at e; cases e)
    obtain ⟨ml, l1, l2⟩ := lim
    have md : Mod K mg (hidT t.heap H) := ⟨inB, dicts nsM, ⟨mb, dicts nsB, boot⟩, ⟨ml, dicts l1, l2⟩⟩
    have env0 : Env0 P w K mg (hidT t.heap H) callerA [] t H := ⟨rfl, md, fun b o e => of_hidT e, Nat.le_of_eq (hidT_size _ _), trivial, fun b hb => absurd hb (by simp [frs]), hok, .of_eq noG⟩
    obtain ⟨s', hs⟩ := hT ns h63
    have sp : spD K 1 fM [.ref a] H (fun v _ => v = .bl true) fun _ _ _ => False := by
      refine ⟨rfl, [.fz (ns.map .int)], [], [], .cons (.fz fz (Dts.of_ints ns)) .nil, So.none, ?_⟩
      rw [hs]
      intro φ v H' _ _ rv
      cases rv
      rfl
    refine codeAny_mono ((F _ inB (dicts nsM)).run callerA [] t H ⟨[.ref a], []⟩ [.ref a] [.ref a] (fun v _ => v = .bl true) (fun _ _ _ => False) hr env0 (bind t (.ref a)) (.cons rfl .nil) sp) fun r t2 h => ?_
    cases r with
    | error e => exact (no_exc h).elim
    | ok fl => cases fl with
      | next => exact h.elim
      | brk => exact h.elim
      | cont => exact h.elim
      | ret u =>
        obtain ⟨v, H', os, bare, un, hok', rv, ev⟩ := h
        have ev' : v = .bl true := ev
        subst ev'
        obtain rfl : u = Value.bool true := rv
        refine ⟨rfl, OldK.of_keep fun b o e => ?_, os, bare⟩
        rcases only b with z | ⟨ob, xs, z⟩
        · exact un.keep b o e z (fun y => absurd y (by simp [frs])) (by simp)
        · obtain ⟨e1, _⟩ := hok b _ z
          obtain ⟨e2, _⟩ := hok' b _ (un.frzs b ob _ z)
          rw [e] at e1
          cases e1
          exact e2
  cases lk : K.lookup a with
  | some o =>
    have e := inK a o lk
    rw [script] at e
    cases e
    exact run (fun _ => none) (fun _ => .inl rfl) (.inr (.inr ⟨_, vs.toArray, _, lk, rfl, rfl, rfl, by rw [List.size_toArray, hints.length]; exact small, by simpa using vals⟩)) (fun b u z => by cases (show (none : Option HO) = some u from z)) (fun b z => absurd rfl z) fun z => absurd rfl z
  | none =>
    refine run (fun b => if b = a then some (.frz { cls := .type "list", data := .seq vs.toArray } (.lst (ns.map V.int))) else none) (fun b => ?_) (.inl ⟨_, if_pos rfl⟩) (fun b u z => ?_) (fun b z => ?_) fun _ => lk
    · by_cases hb : b = a
      · exact .inr ⟨_, _, if_pos hb⟩
      · exact .inl (if_neg hb)
    · by_cases hb : b = a
      · subst hb
        cases (if_pos rfl).symm.trans z
        exact ⟨script, by rw [List.length_map]; exact small, vs, _, vals, script⟩
      · cases (if_neg hb).symm.trans z
    · by_cases hb : b = a
      · exact hb
      · exact absurd (if_neg hb) z
/-- the goal at the law's head, from its run over the data -/
theorem walk_top {l : PySem.W.OpenLaw} {k : Nat} {q : Program} {loose : List Str} {XP : (Str → Option Value) → Heap → Prop} {YP : World → Heap → Prop} {d : DefRec} {K : Params → PySem.W.Frag} {x : Str} (hn : l.most = some 63) (hdf : d.params.defaults = []) (hr : RoomG k callerA)
    (hY : ∀ (w : World) (h : Heap), YP w h → (K w.params).In h)
    (F : ∀ (w : World) (mg : Str → Option Value) (fa : Addr) (h : Heap), (K w.params).In h → h.Ns mainGlobals mg → mg d.name = some (.ref fa) →
      ∃ (fd : FuncData) (fM : FnD), AllTrue fM ∧ (∀ (s : Shared) (u : Value), BindsTo s fd ⟨[u], []⟩ [(x, u)]) ∧ ∀ base : Heap, (K w.params).In base → base.Ns mainGlobals mg → FnG l.prog w (K w.params) mg base k fa fd [x] fM) :
    PySem.W.WalkO q loose XP YP l.row.toRowW d [] (fun f vs => PySem.call f vs) := by
  refine Att.attach_call hn hdf fun w s₀ t mg mb fa o pm cd doc a vs ns G Y _ _ _ hmg hobj hints hlen noG => ?_
  have inK := hY w _ Y
  obtain ⟨fd, fM, hT, hbd, hF⟩ := F w mg fa _ inK G.T.g hmg
  exact law_top inK G.T.g G.T.b G.T.builtins G.T.nolimit noG hobj hints hlen hr hF hbd hT
end DV

namespace DV
open PySem L2 PyProof.Rows
/-! ### keywords: which of the given values stands at which parameter -/
def pickL {α : Type} (ix : List Nat) (l : List α) : List α := ix.filterMap fun i => l[i]?
theorem pick_len {α : Type} {l : List α} : ∀ {ix : List Nat}, (∀ i ∈ ix, i < l.length) → (pickL ix l).length = ix.length
  | [], _ => rfl
  | i :: r, h => by
    have hi := h i (by simp)
    have ih := pick_len (ix := r) fun j hj => h j (by simp [hj])
    unfold pickL at ih ⊢
    rw [List.filterMap_cons, List.getElem?_eq_getElem hi]
    simp [ih]
theorem pick_vals {vs : List V} {us : List Value} (r : Vals vs us) : ∀ ix : List Nat, (∀ i ∈ ix, i < vs.length) → Vals (pickL ix vs) (pickL ix us)
  | [], _ => .nil
  | i :: q, h => by
    have hi := h i (by simp)
    obtain ⟨u, hu, rv⟩ := r.get (List.getElem?_eq_getElem hi)
    have ih := pick_vals r q fun j hj => h j (by simp [hj])
    unfold pickL at ih ⊢
    rw [List.filterMap_cons, List.filterMap_cons, List.getElem?_eq_getElem hi, hu]
    exact .cons rv ih
theorem pick_dts {K : PySem.W.Frag} {φ : List Addr} {H : Hp} {vs : List V} {ds : List D} (r : Dts K φ H vs ds) : ∀ ix : List Nat, (∀ i ∈ ix, i < vs.length) → Dts K φ H (pickL ix vs) (pickL ix ds)
  | [], _ => .nil
  | i :: q, h => by
    have hi := h i (by simp)
    obtain ⟨d, hd, rd⟩ := r.get' (List.getElem?_eq_getElem hi)
    have ih := pick_dts r q fun j hj => h j (by simp [hj])
    unfold pickL at ih ⊢
    rw [List.filterMap_cons, List.filterMap_cons, List.getElem?_eq_getElem hi, hd]
    exact .cons rd ih
/-- the def takes n values and then the keywords ks: ix tells the place of each parameter's value among them -/
structure KB (K : PySem.W.Frag) (fd : FuncData) (ps : List Str) (n : Nat) (ks : List Str) (ix : List Nat) : Prop where
  to : ∀ (s : Shared) (us ws : List Value), K.In s.heap → us.length = n → ws.length = ks.length → BindsTo s fd ⟨us, ks.zip ws⟩ (ps.zip (pickL ix (us ++ ws)))
  lt : ∀ i ∈ ix, i < n + ks.length
  ln : ix.length = ps.length
section
variable {X : Cx} {W : WX} {k n m : Nat} {f C : Addr} {fd : FuncData} {ps ks : List Str} {ix : List Nat} {fM : FnD} {x : Str} {p pos apos : Pos} {e o : Expr} {es : List Expr} {kws : List Keyword} {da dk : DA}
def DKs (X : Cx) (W : WX) (kws : List Keyword) (da : DA) : Prop := PK X kws (upA X.K W da)
theorem pk_imp {t t' : TA} (h : PK X kws t) (f : ∀ σ H Q, t' σ H Q → t σ H Q) : PK X kws t' := ⟨fun pos pins s σ H Q I q => h.run pos pins s σ H Q I (f _ _ _ q)⟩
theorem dk_nil : DKs X W [] dNil := pk_imp pk_nil fun σ H Q ⟨Δ, φ, s, hσ, hs, h⟩ => h.ok hs .nil
theorem dk_cons {nm : Option Str} {kpos : Pos} {de : DX} {dr : DA} (ha : DE X W e de) (hr : DKs X W kws dr) : DKs X W (⟨nm, e, kpos⟩ :: kws) (dCons de dr) :=
  pk_imp (pk_cons ha hr) fun σ H Q ⟨Δ, φ, s, hσ, hs, h⟩ => upE_bind hσ hs h fun φ1 v H1 x s1 f1 hσ1 hs1 rx h1 => upA_bind hσ1 hs1 h1 fun φ2 vs H2 xs s2 f2 hσ2 hs2 rs h2 => h2.ok hs2 (.cons (rx.fu f2) rs)
/-- the callee's run behind the choice -/
def kwN (n m : Nat) (ix : List Nat) (fM : FnD) (xs zs : List D) : M D := fun s => if xs.length = n ∧ zs.length = m then fM (pickL ix (xs ++ zs)) s else none
theorem kwN_len {K : PySem.W.Frag} {E : WK} {φ : List Addr} {H : Hp} {s : Sto} {xs zs : List D} {Cc : List Addr → V → Hp → D → Sto → Prop} (h : Ps K E (Dt K) φ H Cc (kwN n m ix fM xs zs s)) : xs.length = n ∧ zs.length = m ∧ Ps K E (Dt K) φ H Cc (fM (pickL ix (xs ++ zs)) s) := by
  unfold kwN at h
  split at h
  · rename_i z; exact ⟨z.1, z.2, h⟩
  · exact h.elim
theorem run_fnKw {pins : List (Addr × Obj)} {σ : L2.St} {H : Hp} {s : Shared} {Q : VK} {us ws : List Value} {vs zs : List V} {φ : List Addr} {st : Sto} {xs ys : List D} (F : FnX X k f fd ps fM) (hr : RoomG k X.A) (hb : KB X.K fd ps n ks ix) (tk : Takes X W)
    (I : Inv X pins σ H s) (r : Vals vs us) (rz : Vals zs ws) (so : So X.K φ H st) (rx : Dts X.K φ H vs xs) (ry : Dts X.K φ H zs ys) (l1 : xs.length = n) (l2 : ys.length = ks.length) (h : Ps X.K (wAt W σ) (Dt X.K) φ H (fun _ v H' _ _ => Q v H') (fM (pickL ix (xs ++ ys)) st)) :
    wpAny (model X.prog X.w) X.A (call (.ref f) us (ks.zip ws)) (EP X pins σ Q) X.xe s := by
  have hlt : ∀ i ∈ ix, i < (vs ++ zs).length := fun i hi => by
    have := hb.lt i hi
    rw [List.length_append, rx.length, ry.length, l1, l2]
    exact this
  have r2 := pick_vals (r.append rz) ix hlt
  have rd := pick_dts (rx.append ry) ix hlt
  have hl : (pickL ix (vs ++ zs)).length = ps.length := (pick_len hlt).trans hb.ln
  refine wpAny_call (codeAny_mono (F.run X.A X.stack s H ⟨us, ks.zip ws⟩ (pickL ix (us ++ ws)) (pickL ix (vs ++ zs)) Q (WE W σ) hr I.env0 (hb.to s us ws I.kIn (by rw [← r.length, rx.length, l1]) (by rw [← rz.length, ry.length, l2])) r2 ⟨hl, _, φ, st, rd, so, h⟩) fun r s' hq => ?_)
  cases r with
  | error e => exact passAt tk σ pins H s e s' I hq
  | ok fl =>
    cases fl with
    | ret u => exact I.after hq
    | next => exact False.elim hq
    | brk => exact False.elim hq
    | cont => exact False.elim hq
def dClK (n m : Nat) (ix : List Nat) (fM : FnD) (da dk : DA) : DX := fun Δ => mbind (da Δ) fun xs => mbind (dk Δ) fun zs => kwN n m ix fM xs zs
/-- f(k = v, ..) -/
theorem de_callK0 (F : FnX X k f fd ps fM) (hr : RoomG k X.A) (hm : X.mg x = some (.ref f)) (hk : PySem.W.keepIn X.K (.ref f) = true) (hb : KB X.K fd ps 0 ks ix) (tk : Takes X W) (hkw : DKs X W kws dk) (hg : Gl X x := by rfl) (hl : ks.length = m := by rfl)
    (hall : (backToKw pos (keywordEach kws X.env)).all (·.1.isSome) = true := by rfl) (hks : (backToKw pos (keywordEach kws X.env)).filterMap (·.1) = ks := by rfl) (hdb : (x == ("__debug__" : Str)) = false := by decide)
    (hpl : ((backTo pos (starEach [] X.env)).any (·.1) || (backToKw pos (keywordEach kws X.env)).any (·.1.isNone)) = false := by rfl) :
    DE X W (.Call (.Name x p) [] kws pos) (dClK 0 m ix fM dNil dk) := by
  subst hl
  refine ⟨fun pins s σ H Q I ⟨Δ, φ, st, hσ, hs, h⟩ => wpAny_Call_Name_kw (ld_glob I hg hm ?_ hdb)⟩
  have hA : upA X.K W dk σ H fun zs H2 => ∃ φ2 ys s2, So X.K φ2 H2 s2 ∧ Dts X.K φ2 H2 zs ys ∧ Ps X.K (wAt W σ) (Dt X.K) φ2 H2 (fun _ v H' _ _ => Q v H') (kwN 0 ks.length ix fM [] ys s2) :=
    upA_bind hσ hs h fun φ1 zs H1 ys s1 f1 hσ1 hs1 rs h1 => ⟨φ1, ys, s1, hs1, rs, h1⟩
  refine PySem.W.callWith_KW0 (h₀ := X.base) I.ok.mod.kin hk hall ?_ hpl
  refine thn (hkw.run pos pins s σ H _ I hA) fun ws t2 ⟨zs, H2, I2, rz, φ2, ys, s2, so2, ry, h2⟩ => ⟨I2.kIn, ?_⟩
  rw [hks]
  obtain ⟨l1, l2, h3⟩ := kwN_len h2
  exact run_fnKw (us := []) (vs := []) F hr hb tk I2 .nil rz so2 .nil ry l1 l2 h3
/-- f(e, .., k = v, ..) -/
theorem de_callK (F : FnX X k f fd ps fM) (hr : RoomG k X.A) (hm : X.mg x = some (.ref f)) (hk : PySem.W.keepIn X.K (.ref f) = true) (hb : KB X.K fd ps n ks ix) (tk : Takes X W) (ha : DAs X W (e :: es) da) (hkw : DKs X W kws dk) (hg : Gl X x := by rfl) (hl : ks.length = m := by rfl)
    (hall : (backToKw pos (keywordEach kws X.env)).all (·.1.isSome) = true := by rfl) (hks : (backToKw pos (keywordEach kws X.env)).filterMap (·.1) = ks := by rfl) (hdb : (x == ("__debug__" : Str)) = false := by decide)
    (he : starEach (e :: es) X.env = (false, eval e X.env) :: starEach es X.env := by rfl) (hpl : ((backTo pos (starEach (e :: es) X.env)).any (·.1) || (backToKw pos (keywordEach kws X.env)).any (·.1.isNone)) = false := by rfl) :
    DE X W (.Call (.Name x p) (e :: es) kws pos) (dClK n m ix fM da dk) := by
  subst hl
  refine ⟨fun pins s σ H Q I ⟨Δ, φ, st, hσ, hs, h⟩ => wpAny_Call_Name_kw (ld_glob I hg hm ?_ hdb)⟩
  have hA : upA X.K W da σ H fun vs H1 => ∃ φ1 xs s1, Sg X.K φ1 H1 σ Δ ∧ So X.K φ1 H1 s1 ∧ Dts X.K φ1 H1 vs xs ∧ Ps X.K (wAt W σ) (Dt X.K) φ1 H1 (fun _ v H' _ _ => Q v H') (mbind (dk Δ) (fun zs => kwN n ks.length ix fM xs zs) s1) :=
    upA_bind hσ hs h fun φ1 vs H1 xs s1 f1 hσ1 hs1 rs h1 => ⟨φ1, xs, s1, hσ1, hs1, rs, h1⟩
  refine PySem.W.callWith_KW (h₀ := X.base) I.ok.mod.kin hk hall (thn (ha.run pos pins s σ H _ I hA) fun us t1 ⟨vs, H1, I1, r, φ1, xs, s1, hσ1, hs1, rs, h1⟩ => ?_) hpl he
  have hB : upA X.K W dk σ H1 fun zs H2 => ∃ φ2 ys s2, So X.K φ2 H2 s2 ∧ Dts X.K φ2 H2 vs xs ∧ Dts X.K φ2 H2 zs ys ∧ Ps X.K (wAt W σ) (Dt X.K) φ2 H2 (fun _ v H' _ _ => Q v H') (kwN n ks.length ix fM xs ys s2) :=
    upA_bind hσ1 hs1 h1 fun φ2 zs H2 ys s2 f2 hσ2 hs2 rz h2 => ⟨φ2, ys, s2, hs2, rs.fu f2, rz, h2⟩
  refine thn (hkw.run pos pins t1 σ H1 _ I1 hB) fun ws t2 ⟨zs, H2, I2, rz, φ2, ys, s2, so2, rx, ry, h2⟩ => ⟨I2.kIn, ?_⟩
  rw [hks]
  obtain ⟨l1, l2, h3⟩ := kwN_len h2
  exact run_fnKw F hr hb tk I2 r rz so2 rx ry l1 l2 h3
/-- o.m(k = v, ..) -/
def dMeK (C : Addr) (mn : Str) (m : Nat) (ix : List Nat) (fM : FnD) (dx : DX) (dk : DA) : DX := fun Δ => mbind (dx Δ) fun x => mbind (mIns C mn x) fun _ => mbind (dk Δ) fun zs => kwN 1 m ix fM [x] zs
theorem de_methK0 {mn : Str} {dx : DX} {pl : Sem Bool} (he : DE X W o dx) (c : Cls X.K C) (hm : Meth X.K C mn f) (F : FnX X k f fd ps fM) (hr : RoomG k X.A) (hb : KB X.K fd ps 1 ks ix) (tk : Takes X W) (hkw : DKs X W kws dk) (hl : ks.length = m := by rfl)
    (hall : (backToKw pos (keywordEach kws X.env)).all (·.1.isSome) = true := by rfl) (hks : (backToKw pos (keywordEach kws X.env)).filterMap (·.1) = ks := by rfl)
    (hpl : ((backTo pos (starEach [] X.env)).any (·.1) || (backToKw pos (keywordEach kws X.env)).any (·.1.isNone)) = false := by rfl)
    (ht : eval (.Call (.Attribute o mn apos) [] kws pos) X.env = (do let ov ← eval o X.env; standAt apos.atName; let (f, first) ← holding [ov] (getMethod ov mn pl); callWith pos f first (backTo pos (starEach [] X.env)) (backToKw pos (keywordEach kws X.env))) := by rfl) :
    DE X W (.Call (.Attribute o mn apos) [] kws pos) (dMeK C mn m ix fM dx dk) := by
  subst hl
  refine ⟨fun pins s σ H Q I ⟨Δ, φ, st, hσ, hs, h⟩ => ?_⟩
  have hE : upE X.K W dx σ H fun v H1 => ∃ φ1 x s1, Sg X.K φ1 H1 σ Δ ∧ So X.K φ1 H1 s1 ∧ Dt X.K φ1 H1 v x ∧ Ps X.K (wAt W σ) (Dt X.K) φ1 H1 (fun _ v H' _ _ => Q v H') (mbind (mIns C mn x) (fun _ => mbind (dk Δ) fun zs => kwN 1 ks.length ix fM [x] zs) s1) :=
    upE_bind hσ hs h fun φ1 v H1 x s1 f1 hσ1 hs1 rx h1 => ⟨φ1, x, s1, hσ1, hs1, rx, h1⟩
  refine PySem.W.methodCall_KW (pl := pl) (thn (he.run pins s σ H _ I hE) fun u t1 ⟨v, H1, I1, rv, φ1, x, s1, hσ1, hs1, rx, h1⟩ => ?_) ht
  obtain ⟨⟨a, dxx, fs, rfl, ea, lk⟩, h2⟩ := mIns_bind hs1 rx h1
  obtain rfl : u = Value.ref a := rv
  refine getmeth_ok I1 ea c hm lk ?_
  have hA : upA X.K W dk σ H1 fun zs H2 => ∃ φ2 ys s2, So X.K φ2 H2 s2 ∧ Dt X.K φ2 H2 (.ref a) x ∧ Dts X.K φ2 H2 zs ys ∧ Ps X.K (wAt W σ) (Dt X.K) φ2 H2 (fun _ v H' _ _ => Q v H') (kwN 1 ks.length ix fM [x] ys s2) :=
    upA_bind hσ1 hs1 h2 fun φ2 zs H2 ys s2 f2 hσ2 hs2 rs h3 => ⟨φ2, ys, s2, hs2, rx.fu f2, rs, h3⟩
  refine PySem.W.callWith_KW0 (first := [Value.ref a]) (h₀ := X.base) I1.ok.mod.kin hm.kp hall ?_ hpl
  refine thn (hkw.run pos pins t1 σ H1 _ I1 hA) fun ws t2 ⟨zs, H2, I2, rz, φ2, ys, s2, so2, rx2, ry, h3⟩ => ⟨I2.kIn, ?_⟩
  rw [hks]
  obtain ⟨l1, l2, h4⟩ := kwN_len h3
  exact run_fnKw (us := [Value.ref a]) (vs := [V.ref a]) F hr hb tk I2 (.cons rfl .nil) rz so2 (.cons rx2 .nil) ry l1 l2 h4
/-- the keywords' places, shown by the def's own binding -/
theorem kb_of {K : PySem.W.Frag} {fd : FuncData} {ps : List Str} {n : Nat} {ks : List Str} {ix : List Nat} (h : ∀ (s : Shared) (us ws : List Value), us.length = n → ws.length = ks.length → BindsTo s fd ⟨us, ks.zip ws⟩ (ps.zip (pickL ix (us ++ ws)))) (lt : ∀ i ∈ ix, i < n + ks.length) (ln : ix.length = ps.length) : KB K fd ps n ks ix :=
  ⟨fun s us ws _ l1 l2 => h s us ws l1 l2, lt, ln⟩
end
end DV

namespace DV
open PySem L2 PyProof.Rows
section
variable {X : Cx} {W : WX} {k m : Nat} {f C : Addr} {fd : FuncData} {ps ks : List Str} {ix : List Nat} {fM : FnD} {x : Str} {p pos : Pos} {kws : List Keyword} {dk : DA}
/-- __init__'s run behind the choice of the keywords -/
def ixN1 (n m : Nat) (ix : List Nat) (fM : FnD) : FnD := fun xs s => if xs.length = n + m then fM (pickL ix xs) s else none
theorem run_mkK {pins : List (Addr × Obj)} {σ : L2.St} {H : Hp} {t : Shared} {Q : VK} {ws : List Value} {zs : List V} {ys : List D} {φ : List Addr} {s : Sto} (Mc : Mk X.K C f) (F : FnX X k f fd ps fM) (hr : RoomG (k + 1) X.A) (hb : KB X.K fd ps 1 ks ix) (tk : Takes X W)
    (I : Inv X pins σ H t) (rz : Vals zs ws) (so : So X.K φ H s) (ry : Dts X.K φ H zs ys) (h : Ps X.K (wAt W σ) (Dt X.K) φ H (fun _ v H' _ _ => Q v H') (mMk C (ixN1 1 ks.length ix fM) ys s)) : wpAny (model X.prog X.w) X.A (call (.ref C) [] (ks.zip ws)) (EP X pins σ Q) X.xe t := by
  have I2 := Inv.made (C := C) I
  generalize ex : t.heap.objs.size + 1 = a at I2
  generalize ed : t.heap.objs.size = dx at I2 ex
  have hdx : H dx = none := I.hok.fresh (Nat.le_of_eq ed)
  have ha : H a = none := I.hok.fresh (by omega)
  have hne : a ≠ dx := by omega
  have so1 : So X.K φ (upd H dx (.own a)) s := so.new hdx
  have ha1 : upd H dx (.own a) a = none := by rw [upd_ne hne]; exact ha
  have f1 : Fu X.K φ φ H (upd H dx (.own a)) := fu_new hdx
  have f2 : Fu X.K φ (φ ++ [a]) (upd H dx (.own a)) (upd (upd H dx (.own a)) a (.ins C dx [])) := fu_newO ha1
  have so2 : So X.K (φ ++ [a]) (upd (upd H dx (.own a)) a (.ins C dx [])) (s ++ [.ins C []]) := so1.newO ha1 ⟨dx, [], upd_same, .nil⟩
  have ra : Dt X.K (φ ++ [a]) (upd (upd H dx (.own a)) a (.ins C dx [])) (.ref a) (.obj s.length) := obj_new so1
  have rs : Dts X.K (φ ++ [a]) (upd (upd H dx (.own a)) a (.ins C dx [])) (.ref a :: zs) (.obj s.length :: ys) := .cons ra ((ry.fu f1).fu f2)
  have hq : ys.length + 1 = 1 + ks.length ∧ Ps X.K (wAt W σ) (Dt X.K) (φ ++ [a]) (upd (upd H dx (.own a)) a (.ins C dx [])) (fun ψ v H' d s' => v = .non ∧ Q (.ref a) H') (fM (pickL ix (.obj s.length :: ys)) (s ++ [.ins C []])) := by
    unfold mMk ixN1 at h
    by_cases z : (D.obj s.length :: ys).length = 1 + ks.length
    · rw [if_pos z] at h
      refine ⟨by simpa using z, ?_⟩
      cases e : fM (pickL ix (.obj s.length :: ys)) (s ++ [.ins C []]) with
      | none => rw [e] at h; exact h.elim
      | some p =>
        obtain ⟨q, s'⟩ := p
        rw [e] at h
        cases q with
        | error x => exact h.shift (f1.trans f2)
        | ok d =>
          cases d <;> first | exact h.elim | skip
          intro ψ v H' f3 so3 rv
          cases rv
          exact ⟨rfl, h ψ (.ref a) H' ((f1.trans f2).trans f3) so3 (ra.fu f3)⟩
    · rw [if_neg z] at h
      exact h.elim
  obtain ⟨hl, hq⟩ := hq
  have l2 : ys.length = ks.length := by omega
  have hlt : ∀ i ∈ ix, i < (V.ref a :: zs).length := fun i hi => by
    have := hb.lt i hi
    rw [List.length_cons, ry.length]
    omega
  have r2 := pick_vals (vs := V.ref a :: zs) (us := Value.ref a :: ws) (.cons rfl rz) ix hlt
  have rd := pick_dts rs ix hlt
  have hv : (pickL ix (V.ref a :: zs)).length = ps.length := (pick_len hlt).trans hb.ln
  have bb := hb.to _ [Value.ref a] ws I2.kIn rfl (by rw [← rz.length, ry.length, l2])
  refine wpAny_call (make_map (f := f) I.kIn Mc.makes Mc.init (beq_iff_eq.mp Mc.fn) ?_)
  rw [ed, ex]
  refine codeAny_mono (F.run _ X.stack _ _ ⟨[Value.ref a], ks.zip ws⟩ (pickL ix (Value.ref a :: ws)) (pickL ix (V.ref a :: zs)) (fun v H2 => v = .non ∧ Q (.ref a) H2) (WE W σ) (hr.make C [] (ks.zip ws)) (I2.env0.make C [] (ks.zip ws)) bb r2 ⟨hv, _, _, _, rd, so2, hq⟩) fun q s' hq' => ?_
  cases q with
  | error e => exact passAt tk σ pins _ _ e s' I2 hq'
  | ok fl =>
    cases fl with
    | ret u =>
      obtain ⟨v, H', I3, rv, ev, q3⟩ := I2.after hq'
      cases ev
      exact ⟨rv, V.ref a, H', I3, rfl, q3⟩
    | next => exact hq'.elim
    | brk => exact hq'.elim
    | cont => exact hq'.elim
/-- C(k = v, ..) -/
theorem de_makeK0 (Mc : Mk X.K C f) (F : FnX X k f fd ps fM) (hr : RoomG (k + 1) X.A) (hm : X.mg x = some (.ref C)) (hb : KB X.K fd ps 1 ks ix) (tk : Takes X W) (hkw : DKs X W kws dk) (hg : Gl X x := by rfl) (hl : ks.length = m := by rfl)
    (hall : (backToKw pos (keywordEach kws X.env)).all (·.1.isSome) = true := by rfl) (hks : (backToKw pos (keywordEach kws X.env)).filterMap (·.1) = ks := by rfl) (hdb : (x == ("__debug__" : Str)) = false := by decide)
    (hpl : ((backTo pos (starEach [] X.env)).any (·.1) || (backToKw pos (keywordEach kws X.env)).any (·.1.isNone)) = false := by rfl) :
    DE X W (.Call (.Name x p) [] kws pos) (dMk C (ixN1 1 m ix fM) dk) := by
  subst hl
  refine ⟨fun pins s σ H Q I ⟨Δ, φ, st, hσ, hs, h⟩ => wpAny_Call_Name_kw (ld_glob I hg hm ?_ hdb)⟩
  have hA : upA X.K W dk σ H fun zs H2 => ∃ φ2 ys s2, So X.K φ2 H2 s2 ∧ Dts X.K φ2 H2 zs ys ∧ Ps X.K (wAt W σ) (Dt X.K) φ2 H2 (fun _ v H' _ _ => Q v H') (mMk C (ixN1 1 ks.length ix fM) ys s2) :=
    upA_bind hσ hs h fun φ1 zs H1 ys s1 f1 hσ1 hs1 rs h1 => ⟨φ1, ys, s1, hs1, rs, h1⟩
  refine PySem.W.callWith_KW0 (h₀ := X.base) I.ok.mod.kin Mc.kp hall ?_ hpl
  refine thn (hkw.run pos pins s σ H _ I hA) fun ws t2 ⟨zs, H2, I2, rz, φ2, ys, s2, so2, ry, h2⟩ => ⟨I2.kIn, ?_⟩
  rw [hks]
  exact run_mkK Mc F hr hb tk I2 rz so2 ry h2
end
end DV

namespace DV
open PySem L2 PyProof.Rows
theorem hgd {k : Nat} {A : Around} (hr : RoomG k A) : A.guards = some [] := hr.gd
section
variable {X : Cx} {W : WX}
/-- may be shown: ints of some size, no dict, not too deep, not too long -/
def shOk (p : PyData) : Bool := p.showable && !p.hasDict && decide (p.depth ≤ 64) && decide (p.shown.length ≤ sizeLine)
/-- repr(x) of plain data -/
def fRepr : OpN := fun xs s => match xs with
  | [x] => match toPy s 64 x with
    | some p => if shOk p = true then some (.str p.shown, s) else none
    | none => none
  | _ => none
def rRepr (K : PySem.W.Frag) : List V → Hp → VK → Prop := fun vs H Q => ∃ v p, vs = [v] ∧ Dp K H v p ∧ shOk p = true ∧ Q (.str p.shown) H
theorem cr_repr (hg : X.A.guards = some []) (hu : X.A.units + 66 < cLine) : CallR X (.builtin "repr") (rRepr X.K) := by
  intro pins s σ H vs us Q I r h
  obtain ⟨v, p, rfl, hd, ok, q⟩ := h
  obtain ⟨u, rfl, rv⟩ := vals1 r
  unfold shOk at ok
  simp only [Bool.and_eq_true, Bool.not_eq_true', decide_eq_true_eq] at ok
  obtain ⟨⟨⟨o1, o2⟩, o3⟩, o4⟩ := ok
  cases hd with
  | non =>
    cases rv
    exact PySem.P.repr_of_none ⟨.str _, H, I.tok _, ⟨_, rfl⟩, q⟩
  | bl b =>
    cases rv
    exact PySem.P.repr_of_bool ⟨.str _, H, I.tok _, ⟨_, rfl⟩, q⟩
  | int i =>
    obtain ⟨t, rfl⟩ := rv
    exact PySem.P.repr_of_int (by simpa [PyData.showable] using o1) ⟨.str _, H, I.tok _, ⟨_, rfl⟩, q⟩
  | str x =>
    obtain ⟨t, rfl⟩ := rv
    exact PySem.P.repr_of_str ⟨.str _, H, I.tok _, ⟨_, rfl⟩, q⟩ o4
  | lst hs ha =>
    rename_i a xs ds
    obtain ⟨as, rd⟩ := Dp.reads I (.list ds) (.ref a) u (.lst hs ha) rv
    obtain rfl : u = Value.ref a := rv
    exact repr_of_reads' rd o1 (PyData.noDict_hsm o2) hg (by omega) (fun _ _ e => e) (fun h' t tk hk => ⟨.str _, H, I.kept hk, ⟨_, rfl⟩, q⟩) o4
  | tup hs ha =>
    rename_i a xs ds
    obtain ⟨as, rd⟩ := Dp.reads I (.tuple ds) (.ref a) u (.tup hs ha) rv
    obtain rfl : u = Value.ref a := rv
    exact repr_of_reads' rd o1 (PyData.noDict_hsm o2) hg (by omega) (fun _ _ e => e) (fun h' t tk hk => ⟨.str _, H, I.kept hk, ⟨_, rfl⟩, q⟩) o4
theorem dc_repr (hg : X.A.guards = some []) (hu : X.A.units + 66 < cLine) : DCall X (.builtin "repr") fRepr := ⟨_, cr_repr hg hu, fun φ H s vs ds Q so rx p => by
  unfold fRepr at p
  split at p
  · obtain ⟨v, rfl, r⟩ := dts1 rx
    split at p
    · rename_i d e
      split at p
      · rename_i z
        exact ⟨v, d, rfl, toPy_dp so _ _ _ _ r e, z, p.ok so (.str _)⟩
      · exact p.elim
    · exact p.elim
  · exact p.elim⟩
end
end DV

namespace DV
open PySem L2 PyProof.Rows
/-! ### the runs, as equations -/
@[simp] theorem mret_eq {α : Type} (a : α) (s : Sto) : mret a s = some (.ok a, s) := rfl
@[simp] theorem mbind_ok {α β : Type} (m : M α) (k : α → M β) (s : Sto) : mbind m k s = match m s with | some (.ok a, s1) => k a s1 | some (.error x, s1) => some (.error x, s1) | none => none := rfl
@[simp] theorem dVar_eq (i : Nat) (Δ : Dn) (s : Sto) : dVar i Δ s = match Δ[i]? with | some (some d) => some (.ok d, s) | _ => none := rfl
@[simp] theorem dC_eq (d : D) (Δ : Dn) (s : Sto) : dC d Δ s = some (.ok d, s) := rfl
@[simp] theorem lift2_eq (f : Op2) (x y : D) (s : Sto) : lift2 f x y s = match f x y s with | some (d, s1) => some (.ok d, s1) | none => none := rfl
@[simp] theorem dOp_eq (f : Op2) (a b : DX) (Δ : Dn) : dOp f a b Δ = mbind (a Δ) fun x => mbind (b Δ) fun y => lift2 f x y := rfl
@[simp] theorem dBl_bl (b : Bool) : dBl (.bl b) = mret b := rfl
@[simp] theorem dTest_eq (a : DX) (Δ : Dn) : dTest a Δ = mbind (a Δ) dBl := rfl
@[simp] theorem dTru_eq (d : D) (s : Sto) : dTru d s = match truD d s with | some b => some (.ok b, s) | none => none := rfl
@[simp] theorem dAnd_eq (t u : DT) (Δ : Dn) : dAnd t u Δ = mbind (t Δ) fun c => if c = true then u Δ else mret false := rfl
@[simp] theorem dOr_eq (t u : DT) (Δ : Dn) : dOr t u Δ = mbind (t Δ) fun c => if c = true then mret true else u Δ := rfl
@[simp] theorem dNot_eq (t : DT) (Δ : Dn) : dNot t Δ = mbind (t Δ) fun c => mret !c := rfl
@[simp] theorem dTruth_eq (a : DX) (Δ : Dn) : dTruth a Δ = mbind (a Δ) dTru := rfl
@[simp] theorem dOrT_eq (a b : DX) (Δ : Dn) : dOrT a b Δ = mbind (a Δ) fun x => mbind (dTru x) fun c => if c = true then mret x else b Δ := rfl
@[simp] theorem dAndT_eq (a b : DX) (Δ : Dn) : dAndT a b Δ = mbind (a Δ) fun x => mbind (dTru x) fun c => if c = true then b Δ else mret x := rfl
@[simp] theorem dNotT_eq (a : DX) (Δ : Dn) : dNotT a Δ = mbind (a Δ) fun x => mbind (dTru x) fun b => mret (.bl !b) := rfl
@[simp] theorem dIf_eq (t : DT) (a b : DX) (Δ : Dn) : dIf t a b Δ = mbind (t Δ) fun c => if c = true then a Δ else b Δ := rfl
@[simp] theorem dNil_eq (Δ : Dn) (s : Sto) : dNil Δ s = some (.ok [], s) := rfl
@[simp] theorem dCons_eq (a : DX) (r : DA) (Δ : Dn) : dCons a r Δ = mbind (a Δ) fun x => mbind (r Δ) fun y => mret (x :: y) := rfl
@[simp] theorem dTup_eq (a : DA) (Δ : Dn) : dTup a Δ = mbind (a Δ) fun xs => if xs.length ≤ sizeLine then mret (.tup xs) else mfail := rfl
@[simp] theorem mnew_eq (o : DO) (s : Sto) : mnew o s = some (.ok (.obj s.length), s ++ [o]) := rfl
@[simp] theorem dLst_eq (a : DA) (Δ : Dn) : dLst a Δ = mbind (a Δ) fun xs => if xs.length ≤ sizeLine then mnew (.lst xs) else mfail := rfl
@[simp] theorem fI_eq (c : Int → Int → Bool) (g : Int → Int → D) (i j : Int) (s : Sto) : fI c g (.int i) (.int j) s = if c i j = true then some (g i j, s) else none := rfl
@[simp] theorem liftN_eq (f : OpN) (x : List D) (s : Sto) : liftN f x s = match f x s with | some (d, s1) => some (.ok d, s1) | none => none := rfl
@[simp] theorem dCB_eq (f : OpN) (a : DA) (Δ : Dn) : dCB f a Δ = mbind (a Δ) (liftN f) := rfl
@[simp] theorem dCl_eq (f : FnD) (a : DA) (Δ : Dn) : dCl f a Δ = mbind (a Δ) f := rfl
@[simp] theorem argN_eq (n : Nat) (f : FnD) (xs : List D) (s : Sto) : argN n f xs s = if xs.length = n then f xs s else none := rfl
@[simp] theorem fInt_int (i : Int) (s : Sto) : fInt [.int i] s = some (.int i, s) := rfl
@[simp] theorem fInt_bl (b : Bool) (s : Sto) : fInt [.bl b] s = some (.int (if b then 1 else 0), s) := rfl
@[simp] theorem gN_eq (i : Nat) (d : D) (Δ : Dn) (s : Sto) : gN i d Δ s = some (Δ.set i (some d), s) := rfl
@[simp] theorem gsNil_eq (Δ : Dn) (s : Sto) : gsNil [] Δ s = some (Δ, s) := rfl
@[simp] theorem gsCons_eq (g : DGf) (r : List D → Dn → Sto → Option (Dn × Sto)) (d : D) (ds : List D) (Δ : Dn) (s : Sto) : gsCons g r (d :: ds) Δ s = match g d Δ s with | some (Δ1, s1) => r ds Δ1 s1 | none => none := rfl
@[simp] theorem gTp_eq (n : Nat) (g : List D → Dn → Sto → Option (Dn × Sto)) (xs : List D) (Δ : Dn) (s : Sto) : gTp n g (.tup xs) Δ s = if xs.length = n then g xs Δ s else none := rfl
@[simp] theorem gSb_eq (f : D → D → D → Sto → Option Sto) (a b : DX) (d : D) (Δ : Dn) (s : Sto) : gSb f a b d Δ s = match a Δ s with | some (.ok o, s1) => (match b Δ s1 with | some (.ok i, s2) => (match f o i d s2 with | some s3 => some (Δ, s3) | none => none) | _ => none) | _ => none := rfl
@[simp] theorem fSet_eq (n : Nat) (k : Int) (d : D) (s : Sto) : fSet (.obj n) (.int k) d s = match lstAt s n with | some xs => (match ixN xs.length k with | some j => some (s.set n (.lst (xs.set j d))) | none => none) | none => none := rfl
@[simp] theorem sbind_eq {α : Type} (m : M α) (Δ : Dn) (k : α → Sto → RS) (s : Sto) : sbind m Δ k s = match m s with | some (.ok a, s1) => k a s1 | some (.error x, s1) => some (.ex x Δ, s1) | none => none := rfl
@[simp] theorem dAsg_eq (a : DX) (g : DGf) (Δ : Dn) : dAsg a g Δ = sbind (a Δ) Δ fun d s => match g d Δ s with | some (Δ1, s1) => some (.nx Δ1, s1) | none => none := rfl
@[simp] theorem dDrop_eq (a : DX) (Δ : Dn) : dDrop a Δ = sbind (a Δ) Δ fun _ s => some (.nx Δ, s) := rfl
@[simp] theorem dRet_eq (a : DX) (Δ : Dn) : dRet a Δ = sbind (a Δ) Δ fun d s => some (.rt d, s) := rfl
@[simp] theorem dNx_eq (Δ : Dn) (s : Sto) : dNx Δ s = some (.nx Δ, s) := rfl
@[simp] theorem dSeq_eq (a b : DS) (Δ : Dn) (s : Sto) : dSeq a b Δ s = match a Δ s with | some (.nx Δ1, s1) => b Δ1 s1 | some (.rt d, s1) => some (.rt d, s1) | some (.bk d, s1) => some (.bk d, s1) | some (.ct d, s1) => some (.ct d, s1) | some (.ex x d, s1) => some (.ex x d, s1) | none => none := by
  unfold dSeq
  rcases a Δ s with _ | ⟨r, s1⟩
  · rfl
  · cases r <;> rfl
@[simp] theorem dIfS_eq (t : DT) (a b : DS) (Δ : Dn) : dIfS t a b Δ = sbind (t Δ) Δ fun c s => if c = true then a Δ s else b Δ s := rfl
@[simp] theorem dPar_eq (i j : Nat) (a : DA) (Δ : Dn) : dPar i j a Δ = sbind (a Δ) Δ fun xs s => match xs with | [x, y] => some (.nx ((Δ.set i (some x)).set j (some y)), s) | _ => none := rfl
@[simp] theorem runFn_eq (n : Nat) (b : DS) (xs : List D) (s : Sto) : runFn n b xs s = match b (startD n xs) s with | some (.rt d, s1) => some (.ok d, s1) | some (.nx _, s1) => some (.ok .non, s1) | some (.ex x _, s1) => some (.error x, s1) | _ => none := rfl
@[simp] theorem fIx_obj (n : Nat) (i : Int) (s : Sto) : fIx (.obj n) (.int i) s = match lstAt s n with | some xs => (match atI xs i with | some d => some (d, s) | none => none) | none => none := rfl
@[simp] theorem fIx_tup (xs : List D) (i : Int) (s : Sto) : fIx (.tup xs) (.int i) s = match atI xs i with | some d => some (d, s) | none => none := rfl
@[simp] theorem fIx_str (z : Str) (i : Int) (s : Sto) : fIx (.str z) (.int i) s = if z.length ≤ sizeLine then (match atI z.cps.toList i with | some c => some (.str ⟨#[c]⟩, s) | none => none) else none := rfl
@[simp] theorem fLen_obj (n : Nat) (s : Sto) : fLen [.obj n] s = match lstAt s n with | some xs => some (.int xs.length, s) | none => none := rfl
@[simp] theorem fLen_tup (xs : List D) (s : Sto) : fLen [.tup xs] s = some (.int xs.length, s) := rfl
@[simp] theorem fLen_str (z : Str) (s : Sto) : fLen [.str z] s = if z.length ≤ sizeLine then some (.int z.length, s) else none := rfl
@[simp] theorem fTuple_obj (n : Nat) (s : Sto) : fTuple [.obj n] s = match lstAt s n with | some ys => some (.tup ys, s) | none => none := rfl
@[simp] theorem fTuple_tup (xs : List D) (s : Sto) : fTuple [.tup xs] s = some (.tup xs, s) := rfl
@[simp] theorem dOp1_eq (f : Op1) (a : DX) (Δ : Dn) : dOp1 f a Δ = mbind (a Δ) fun x => fun s => match f x s with | some (d, s1) => some (.ok d, s1) | none => none := rfl
@[simp] theorem iSeqT_eq (a : DX) (Δ : Dn) : iSeqT a Δ = mbind (a Δ) fun x s => match x with | .tup xs => some (.ok ⟨xs, none⟩, s) | _ => none := rfl
@[simp] theorem iSeqL_eq (a : DX) (Δ : Dn) : iSeqL a Δ = mbind (a Δ) fun x s => match x with | .obj n => (match lstAt s n with | some xs => some (.ok ⟨xs, some (n, xs)⟩, s) | none => none) | _ => none := rfl
@[simp] theorem dFor_eq (di : DI) (g : DGf) (b : DS) (Δ : Dn) : dFor di g b Δ = sbind (di Δ) Δ fun I s => forRun I g b I.its Δ s := rfl
@[simp] theorem dLc_eq (vs : List Nat) (di : DI) (g : DGf) (tt : DT) (de : DX) (Δ : Dn) : dLc vs di g tt de Δ = mbind (di Δ) fun I s => match lcRun I g tt de s.length I.its (wipeD Δ vs) (s ++ [.lst []]) with | some s1 => some (.ok (.obj s.length), s1) | none => none := rfl
@[simp] theorem dYes_eq (Δ : Dn) (s : Sto) : dYes Δ s = some (.ok true, s) := rfl
@[simp] theorem dMe_eq (C : Addr) (m : Str) (f : FnD) (a : DX) (da : DA) (Δ : Dn) : dMe C m f a da Δ = mbind (a Δ) fun x => mbind (mIns C m x) fun _ => mbind (da Δ) fun xs => f (x :: xs) := rfl
@[simp] theorem dMk_eq (C : Addr) (f : FnD) (da : DA) (Δ : Dn) : dMk C f da Δ = mbind (da Δ) (mMk C f) := rfl
@[simp] theorem iRange1_eq (da : DA) (Δ : Dn) : iRange1 da Δ = mbind (da Δ) fun xs s => match xs with | [.int j] => if rngOk j = true then some (.ok (rngI 0 j.toNat), s) else none | _ => none := rfl
@[simp] theorem iRange2_eq (da : DA) (Δ : Dn) : iRange2 da Δ = mbind (da Δ) fun xs s => match xs with | [.int i, .int j] => if (rngOk i && rngOk j) = true then some (.ok (rngI i (j - i).toNat), s) else none | _ => none := rfl
@[simp] theorem iEnum_eq (da : DA) (Δ : Dn) : iEnum da Δ = mbind (da Δ) fun xs s => match xs with | [.obj n] => (match lstAt s n with | some ys => some (.ok ⟨enumD 0 ys, some (n, ys)⟩, s) | none => none) | _ => none := rfl
end DV

namespace DV
open PySem L2 PyProof.Rows
theorem lstAt_set {s : Sto} {n : Nat} {xs ys : List D} (h : lstAt s n = some xs) : lstAt (s.set n (.lst ys)) n = some ys := by
  have := lstAt_eq h
  have hl := (List.getElem?_eq_some_iff.mp this).1
  unfold lstAt
  rw [List.getElem?_set_self hl]
theorem lstAt_lt {s : Sto} {n : Nat} {xs : List D} (h : lstAt s n = some xs) : n < s.length := (List.getElem?_eq_some_iff.mp (lstAt_eq h)).1
theorem lstAt_ne {s : Sto} {m n : Nat} {o : DO} (ne : m ≠ n) : lstAt (s.set n o) m = lstAt s m := by
  unfold lstAt
  rw [List.getElem?_set_ne (fun z => ne z.symm)]
theorem lstAt_app {s l : Sto} {n : Nat} {xs : List D} (h : lstAt s n = some xs) : lstAt (s ++ l) n = some xs := by
  have q := lstAt_eq h
  unfold lstAt
  rw [List.getElem?_append_left (List.getElem?_eq_some_iff.mp q).1, q]
@[simp] theorem lstAt_new {s : Sto} {xs : List D} : lstAt (s ++ [.lst xs]) s.length = some xs := by
  unfold lstAt
  rw [List.getElem?_append_right (Nat.le_refl _)]
  simp
@[simp] theorem lstAt_new2 {s : Sto} {xs ys : List D} : lstAt (s ++ [.lst xs, .lst ys]) s.length = some xs := by
  unfold lstAt
  rw [List.getElem?_append_right (Nat.le_refl _)]
  simp
@[simp] theorem lstAt_new3 {s : Sto} {a : DO} {ys : List D} : lstAt (s ++ [a, .lst ys]) (s.length + 1) = some ys := by
  unfold lstAt
  rw [List.getElem?_append_right (by omega)]
  simp
@[simp] theorem fI_obj {c : Int → Int → Bool} {g : Int → Int → D} {n : Nat} {y : D} {s : Sto} : fI c g (.obj n) y s = none := rfl
@[simp] theorem fI_str {c : Int → Int → Bool} {g : Int → Int → D} {n : Str} {y : D} {s : Sto} : fI c g (.str n) y s = none := rfl
@[simp] theorem fI_tup {c : Int → Int → Bool} {g : Int → Int → D} {n : List D} {y : D} {s : Sto} : fI c g (.tup n) y s = none := rfl
/-- two lists, item by item -/
inductive All2 {α β : Type} (R : α → β → Prop) : List α → List β → Prop
  | nil : All2 R [] []
  | cons {a b r t} : R a b → All2 R r t → All2 R (a :: r) (b :: t)
theorem All2.length {α β : Type} {R : α → β → Prop} : ∀ {r : List α} {t : List β}, All2 R r t → t.length = r.length
  | _, _, .nil => rfl
  | _, _, .cons _ h => congrArg (· + 1) h.length
theorem All2.imp {α β : Type} {R S : α → β → Prop} (f : ∀ a b, R a b → S a b) : ∀ {r : List α} {t : List β}, All2 R r t → All2 S r t
  | _, _, .nil => .nil
  | _, _, .cons h r => .cons (f _ _ h) (r.imp f)
/-- the turns of a comprehension -/
theorem lc_gen {I : Itd} {g : DGf} {tt : DT} {de : DX} {n : Nat} {Δ : Dn} (J : Nat → Sto → Prop) (R : D → List D → Prop) (hst : ∀ k s, J k s → I.still s = true)
    (step : ∀ k d s acc, d ∈ I.its → J (k + 1) s → lstAt s n = some acc → ∃ Δ1, g d Δ s = some (Δ1, s) ∧
      ((∃ s2, tt Δ1 s = some (.ok false, s2) ∧ lstAt s2 n = some acc ∧ R d [] ∧ J k s2) ∨
       (∃ s2 y s3, tt Δ1 s = some (.ok true, s2) ∧ de Δ1 s2 = some (.ok y, s3) ∧ lstAt s3 n = some acc ∧ R d [y] ∧ J k (s3.set n (.lst (acc ++ [y])))))) :
    ∀ (r : List D) (s : Sto) (acc : List D), (∀ d ∈ r, d ∈ I.its) → J r.length s → lstAt s n = some acc → acc.length + r.length ≤ sizeLine → ∃ s' yss, lcRun I g tt de n r Δ s = some s' ∧ lstAt s' n = some (acc ++ yss.flatten) ∧ All2 R r yss ∧ J 0 s'
  | [], s, acc, hm, j, e, hz => ⟨s, [], by simp [lcRun, hst _ _ j], by simpa using e, .nil, j⟩
  | d :: r, s, acc, hm, j, e, hz => by
    have hz' : acc.length < sizeLine := by simp at hz; omega
    obtain ⟨Δ1, hg, h⟩ := step r.length d s acc (hm d (by simp)) j e
    have hm' : ∀ d ∈ r, d ∈ I.its := fun d h => hm d (by simp [h])
    rcases h with ⟨s2, ht, e2, hR, j2⟩ | ⟨s2, y, s3, ht, hd, e3, hR, j3⟩
    · obtain ⟨s', yss, h1, h2, h3, h4⟩ := lc_gen J R hst step r s2 acc hm' j2 e2 (by simp at hz; omega)
      exact ⟨s', [] :: yss, by simp [lcRun, hst _ _ j, hg, ht, h1], by simpa using h2, .cons hR h3, h4⟩
    · obtain ⟨s', yss, h1, h2, h3, h4⟩ := lc_gen J R hst step r (s3.set n (.lst (acc ++ [y]))) (acc ++ [y]) hm' j3 (lstAt_set e3) (by simp at hz ⊢; omega)
      exact ⟨s', [y] :: yss, by simp [lcRun, hst _ _ j, hg, ht, hd, e3, hz', h1], by simpa using h2, .cons hR h3, h4⟩
/-- only what is new -/
def Gr (s s' : Sto) : Prop := ∃ l, s' = s ++ l
theorem Gr.refl (s : Sto) : Gr s s := ⟨[], by simp⟩
theorem Gr.trans {s s' s'' : Sto} (a : Gr s s') (b : Gr s' s'') : Gr s s'' := by
  obtain ⟨l, rfl⟩ := a
  obtain ⟨m, rfl⟩ := b
  exact ⟨l ++ m, by simp⟩
theorem Gr.app {s l : Sto} : Gr s (s ++ l) := ⟨l, rfl⟩
theorem Gr.lst {s s' : Sto} {n : Nat} {xs : List D} (h : Gr s s') (e : lstAt s n = some xs) : lstAt s' n = some xs := by
  obtain ⟨l, rfl⟩ := h
  exact lstAt_app e
theorem Gr.len {s s' : Sto} (h : Gr s s') : s.length ≤ s'.length := by
  obtain ⟨l, rfl⟩ := h
  simp
/-- grown behind s0, and changed there alone -/
theorem Gr.set {s s' : Sto} {n : Nat} {o : DO} (h : Gr s s') (hn : s.length ≤ n) : Gr s (s'.set n o) := by
  obtain ⟨l, rfl⟩ := h
  rw [List.set_append]
  split
  · omega
  · exact ⟨_, rfl⟩
/-- a comprehension whose parts only make new things -/
theorem lc_pure {I : Itd} {g : DGf} {tt : DT} {de : DX} {Δ : Dn} {s : Sto} (R : D → List D → Prop) (hst : ∀ s', Gr s s' → I.still s' = true)
    (step : ∀ d s', d ∈ I.its → Gr s s' → ∃ Δ1, g d Δ s' = some (Δ1, s') ∧
      ((∃ s2, tt Δ1 s' = some (.ok false, s2) ∧ Gr s' s2 ∧ R d []) ∨ (∃ s2 y s3, tt Δ1 s' = some (.ok true, s2) ∧ de Δ1 s2 = some (.ok y, s3) ∧ Gr s' s3 ∧ R d [y]))) (hz : I.its.length ≤ sizeLine) :
    ∃ s' yss, lcRun I g tt de s.length I.its Δ (s ++ [.lst []]) = some s' ∧ lstAt s' s.length = some yss.flatten ∧ All2 R I.its yss ∧ Gr s s' := by
  obtain ⟨s', yss, h1, h2, h3, h4⟩ := lc_gen (I := I) (g := g) (tt := tt) (de := de) (n := s.length) (Δ := Δ) (fun _ s' => Gr s s') R (fun _ s' h => hst s' h) (fun k d s' acc hd j e => by
    obtain ⟨Δ1, hg, h⟩ := step d s' hd j
    refine ⟨Δ1, hg, ?_⟩
    rcases h with ⟨s2, ht, g2, hR⟩ | ⟨s2, y, s3, ht, hy, g3, hR⟩
    · exact .inl ⟨s2, ht, g2.lst e, hR, j.trans g2⟩
    · exact .inr ⟨s2, y, s3, ht, hy, g3.lst e, hR, (j.trans g3).set (Nat.le_refl _)⟩) I.its (s ++ [.lst []]) [] (fun _ h => h) Gr.app lstAt_new (by simpa using hz)
  exact ⟨s', yss, h1, by simpa using h2, h3, h4⟩
end DV

namespace PySem.W
open PySem PySem.Calls PyProof.Rows Builtin
section
variable {prog : Program} {w : World} {A : Around} {E : Value → Shared → Prop} {s : Shared} {K : Frag} {x C L f : Addr} {h₀ : Heap} {m : Str → Option Value} {ox : Obj} {od : Option Obj} {b tb : Value}
set_option maxHeartbeats 2000000 in
/-- != of an instance whose class has an own == but no own != -/
theorem ne_K {Q : Value → Shared → Prop} (hu : A.units + 1 < cLine) (Ff : Fr h₀ L s.heap m) (X₀ : K.In h₀) (I : InstAt s.heap x ox C od) (hb : Looks (model prog w) s.heap (typeOf b) tb) (hn : notFirst K C tb = true)
    (hs : findIn K (.ref C) "__ne__" = some (some (.builtin "object.__ne__"))) (hm : mroIn K C (.type "object") = some true) (he : findIn K (.ref C) "__eq__" = some (some (.ref f))) (hf : isFn K (.ref f) = true)
    (h : wpAny (model prog w) A.in1 (call (.ref f) [.ref x, b]) (fun v s' => ∃ r, v = .bool r ∧ Q (.bool (!r)) s') E s) : wpAny (model prog w) A (richCompare .NotEq (.ref x) b) Q E s := by
  have X := X₀.keeps Ff.keep
  have body : wpAny (model prog w) A.in1 (Builtin.«object.__ne__» ⟨[.ref x, b], []⟩) (fun fin s' => ∃ r, fin = .done (.ret (.bool r)) ∧ Q (.bool r) s') E s := by
    unfold Builtin.«object.__ne__»
    obtain ⟨hp, g, d, tk, os⟩ := s
    repeat (first
      | with_reducible refine wpAny_cRoomFor hu ?_
      | (refine wpAny_bind (m := callSpecialIfBound? (.ref x) (Str.ofString "__eq__") [b])
          (ifBound_K X I he hf (wpAny_mono h (fun r s' hr => by
            obtain ⟨r, rfl, hq⟩ := hr
            repeat (first | exact ⟨_, rfl, hq⟩ | exact wpAny_pure ⟨_, rfl, hq⟩ | exact wpAny_truthy_bool ⟨_, rfl, hq⟩ | (refine wpAny_bind (m := truthy (.bool _)) (wpAny_truthy_bool ?_)) | wp_step)) fun _ _ e => e)))
      | wp_step)
  have called : wpAny (model prog w) A (call (.builtin "object.__ne__") ([.ref x] ++ [b])) (fun v s' => ∃ r, v = .bool r ∧ Q (.bool r) s') E s :=
    wpAny_call (codeAny_call_builtin F.cmp_object.ne.plain F.cmpEntry_ne (check_slot F.cmpKind_ne F.cmpSplit_ne (I.type.andThen (looks_subIn X (t := .ref C) hm)) (F.cmpArgs_ne _ _)
      (wpAny_mono body (fun fin s' hv => by
        obtain ⟨r, rfl, hq⟩ := hv
        first | exact ⟨r, rfl, hq⟩ | exact wpAny_pure ⟨r, rfl, hq⟩) fun _ _ e => e)))
  have one : wpAny (model prog w) A (tryCompare (.ref x) "__ne__" b) (fun r s' => ∃ v, r = some v ∧ Q v s') E s := by
    unfold tryCompare
    refine wpAny_bind ?_
    simp only [callSpecialIfBound?, bindSpecialIfBound?]
    refine wpAny_holding (wpAny_bind (wpAny_bind (wpAny_bind (I.type.here ((looks_findIn X hs).here ?_)))))
    refine wpAny_bind (wpAny_askSetting (wpAny_ite ?_))
    have fin : ∀ {R : Option Value → Shared → Prop}, (∀ (r : Bool) s', Q (.bool r) s' → R (some (.bool r)) s') → wpAny (model prog w) A (call (.builtin "object.__ne__") ([.ref x] ++ [b]) >>= fun v => pure (some v)) R E s := fun hR =>
      wpAny_bind (wpAny_mono called (fun v s' h' => wpAny_pure (by obtain ⟨r, rfl, q⟩ := h'; exact hR r s' q)) fun _ _ h' => h')
    rw [F.cmp_object.ne.bind]
    split
    · exact wpAny_bind (wpAny_pure (wpAny_pure (by exact fin fun r s' q => wpAny_pure ⟨_, rfl, q⟩)))
    · exact wpAny_tryCatch (wpAny_bind (wpAny_pure (wpAny_pure (by exact fin fun r s' q => wpAny_pure ⟨_, rfl, q⟩))))
  unfold richCompare
  simp only [oneThing_ref]
  refine wpAny_holding (wpAny_bind (wpAny_cRoomFor (Nat.lt_of_succ_lt hu) ?_))
  refine wpAny_bind (I.type.here (wpAny_bind (hb.here ?_)))
  split
  · rename_i q
    have e : subIn K tb (.ref C) = some false := by
      rcases Bool.or_eq_true_iff.mp hn with e | e
      · rw [beq_iff_eq.mp e] at q; simp at q
      · exact beq_iff_eq.mp e
    refine wpAny_bind ((looks_subIn X e).here ?_)
    simp only [Bool.false_eq_true, if_false]
    refine wpAny_bind (wpAny_mono one (fun r s' z => ?_) fun _ _ e => e)
    obtain ⟨v, rfl, hq⟩ := z
    exact wpAny_pure hq
  · refine wpAny_bind (wpAny_pure ?_)
    simp only [Bool.false_eq_true, if_false]
    refine wpAny_bind (wpAny_mono one (fun r s' z => ?_) fun _ _ e => e)
    obtain ⟨v, rfl, hq⟩ := z
    exact wpAny_pure hq
end
end PySem.W
namespace DV
open PySem L2 PyProof.Rows
/-! ### isinstance of an own class -/
structure IsC (K : PySem.W.Frag) (C : Addr) : Prop where
  cl : Cls K C
  ha : PySem.W.findIn K (.ref C) "__class__" = some (some (.builtin "object.__class__"))
  hn : PySem.W.specialIn K (.builtin "object.__class__") "__get__" = some (some (.builtin "getset_descriptor.__get__"))
  ht : PySem.W.takesIn K (.builtin "object.__class__") = some true
  hm : PySem.W.mroIn K C (.type "object") = some true
  ci : PySem.W.isClsIn K C = true
  ty : PySem.W.typeIn K (.ref C) = some (.type "type")
theorem sub_kd {K : PySem.W.Frag} {C : Addr} (k : Kd) : PySem.W.subIn K (.type k.name) (.ref C) = some false := by
  have h : ∀ k : Kd, (fastFind? k.name).isSome = true := by intro k; cases k <;> decide +kernel
  have hk := h k
  unfold PySem.W.subIn fastBuiltinMro
  obtain ⟨d, e⟩ := Option.isSome_iff_exists.mp hk
  simp only [e, Option.map_some, Option.some.injEq]
  induction d.mro with
  | nil => rfl
  | cons a r ih => rw [List.map_cons, List.contains_cons, ih]; rfl
theorem IsC.kit {K : PySem.W.Frag} {C : Addr} (c : IsC K C) {t : Value} (ht : (t == .ref C) = false) (hs : PySem.W.subIn K t (.ref C) = some false) : PySem.W.kitOne K t (.ref C) = some false := by
  have h : ((PySem.W.clsIn K C).isSome && PySem.W.typeIn K (.ref C) == some (.type "type")) = true := by
    have := c.ci
    unfold PySem.W.isClsIn at this
    rw [this, c.ty]; decide
  unfold PySem.W.kitOne PySem.W.kitCls
  rw [ht]
  simp only [Bool.false_eq_true, if_false, h, if_true]
  exact hs
/-- the answer of isinstance(x, C); L: the other classes -/
def fIsiC (C : Addr) (L : List Addr) : OpN := fun xs s => match xs with
  | [x, .adr c] => if c = C then match kdOf x s with
    | some _ => some (.bl false, s)
    | none => match x with
      | .obj n => match insAt s n with
        | some (C', _) => if C' = C then some (.bl true, s) else if C' ∈ L then some (.bl false, s) else none
        | none => none
      | _ => none
    else none
  | _ => none
section
variable {X : Cx} {W : WX} {k : Nat} {f C : Addr} {fd : FuncData} {ps : List Str} {fM : FnD}
theorem ins_ty {φ : List Addr} {H : Hp} {s : Sto} {v : V} {n : Nat} {C : Addr} {fs : List (Str × D)} (c : IsC X.K C) (so : So X.K φ H s) (r : Dt X.K φ H v (.obj n)) (e : insAt s n = some (C, fs)) : TyX X.K H v (.ref C) := by
  cases r
  rename_i a ha
  obtain ⟨b, hb, dx, vs, k, _⟩ := so.at (insAt_eq e)
  rw [ha] at hb
  cases hb
  exact .base (.ins k c.cl c.ha c.hn c.ht c.hm)
theorem dc_isiC {L : List Addr} (c : IsC X.K C) (hL : ∀ C' ∈ L, IsC X.K C' ∧ PySem.W.subIn X.K (.ref C') (.ref C) = some false) : DCall X (.builtin "isinstance") (fIsiC C L) := ⟨_, call_isi, fun φ H s vs ds Q so rx p => by
  unfold fIsiC at p
  split at p
  · rename_i x cc
    obtain ⟨v, u, rfl, r1, r2⟩ := dts2 rx
    split at p
    · rename_i z
      subst z
      cases r2
      split at p
      · rename_i k e
        exact ⟨v, .ref cc, .type k.name, .ref cc, false, rfl, .own cc, kd_ty so r1 e, c.kit rfl (sub_kd k), p.ok so (.bl _)⟩
      · split at p
        · rename_i n
          split at p
          · rename_i C' fs e
            split at p
            · rename_i z
              subst z
              exact ⟨v, .ref C', .ref C', .ref C', true, rfl, .own C', ins_ty c so r1 e, by unfold PySem.W.kitOne; simp, p.ok so (.bl _)⟩
            · rename_i z
              split at p
              · rename_i y
                exact ⟨v, .ref cc, .ref C', .ref cc, false, rfl, .own cc, ins_ty (hL C' y).1 so r1 e, c.kit (by simpa using z) (hL C' y).2, p.ok so (.bl _)⟩
              · exact p.elim
          · exact p.elim
        · exact p.elim
    · exact p.elim
  · exact p.elim⟩
/-! ### the own == of a class, and its != -/
def okR (C : Addr) (y : D) (s : Sto) : Bool := match kdOf y s with
  | some _ => true
  | none => match y with
    | .obj n => match insAt s n with
      | some (C', _) => C' == C
      | none => false
    | _ => false
def fOwn (C : Addr) (neg : Bool) (fM : FnD) : Op2 := fun x y s => match x with
  | .obj n => match insAt s n with
    | some (C', _) => if C' = C ∧ okR C y s = true then match fM [x, y] s with
      | some (.ok (.bl b), s') => some (.bl (if neg then !b else b), s')
      | _ => none
      else none
    | none => none
  | _ => none
theorem okR_ty {φ : List Addr} {H : Hp} {s : Sto} {v : V} {y : D} (c : IsC X.K C) (so : So X.K φ H s) (r : Dt X.K φ H v y) (e : okR C y s = true) : ∃ t, TyX X.K H v t ∧ PySem.W.notFirst X.K C t = true := by
  unfold okR at e
  split at e
  · rename_i k ek
    exact ⟨_, kd_ty so r ek, by unfold PySem.W.notFirst; rw [sub_kd]; simp⟩
  · split at e
    · split at e
      · rename_i n C' fs e1
        have z : C' = C := by simpa using e
        subst z
        exact ⟨_, ins_ty c so r e1, by unfold PySem.W.notFirst; simp⟩
      · cases e
    · cases e
/-- the relation of an operation that does f on data -/
def rD (K : PySem.W.Frag) (f : Op2) : R2 := fun v u H Q => ∃ φ s x y, So K φ H s ∧ Dt K φ H v x ∧ Dt K φ H u y ∧ PsO K φ H Q (f x y s)
theorem fOwn_read {neg : Bool} {φ : List Addr} {H : Hp} {s : Sto} {v u : V} {x y : D} {Q : VK} (c : IsC X.K C) (so : So X.K φ H s) (rx : Dt X.K φ H v x) (ry : Dt X.K φ H u y) (h : PsO X.K φ H Q (fOwn C neg fM x y s)) :
    ∃ a dx fs t, v = .ref a ∧ H a = some (.ins C dx fs) ∧ TyX X.K H u t ∧ PySem.W.notFirst X.K C t = true ∧ ∃ b s', fM [x, y] s = some (.ok (.bl b), s') ∧ PsO X.K φ H Q (some (.bl (if neg then !b else b), s')) := by
  unfold fOwn at h
  split at h
  · rename_i n
    split at h
    · rename_i C' fs e1
      split at h
      · rename_i z
        obtain ⟨z1, z2⟩ := z
        subst z1
        cases rx
        rename_i a ha
        obtain ⟨b, hb, dx, vs, k, _⟩ := so.at (insAt_eq e1)
        rw [ha] at hb
        cases hb
        obtain ⟨t, ht, hn⟩ := okR_ty c so ry z2
        split at h
        · rename_i b s' e2
          exact ⟨a, dx, vs, t, rfl, k, ht, hn, b, s', e2, h⟩
        · exact h.elim
      · exact h.elim
    · exact h.elim
  · exact h.elim
theorem dop_ownEq (c : IsC X.K C) (F : FnX X k f fd ["self", "other"] fM) (hr : RoomG k X.A) (hb : Binds X.K fd ["self", "other"] []) (tk : Takes X W) (hs : PySem.W.findIn X.K (.ref C) "__eq__" = some (some (.ref f))) (hf : PySem.W.isFn X.K (.ref f) = true) : DOp X (compareOp .Eq) (fOwn C false fM) := by
  refine ⟨rD X.K (fOwn C false fM), fun pins s σ H x y v u Q I rx ry h => ?_, fun φ H s x y v u Q so rx ry h => ⟨φ, s, x, y, so, rx, ry, h⟩⟩
  obtain ⟨φ, st, dx, dy, so, r1, r2, h⟩ := h
  obtain ⟨a, ddx, fs, t, rfl, ha, ty, hn, b, s', e, h⟩ := fOwn_read c so r1 r2 h
  cases (show v = Value.ref a from rx)
  obtain ⟨mA, J, _⟩ := ins_get I.hok ha
  obtain ⟨od, J, _⟩ := J.look
  obtain ⟨m, hF⟩ := I.fr
  obtain ⟨P, Z, p, hx⟩ := kit_of I ry ty
  show wpAny (model X.prog X.w) X.A (richCompare .Eq (.ref a) u) (EP X pins σ Q) X.xe s
  refine PySem.W.cmp_K (op := .Eq) (tb := t) hr.rm.units0 hF I.ok.mod.kin J (Z.ty _ _ I.kIn p) hn hs hf ?_
  have sp : spD X.K 2 fM ([V.ref a, y] ++ []) H (fun v H' => (∃ b, v = .bl b) ∧ Q v H') (WE W σ) := by
    refine ⟨rfl, [dx, dy], φ, st, .cons r1 (.cons r2 .nil), so, ?_⟩
    rw [e]
    intro φ' v H' f so' rv
    exact ⟨by cases rv; exact ⟨_, rfl⟩, h φ' v H' f so' rv⟩
  refine wpAny_mono (run_fnG (us := [.ref a, u]) (vs := [.ref a, y]) F hr hb tk I (.cons rfl (.cons ry .nil)) sp) (fun r s2 q => ?_) fun _ _ x => x
  obtain ⟨z, H', I', rz, ⟨b', ez⟩, q⟩ := q
  subst ez
  cases (show r = Value.bool b' from rz)
  exact ⟨.bl b', H', I', rfl, q⟩
theorem dop_ownNe (c : IsC X.K C) (F : FnX X k f fd ["self", "other"] fM) (hr : RoomG (k + 1) X.A) (hb : Binds X.K fd ["self", "other"] []) (tk : Takes X W) (hs : PySem.W.findIn X.K (.ref C) "__eq__" = some (some (.ref f))) (hf : PySem.W.isFn X.K (.ref f) = true)
    (hs2 : PySem.W.findIn X.K (.ref C) "__ne__" = some (some (.builtin "object.__ne__"))) : DOp X (compareOp .NotEq) (fOwn C true fM) := by
  refine ⟨rD X.K (fOwn C true fM), fun pins s σ H x y v u Q I rx ry h => ?_, fun φ H s x y v u Q so rx ry h => ⟨φ, s, x, y, so, rx, ry, h⟩⟩
  obtain ⟨φ, st, dx, dy, so, r1, r2, h⟩ := h
  obtain ⟨a, ddx, fs, t, rfl, ha, ty, hn, b, s', e, h⟩ := fOwn_read c so r1 r2 h
  cases (show v = Value.ref a from rx)
  obtain ⟨mA, J, _⟩ := ins_get I.hok ha
  obtain ⟨od, J, _⟩ := J.look
  obtain ⟨m, hF⟩ := I.fr
  obtain ⟨P, Z, p, hx⟩ := kit_of I ry ty
  show wpAny (model X.prog X.w) X.A (richCompare .NotEq (.ref a) u) (EP X pins σ Q) X.xe s
  have hr1 : RoomG k X.A.in1 := ⟨hr.rm.in1, hr.gd⟩
  refine PySem.W.ne_K (tb := t) hr1.rm.units0 hF I.ok.mod.kin J (Z.ty _ _ I.kIn p) hn hs2 c.hm hs hf ?_
  have sp : spD X.K 2 fM [V.ref a, y] H (fun v H' => (∃ b : Bool, v = .bl b ∧ Q (.bl (!b)) H')) (WE W σ) := by
    refine ⟨rfl, [dx, dy], φ, st, .cons r1 (.cons r2 .nil), so, ?_⟩
    rw [e]
    intro φ' v H' f so' rv
    cases rv
    exact ⟨b, rfl, h φ' (.bl (!b)) H' f so' (.bl _)⟩
  have e0 : Env0 X.prog X.w X.K X.mg X.base X.A.in1 X.stack s H := by
    have e := I.env0
    exact ⟨e.frames, e.mod, e.bs, e.bsz, e.funs, e.frf, e.hok, e.bare⟩
  have rr : Vals [V.ref a, y] [Value.ref a, u] := .cons rfl (.cons ry .nil)
  refine wpAny_call (codeAny_mono (F.run X.A.in1 X.stack s H ⟨[.ref a, u], []⟩ [.ref a, u] [.ref a, y] _ (WE W σ) hr1 e0 (by
    have bb := hb s [.ref a, u] I.kIn (by simp)
    simpa using bb) rr sp) fun q s2 hq => ?_)
  cases q with
  | error e => exact passAt tk σ pins H s e s2 I hq
  | ok fl => cases fl with
    | ret w =>
      obtain ⟨z, H', I', rz, ⟨b', ez, q⟩⟩ := I.after hq
      subst ez
      cases (show w = Value.bool b' from rz)
      exact ⟨b', rfl, .bl (!b'), H', I', rfl, q⟩
    | next => exact hq.elim
    | brk => exact hq.elim
    | cont => exact hq.elim
end
end DV

set_option maxHeartbeats 2000000
namespace DV
open PySem L2 PyProof.Rows
/-! ### try: body, except C as n: m = n — the caught exception is a value from there on -/
section
variable {X : Cx} {pins : List (Addr × Obj)} {σ : L2.St} {H : Hp} {s : Shared}
/-- an exception object that lies is looked at from now on -/
theorem track {e : Addr} {oe : Obj} {fl : Array Value} {cls : Value} {d : Option Addr} (I : Inv X pins σ H s) (he : s.heap.get? e = some oe) (hz : Zc cls d oe) (hd : oe.data = .fields fl) (na : H e = none) (nL : e ≠ X.env.locals)
    (n0 : X.s_0.heap.get? e = none) (np : ∀ p ∈ X.pn ++ pins, p.1 ≠ e) : Inv X pins σ (upd H e (ExK cls d e)) s := by
  have far : ∀ b u, X.s_0.heap.get? b = some u → b ≠ e := fun b u q z => by subst z; rw [n0] at q; cases q
  have old : ∀ b u, H b = some u → b ≠ e := fun b u q => ne_of_none q na
  have B := I.base
  refine { ok := I.ok, os := I.os, bare := I.bare, base := ?_, loc := I.loc, cell := I.cell, free := ?_, freeC := ?_, pin := ?_, hok := ?_, len := I.len }
  · refine { keep := B.keep, slot := B.slot, there := B.there, free := ?_, tups := ?_, frzs := ?_, tbls := ?_ }
    · intro b u q1 q2 q3
      rw [upd_ne (far b u q1)]
      exact B.free b u q1 q2 q3
    · intro b xs q
      rw [upd_ne (old b _ (B.tups b xs q))]
      exact B.tups b xs q
    · intro b u w q
      rw [upd_ne (old b _ (B.frzs b u w q))]
      exact B.frzs b u w q
    · intro b ps q
      obtain ⟨more, q2⟩ := B.tbls b ps q
      exact ⟨more, by rw [upd_ne (old b _ q2)]; exact q2⟩
  · rw [upd_ne fun z => nL z.symm]
    exact I.free
  · intro x c q
    obtain ⟨v, hv⟩ := I.cell x c q
    have ne : c ≠ e := fun z => by
      subst z
      obtain ⟨_, q1, q2⟩ := hv
      rw [he] at q1
      cases q1
      rw [hd] at q2
      cases q2
    rw [upd_ne ne]
    exact I.freeC x c q
  · intro p hp
    obtain ⟨q1, q2, q3⟩ := I.pin p hp
    exact ⟨q1, by rw [upd_ne (np p hp)]; exact q2, q3⟩
  · intro b u q
    by_cases z : b = e
    · subst z
      rw [upd_same] at q
      cases q
      exact ⟨⟨oe, fl, he, hz, hd⟩, ⟨oe, he⟩, fun h1 h2 ⟨o, v, w1, w2⟩ k => ⟨o, v, k o w1, w2⟩⟩
    · rw [upd_ne z] at q
      exact (I.hok b u q).stay (fun _ _ _ k => k) (fun c k => by rw [upd_ne (old c _ k)]; exact k) fun c xs k => by rw [upd_ne (old c _ k)]; exact k
end
/-- what the clause wishes of an exception of the body: it is one of the class c, and the suite keeps it -/
def wKept (K : PySem.W.Frag) (c : Value) (i : Nat) (ts : Addr → Value → Option Addr → TS) (Q : Ends) : WX := fun cls d σ H =>
  PySem.W.exmOne K cls c = some true ∧ ∀ e, H e = none → ts e cls d ⟨fun σ' H' => H' e = none → Q.nx (σ'.set i none) (upd H' e (ExK cls d e)), fun _ _ => False, fun _ _ => False, fun _ _ => False⟩ (σ.set i (some (.ref e))) H
section
variable {X : Cx} {x n : Str} {c : Value} {i : Nat} {body suite : List Stmt} {st1 : Stmt} {np pos pos' : Pos} {tb : WX → TS} {ts : Addr → Value → Option Addr → TS}
theorem ps_try_kept (stk : X.stack = X.env :: X.outer) (frm : X.env.frame = some X.env.locals) (nd : X.N.Nodup) (ni : X.N[i]? = some n) (nl : X.env.kindOf n = some .local) (nc : Names X x c) (hex : X.ex = [])
    (bodyOk : ∀ (W : WX) (pn : List (Addr × Obj)) (xe : Value → Shared → Prop), Takes (X.tr pn xe) W → PassesOwn (model X.prog X.w) X.A X.env xe → PSs (X.tr pn xe) body (tb W))
    (suiteOk : ∀ (e : Addr) (oe : Obj) (cls : Value) (d : Option Addr) (pn : List (Addr × Obj)), Zc cls d oe → (∃ vs, oe.data = .fields vs) → PSs (X.suite e ((e, oe) :: pn)) (st1 :: suite) (ts e cls d)) :
    PS X (.Try body [.ExceptHandler (some (.Name x np)) (some n) (st1 :: suite) pos'] [] [] pos) (fun Q σ H => tb (wKept X.K c i ts Q) Q σ H) := by
  constructor
  intro pins s σ H Q I start
  have okX := I.ok
  have allF : X.A.frames = some (X.env :: X.outer) := okX.frames.trans (congrArg some stk)
  let goOn : Value → Shared → Prop := fun u t1 =>
    wpAny (model X.prog X.w) X.A (noteFrame u X.env) (fun _ t2 =>
      wpAny (model X.prog X.w) X.A (setFlight u none) (fun _ t3 =>
        wpAny (model X.prog X.w) X.A (handleBy u X.env [.ExceptHandler (some (.Name x np)) (some n) (st1 :: suite) pos']) (SP X pins Q) X.xe t3) X.xe t2) X.xe t1
  have caught : Takes (X.tr (X.pn ++ pins) goOn) (wKept X.K c i ts Q) := by
    intro u t xx
    obtain ⟨e, B, t0, pins0, σ0, H0, cls, d, rfl, I0', inB, upTo, sky0, na, sameOs, allB, isC, wish⟩ := xx
    have I0 : Inv X pins σ0 H0 t0 := I0'.ofTry okX
    have sky : Sky B (X.env :: X.outer) e (Zc cls d) X.env.locals t.heap := stk ▸ sky0
    show wpAny _ X.A (noteFrame (.ref e) X.env) _ _ _
    refine Sky.land Zc.steady allF frm sky ?_
    intro g3 fly3 up3
    have I3 : Inv X pins σ0 H0 { t with heap := g3 } := I0.landed inB fly3.1 (upTo.trans up3) sameOs allB
    obtain ⟨o3, fl3, lies3, z3, dat3⟩ := fly3.there
    have noFrame : e ∉ frs (X.env :: X.outer) := by
      intro hm
      obtain ⟨_, o', q, hnf⟩ := fly3.2.2.1.mem hm
      rw [lies3] at q
      cases q
      exact hnf _ dat3
    have offLocals : e ≠ X.env.locals := by
      intro z
      apply noFrame
      exact List.mem_filterMap.mpr ⟨X.env, by simp, by rw [frm, z]⟩
    have offOuter : e ∉ X.fs := by
      intro hm
      obtain ⟨v, hv, q⟩ := List.mem_filterMap.mp hm
      apply noFrame
      exact List.mem_filterMap.mpr ⟨v, by simp [hv], q⟩
    -- the exception is younger than all that was looked at
    have young : t0.heap.get? e = none := by
      cases q : t0.heap.get? e with
      | none => rfl
      | some o =>
        have inB' := inB e o q (by rw [stk]; exact noFrame)
        rw [fly3.2.1] at inB'
        cases inB'
    have young0 : X.s_0.heap.get? e = none := by
      cases q : X.s_0.heap.get? e with
      | none => rfl
      | some o =>
        obtain ⟨o', q'⟩ := I0.base.there e o q (by rw [hex]; simp)
        rw [young] at q'
        cases q'
    have noPin : ∀ p ∈ X.pn ++ pins, p.1 ≠ e := by
      intro p hp z
      have q := (I0.pin p hp).1
      rw [z, young] at q
      cases q
    have S3 := I3.suite lies3 dat3 na offLocals offOuter
    refine wpAny_handleBy_cons (codeAny_handlers_test ?_) (by intro q; cases q)
    have itsType : PySem.W.Looks (model X.prog X.w) g3 (typeOf (.ref e)) cls := by
      intro A1 Q1 E1 t1 kk q
      refine wpAny_typeOf_ref (kk _ _ lies3) ?_
      rw [z3.1]
      exact q
    have meets := PySem.W.exm_one (M := model X.prog X.w) I3.kIn itsType isC
    have named : ∀ {Q1 E1 : Value → Shared → Prop}, Q1 c { t with heap := g3 } → wpAny (model X.prog X.w) (X.A.mark (some (.ref e))) (eval (.Name x np) X.env) Q1 E1 { t with heap := g3 } := by
      intro Q1 E1 q
      obtain ⟨gx, dbg, own | ⟨no, blt, ne⟩⟩ := nc
      · exact ld_glob (X := X.suite e ((e, o3) :: (X.pn ++ pins))) S3 gx own q dbg
      · exact ld_blt (X := X.suite e ((e, o3) :: (X.pn ++ pins))) S3 gx no blt q ne dbg
    refine named (meets.here ?_)
    refine codeAny_handlers_suite_as (HandSPX.lands_againZ fly3 ?_)
    intro g4 fly4 up4
    have I4 : Inv X pins σ0 H0 { t with heap := g4 } := I0.landed inB fly4.1 ((upTo.trans up3).trans up4) sameOs allB
    obtain ⟨o4, fl4, lies4, z4, dat4⟩ := fly4.there
    have S4 := I4.suite lies4 dat4 na offLocals offOuter
    refine store_ok (X := X.suite e ((e, o4) :: (X.pn ++ pins))) (v := .ref e) S4 nd ni (.inl nl) rfl ?_ (.inr nl)
    intro t5 S5
    have suite5 := (suiteOk e o4 cls d (X.pn ++ pins) z4 ⟨_, dat4⟩).run [] t5 _ H0 _ S5 (wish e na)
    refine wpAny_mono suite5 ?_ fun _ _ z => z.elim
    intro f t6 done6
    cases f with
    | next =>
      obtain ⟨σ6, H6, S6, q6⟩ := done6
      have pe := S6.pin (e, o4) (by simp)
      have I6 := track (S6.unsuite okX) pe.1 z4 dat4 pe.2.1 offLocals young0 noPin
      exact gone_ok I6 nd ni nl fun t7 I7 => ⟨_, _, I7, q6 pe.2.1⟩
    | brk =>
      obtain ⟨_, _, _, z⟩ := done6
      exact z.elim
    | cont =>
      obtain ⟨_, _, _, z⟩ := done6
      exact z.elim
    | ret u =>
      obtain ⟨_, _, _, _, _, z⟩ := done6
      exact z.elim
  have ran := (bodyOk (wKept X.K c i ts Q) (X.pn ++ pins) goOn caught PassesOwn.looking).run [] s σ H Q (I.toTry _) start
  refine wpAny_Try_except (wpAny_mono ran ?_ fun _ _ z => z)
  intro f t1 done1
  cases f with
  | next =>
    obtain ⟨σ1, H1, I1, q⟩ := done1
    exact wpAny_execs_nil ⟨σ1, H1, I1.ofTry okX, q⟩
  | brk => exact (fun ⟨σ1, H1, I1, q⟩ => ⟨σ1, H1, I1.ofTry okX, q⟩) done1
  | cont => exact (fun ⟨σ1, H1, I1, q⟩ => ⟨σ1, H1, I1.ofTry okX, q⟩) done1
  | ret u => exact (fun ⟨v, σ1, H1, I1, r, q⟩ => ⟨v, σ1, H1, I1.ofTry okX, r, q⟩) done1
end
/-! ### .. over the data -/
def dTryK (L : List Addr) (i j : Nat) (db : DS) : DS := fun Δ s => match db Δ s with
  | some (.ex x Δ1, s1) => if x.cls ∈ L ∧ i < Δ1.length ∧ j < Δ1.length then some (.nx ((Δ1.set j (some (.exc x.cls (x.fs.map (·.1)) (x.fs.map (·.2))))).set i none), s1) else none
  | r => r
theorem prs_split {R : V → D → Prop} : ∀ {vs : List (Str × V)} {fs : List (Str × D)}, Prs R vs fs → vs.map (·.1) = fs.map (·.1) ∧ vs = (fs.map (·.1)).zip (vs.map (·.2)) ∧ (fs.map (·.1)).length = (vs.map (·.2)).length
  | _, _, .nil => ⟨rfl, rfl, rfl⟩
  | _, _, .cons h r => by
    obtain ⟨h1, h2, h3⟩ := prs_split r
    refine ⟨by simp [h1], ?_, by simpa using h3⟩
    rw [List.map_cons, List.map_cons, List.zip_cons_cons, ← h2]
theorem prs_dts {K : PySem.W.Frag} {φ : List Addr} {H : Hp} : ∀ {vs : List (Str × V)} {fs : List (Str × D)}, Prs (Dt K φ H) vs fs → Dts K φ H (vs.map (·.2)) (fs.map (·.2))
  | _, _, .nil => .nil
  | _, _, .cons h r => .cons h (prs_dts r)
theorem Xr.exv {K : PySem.W.Frag} {φ : List Addr} {H : Hp} {cls : Value} {d : Option Addr} {x : Xc} {e : Addr} (h : Xr K φ H cls d x) (na : H e = none) : ∃ vs, ExV (upd H e (ExK cls d e)) e x.cls (x.fs.map (·.1)) vs ∧ Dts K φ H vs (x.fs.map (·.2)) := by
  obtain ⟨rfl, ⟨rfl, h2⟩ | ⟨a, vs, rfl, h2, h3⟩⟩ := h
  · rw [h2]
    exact ⟨[], ⟨rfl, .inl ⟨upd_same, rfl⟩⟩, .nil⟩
  · obtain ⟨q1, q2, q3⟩ := prs_split h3
    refine ⟨vs.map (·.2), ⟨q3, .inr ⟨a, upd_same, ?_⟩⟩, prs_dts h3⟩
    rw [upd_ne (ne_of_none h2 na), h2, ← q2]
theorem Xr.fu {K : PySem.W.Frag} {φ φ' : List Addr} {H H' : Hp} {cls : Value} {d : Option Addr} {x : Xc} (f : Fu K φ φ' H H') (h : Xr K φ H cls d x) : Xr K φ' H' cls d x := by
  obtain ⟨h1, h2 | ⟨a, vs, h2, h3, h4⟩⟩ := h
  · exact ⟨h1, .inl h2⟩
  · exact ⟨h1, .inr ⟨a, vs, h2, f.gd _ _ h3, h4.fu f⟩⟩
section
variable {X : Cx} {W0 : WX} {x n m : Str} {cv : Value} {i j : Nat} {body : List Stmt} {p1 p2 p3 np pos pos' : Pos} {db : DS} {L : List Addr}
theorem ds_tryK (stk : X.stack = X.env :: X.outer) (frm : X.env.frame = some X.env.locals) (nd : X.N.Nodup) (ij : i ≠ j) (hL : ∀ c ∈ L, PySem.W.exmOne X.K (.ref c) cv = some true) (nc : Names X x cv)
    (hb : ∀ (W : WX) (pn : List (Addr × Obj)) (xe : Value → Shared → Prop), Takes (X.tr pn xe) W → PassesOwn (model X.prog X.w) X.A X.env xe → DSs (X.tr pn xe) W body db)
    (su : ∀ (e : Addr) (pn : List (Addr × Obj)), DSt (X.suite e pn) (fun _ _ _ _ => False) (.Assign [.Name m p1] (.Name n p2) p3) (dAsg (dVar i) (gN j)))
    (ni : X.N[i]? = some n := by rfl) (nl : X.env.kindOf n = some .local := by rfl) (hex : X.ex = [] := by rfl) :
    DSt X W0 (.Try body [.ExceptHandler (some (.Name x np)) (some n) [.Assign [.Name m p1] (.Name n p2) p3] pos'] [] [] pos) (dTryK L i j db) := by
  refine ps_imp (ps_try_kept (tb := fun W => upS X.K W db) (ts := fun _ _ _ => upS X.K (fun _ _ _ _ => False) (dAsg (dVar i) (gN j))) stk frm nd ni nl nc hex hb (fun e oe cls d pn _ _ => dss_one (su e ((e, oe) :: pn)))) ?_
  intro D σ H ⟨Δ, φ, s, hσ, hs, h⟩
  refine ⟨Δ, φ, s, hσ, hs, ?_⟩
  unfold dTryK at h
  cases r : db Δ s with
  | none => rw [r] at h; exact h.elim
  | some q =>
    obtain ⟨r1, s1⟩ := q
    rw [r] at h
    cases r1 with
    | nx Δ1 => exact h
    | rt d => exact h
    | bk Δ1 => exact h
    | ct Δ1 => exact h
    | ex xx Δ1 =>
      simp only at h
      split at h
      · rename_i hc
        obtain ⟨hc1, hi, hj⟩ := hc
        intro φ1 σ1 H1 c dd f1 so1 sg1 xr
        have hcl := xr.1
        subst hcl
        refine ⟨hL _ hc1, fun e na => ?_⟩
        refine ⟨Δ1.set i (some (.adr e)), φ1, s1, sg1.set (.adr e) i, so1, ?_⟩
        have hv : dAsg (dVar i) (gN j) (Δ1.set i (some (.adr e))) s1 = some (.nx ((Δ1.set i (some (.adr e))).set j (some (.adr e))), s1) := by
          unfold dAsg sbind dVar gN
          rw [List.getElem?_set_self hi]
        rw [hv]
        intro φ2 σ2 H2 f2 so2 sg2 na2
        obtain ⟨vs, ev, rv⟩ := (xr.fu f2).exv na2
        have f3 : Fu X.K φ2 φ2 H2 (upd H2 e (ExK (.ref xx.cls) dd e)) := fu_new na2
        refine h φ2 _ _ ((f1.trans f2).trans f3) (so2.new na2) ⟨?_, fun k d hk => ?_⟩
        · have q := sg2.len
          simp only [List.length_set] at q ⊢
          exact q
        · by_cases ki : k = i
          · subst ki
            rw [List.getElem?_set_self (by simp; exact hi)] at hk
            cases hk
          · rw [List.getElem?_set_ne (fun z => ki z.symm)] at hk ⊢
            by_cases kj : k = j
            · subst kj
              rw [List.getElem?_set_self hj] at hk
              cases hk
              obtain ⟨v, hv1, hv2⟩ := sg2.get k (.adr e) (by rw [List.getElem?_set_self (by simp; exact hj)])
              cases hv2
              exact ⟨.ref e, hv1, .exc ev (rv.fu f3)⟩
            · rw [List.getElem?_set_ne (fun z => kj z.symm)] at hk
              obtain ⟨v, hv1, hv2⟩ := sg2.get k d (by rw [List.getElem?_set_ne (fun z => kj z.symm), List.getElem?_set_ne (fun z => ki z.symm)]; exact hk)
              exact ⟨v, hv1, hv2.fu f3⟩
      · exact h.elim
end
end DV

set_option maxHeartbeats 2000000
namespace DV
open PySem L2 PyProof.Rows
/-! ### isinstance of a caught exception -/
/-- what isinstance says of instances of the exception class c, asked for the class C: b -/
structure IsX (K : PySem.W.Frag) (C c : Addr) (b : Bool) : Prop where
  ex : ExcC K c
  one : PySem.W.kitOne K (.ref c) (.ref C) = some b
/-- the class C of exceptions; those of Y are instances, those of N are not -/
def fIsiX (C : Addr) (Y N : List Addr) : OpN := fun xs s => match xs with
  | [x, .adr c] => if c = C then match x with
    | .exc k _ _ => if k ∈ Y then some (.bl true, s) else if k ∈ N then some (.bl false, s) else none
    | x => match kdOf x s with
      | some _ => some (.bl false, s)
      | none => none
    else none
  | _ => none
def rIsX (K : PySem.W.Frag) : List V → Hp → VK → Prop := fun xs H Q => ∃ (e C c : Addr) (ks : List Str) (vs : List V) (b : Bool), xs = [.ref e, .ref C] ∧ ExV H e c ks vs ∧ IsX K C c b ∧ Q (.bl b) H
section
variable {X : Cx} {W : WX}
theorem inst_exc {pins : List (Addr × Obj)} {σ : L2.St} {H : Hp} {s : Shared} {e c : Addr} {ks : List Str} {vs : List V} (I : Inv X pins σ H s) (h : ExV H e c ks vs) : ∃ oe od, PySem.W.InstAt s.heap e oe c od := by
  have key : ∀ d, H e = some (ExK (.ref c) d e) → (∀ a, d = some a → ∃ fs, H a = some (.xd fs)) → ∃ oe od, PySem.W.InstAt s.heap e oe c od := by
    intro d h1 h2
    obtain ⟨⟨oe, fl, q1, q2, q3⟩, _⟩ := I.hok e _ h1
    obtain ⟨oc, odd, oda, osl⟩ := oe
    obtain ⟨z1, z2⟩ := q2
    dsimp only at z1 z2 q3
    subst z1 z2 q3
    cases odd with
    | none => exact ⟨_, none, q1, rfl, rfl, trivial⟩
    | some a =>
      obtain ⟨fs, hx⟩ := h2 a rfl
      obtain ⟨mA, n1, _⟩ := I.hok a _ hx
      obtain ⟨o, ho⟩ : ∃ o, s.heap.get? a = some o := by
        obtain ⟨o, _, _, ho, _⟩ := n1
        exact ⟨o, ho⟩
      exact ⟨_, some o, q1, rfl, rfl, ho⟩
  rcases h.2 with ⟨h1, _⟩ | ⟨d, h1, h2⟩
  · exact key none h1 fun a z => nomatch z
  · exact key (some d) h1 fun a z => by cases z; exact ⟨_, h2⟩
theorem call_isX : CallR X (.builtin "isinstance") (rIsX X.K) := by
  intro pins s σ H xs us Q I r h
  obtain ⟨e, C, c, ks, vs, b, rfl, hv, hx, q⟩ := h
  obtain ⟨u1, u2, rfl, r1, r2⟩ := vals2 r
  cases (show u1 = Value.ref e from r1)
  cases (show u2 = Value.ref C from r2)
  obtain ⟨oe, od, J⟩ := inst_exc I hv
  have E := hx.ex
  have hcl : (PySem.W.clsIn X.K c).isSome = true := by
    obtain ⟨cd, hc, _⟩ := PySem.W.any_some E.hd
    rw [hc]
    rfl
  exact PySem.W.kia_one (PySem.W.kitx_exc hcl E.hg E.hk E.hs E.ha E.hn E.ht E.hm) I.kIn J hx.one (fun z => nomatch z) fun tk => ⟨.bl b, H, I.tok tk, rfl, q⟩
theorem dc_isiX {C : Addr} {Y N : List Addr} (c : PySem.W.isClsIn X.K C = true) (ct : PySem.W.typeIn X.K (.ref C) = some (.type "type")) (hY : ∀ k ∈ Y, IsX X.K C k true) (hN : ∀ k ∈ N, IsX X.K C k false) : DCall X (.builtin "isinstance") (fIsiX C Y N) := by
  have un : ∀ k : Kd, PySem.W.kitOne X.K (.type k.name) (.ref C) = some false := by
    intro k
    have h : ((PySem.W.clsIn X.K C).isSome && PySem.W.typeIn X.K (.ref C) == some (.type "type")) = true := by
      unfold PySem.W.isClsIn at c
      rw [c, ct]
      decide
    unfold PySem.W.kitOne PySem.W.kitCls
    rw [show (Value.type k.name == Value.ref C) = false from rfl]
    simp only [Bool.false_eq_true, if_false, h, if_true]
    exact sub_kd k
  refine ⟨fun xs H Q => rIsX X.K xs H Q ∨ rIsi X.K xs H Q, fun pins s σ H xs us Q I r h => ?_, fun φ H s vs ds Q so rx p => ?_⟩
  · rcases h with h | h
    · exact call_isX pins s σ H xs us Q I r h
    · exact call_isi pins s σ H xs us Q I r h
  · unfold fIsiX at p
    split at p
    · rename_i x cc
      obtain ⟨v, u, rfl, r1, r2⟩ := dts2 rx
      split at p
      · rename_i z
        subst z
        cases r2
        split at p
        · rename_i k ks ds2
          cases r1
          rename_i e ws h1 h2
          left
          split at p
          · rename_i hk
            exact ⟨e, cc, k, ks, ws, true, rfl, h1, hY k hk, p.ok so (.bl _)⟩
          · split at p
            · rename_i hk
              exact ⟨e, cc, k, ks, ws, false, rfl, h1, hN k hk, p.ok so (.bl _)⟩
            · exact p.elim
        · split at p
          · rename_i k e
            right
            exact ⟨v, .ref cc, .type k.name, .ref cc, false, rfl, .own cc, kd_ty so r1 e, un k, p.ok so (.bl _)⟩
          · exact p.elim
      · exact p.elim
    · exact p.elim
/-! ### e.f of a caught exception -/
/-! ### is of bools and None -/
def fIsB : Op2 := fun x y s => match x, y with
  | .bl a, .bl b => some (.bl (decide (a = b)), s)
  | .non, .bl _ => some (.bl false, s)
  | _, _ => none
def fNotB : Op2 := fun x y s => match x, y with
  | .bl a, .bl b => some (.bl (!decide (a = b)), s)
  | .non, .bl _ => some (.bl true, s)
  | _, _ => none
theorem op_isNB : OpR X (compareOp .Is) (fun x y H Q => ∃ b : Bool, x = .non ∧ y = .bl b ∧ Q (.bl false) H) := by
  intro pins s σ H x y v u Q I rx ry h
  obtain ⟨b, rfl, rfl, q⟩ := h
  cases (show v = Value.none from rx)
  cases (show u = Value.bool b from ry)
  exact wpAny_is_other rfl (fun z => nomatch z) ⟨.bl false, H, I, rfl, q⟩
theorem op_notNB : OpR X (compareOp .IsNot) (fun x y H Q => ∃ b : Bool, x = .non ∧ y = .bl b ∧ Q (.bl true) H) := by
  intro pins s σ H x y v u Q I rx ry h
  obtain ⟨b, rfl, rfl, q⟩ := h
  cases (show v = Value.none from rx)
  cases (show u = Value.bool b from ry)
  exact wpAny_isNot_other rfl (fun z => nomatch z) ⟨.bl true, H, I, rfl, q⟩
theorem dop_isB : DOp X (compareOp .Is) fIsB := ⟨_, op_isBl.or op_isNB, fun φ H s x y v u Q so rx ry p => by
  cases rx <;> cases ry <;> first | exact p.elim | skip
  · exact .inr ⟨_, rfl, rfl, p.ok so (.bl _)⟩
  · exact .inl ⟨_, _, rfl, rfl, p.ok so (.bl _)⟩⟩
theorem dop_notB : DOp X (compareOp .IsNot) fNotB := ⟨_, op_notBl.or op_notNB, fun φ H s x y v u Q so rx ry p => by
  cases rx <;> cases ry <;> first | exact p.elim | skip
  · exact .inr ⟨_, rfl, rfl, p.ok so (.bl _)⟩
  · exact .inl ⟨_, _, rfl, rfl, p.ok so (.bl _)⟩⟩
/-! ### a tuple several times -/
def fRepT : Op2 := fun x y s => match x, y with
  | .tup xs, .int k => if xs.isEmpty = false ∧ 2 ≤ k ∧ k ≤ 1000 ∧ xs.length ≤ 1000 then some (.tup (List.replicate k.toNat xs).flatten, s) else none
  | _, _ => none
theorem dop_repT : DOp X (binaryOp .Mult) fRepT := ⟨_, op_repT, fun φ H s x y v u Q so rx ry p => by
  cases rx <;> cases ry <;> first | exact p.elim | skip
  rename_i a vs xs h r k
  simp only [fRepT] at p
  split at p
  · rename_i z
    obtain ⟨z1, z2, z3, z4⟩ := z
    exact ⟨a, k, vs, rfl, rfl, h, r.ne_nil z1, z2, z3, by rw [r.length]; exact z4, fun q hq => p _ _ _ (fu_new hq) (so.new hq) (.tup (.inl (.inl upd_same)) ((r.flat _).fu (fu_new hq)))⟩
  · exact p.elim⟩
end
theorem kit1 {K : PySem.W.Frag} {C c : Addr} {b : Bool} (ci : PySem.W.isClsIn K C = true) (ty : PySem.W.typeIn K (.ref C) = some (.type "type")) (sC : PySem.W.subIn K (.ref C) (.ref C) = some true) (h : PySem.W.subIn K (.ref c) (.ref C) = some b) : PySem.W.kitOne K (.ref c) (.ref C) = some b := by
  have q : ((PySem.W.clsIn K C).isSome && PySem.W.typeIn K (.ref C) == some (.type "type")) = true := by
    unfold PySem.W.isClsIn at ci
    rw [ci, ty]
    decide
  unfold PySem.W.kitOne PySem.W.kitCls
  by_cases z : (Value.ref c == Value.ref C) = true
  · rw [if_pos z]
    have e : c = C := Value.ref.inj (beq_iff_eq.mp z)
    subst e
    exact sC.symm.trans h
  · rw [if_neg z]
    simp only [q, if_true]
    exact h
theorem exm1 {K : PySem.W.Frag} {C c : Addr} (h1 : PySem.W.subIn K (.ref C) (.type "BaseException") = some true) (hd : PySem.W.hasDictIn K C = true) (ht : PySem.W.typeIn K (.ref C) = some (.type "type")) (h : PySem.W.subIn K (.ref c) (.ref C) = some true) : PySem.W.exmOne K (.ref c) (.ref C) = some true :=
  PySem.W.exm_ref h1 hd ht h
theorem all_nil {p : Addr → Prop} : ∀ k ∈ ([] : List Addr), p k := fun _ h => nomatch h
theorem all_cons {p : Addr → Prop} {a : Addr} {r : List Addr} (h : p a) (hr : ∀ k ∈ r, p k) : ∀ k ∈ a :: r, p k := fun k hk => by
  rcases List.mem_cons.mp hk with rfl | hk
  · exact h
  · exact hr k hk
end DV

set_option maxHeartbeats 2000000
namespace DV
open PySem L2 PyProof.Rows
/-! ### an own exception class whose __init__ is: B.__init__(self, '..'); self.f = f -/
section
variable {X : Cx} {B : Str} {RB : Addr} {e : Expr} {es : List Expr} {ta : TA} {p1 p2 pos : Pos}
/-- what the class B says, of whose __init__ another one's makes use -/
structure BaseI (K : PySem.W.Frag) (RB : Addr) : Prop where
  sp : PySem.W.specialIn K (.ref RB) "__getattribute__" = some (some (.builtin "type.__getattribute__"))
  rd : PySem.W.readsIn K RB (.type "type") = true
  fc : PySem.W.findCls K (.ref RB) (.type "type") "__init__" = some (.val (.builtin "ValueError.__init__"))
theorem pe_einit {pl : Sem Bool} (T : BaseI X.K RB) (hg : Gl X B) (hm : X.mg B = some (.ref RB)) (ha : PA X (e :: es) ta)
    (hc : eval (.Call (.Attribute (.Name B p1) "__init__" p2) (e :: es) [] pos) X.env = (do let ov ← eval (.Name B p1) X.env; standAt p2.atName; let (f, first) ← holding [ov] (getMethod ov "__init__" pl); callWith pos f first (backTo pos (starEach (e :: es) X.env)) (backToKw pos (keywordEach [] X.env))) := by rfl)
    (hdb : (B == ("__debug__" : Str)) = false := by decide) (he : starEach (e :: es) X.env = (false, eval e X.env) :: starEach es X.env := by rfl) (hpl : (backTo pos (starEach es X.env)).any (·.1) = false := by rfl) :
    PE X (.Call (.Attribute (.Name B p1) "__init__" p2) (e :: es) [] pos) (tVeI X.K ta) := by
  constructor
  intro pins s σ H Q I h
  refine PySem.W.methodCall_KW (ld_glob I hg hm ?_ hdb) hc
  refine PySem.W.method_cls I.kIn T.sp (PySem.W.cls_value I.kIn T.rd T.fc (by decide +kernel) ?_)
  have args := ha.run pos pins _ σ H _ (I.tok (s.toks + 1)) h
  refine PyProof.Rows.callWith_method1 (id := "ValueError.__init__") (first := []) (thn args ?_) he hpl
  intro us s1 told
  obtain ⟨vs, H1, I1, r1, a, C, ws, ev, hl, T1, ea, q⟩ := told
  subst ev
  cases r1 with
  | @cons _ u0 _ ur ra rr =>
    obtain rfl : u0 = Value.ref a := ra
    refine oinit_ok T1 I1 ea ?_ fun s' J => ⟨.non, H1, J, rfl, q⟩
    rw [← Paired.length rr, sizeLine_eq]
    omega
end
section
variable {P : Program} {w : World} {K : PySem.W.Frag} {mg : Str → Option Value} {base : Heap}
/-- a def by the rules of its body -/
theorem fn_mkP {x qual : Str} {st : Stmt} {f : Addr} {fd : FuncData} {N ps : List Str} {k : Nat} {sp : Sp} {t : TS} (F : Fun K x qual st f fd) (S : FnScope N ps (defScope st)) (hlen : ∀ vs H Q E, sp vs H Q E → vs.length = ps.length)
    (hb : ∀ (cdv : Value) (A : Around) (outer : List Env) (s : Shared) (H : Hp) (E : XK), Room k (Bx P w K mg base N qual (defScope st) f cdv A outer s H E).A → PSs (Bx P w K mg base N qual (defScope st) f cdv A outer s H E) (defBody st) t)
    (hs : ∀ vs H Q E, sp vs H Q E → t ⟨fun _ H' => Q .non H', Q, fun _ _ => False, fun _ _ => False⟩ (L2.start N vs) H) : FnOk P w K mg base (L2.CX P w) (k + 1) f fd ps sp := by
  constructor
  · exact hlen
  intro A outer s H args us vs Q E hr env0 bind rel hsp
  obtain ⟨oc, od, kV, doc, pm, an, cdv, ct, osl, rfl, lk, hcd⟩ := F.ex
  have olds : ∀ (b : Addr) (o : Obj), base.get? b = some o → s.heap.get? b = some o := fun b o q => (env0.bs b o q).1
  have kin := env0.mod.kin.keeps olds
  have seen : ∀ y ∈ ps.zip us, (defScope st).names.lookup y.1 = some .local ∨ ((defScope st).names.lookup y.1 = some .cell ∧ ((cellsFrom (s.heap.objs.size + 1) (defScope st).names []).lookup y.1).isSome = true) := by
    intro y hy
    rcases S.par y.1 (List.of_mem_zip (a := y.1) (b := y.2) hy).1 with q | q
    · exact .inl q
    · exact .inr ⟨q, PySem.W.cellsFrom_some _ _ _ (.inl q)⟩
  refine codeAny_call_function hr.depth (kin _ _ lk) rfl S.co S.gen rfl (PySem.W.codeRec_of kin hcd) (bind _ _ _ _ ?_)
  refine wpAny_newFunctionEnv_cells S.kind seen ?_
  intro env henv t1 inc
  subst henv
  have body := hb cdv A outer s H E (hr.deeper _)
  have J0 : Inv (Bx P w K mg base N qual (defScope st) f cdv A outer s H E) [] (L2.start N vs) H t1 := inv_start S hr.hd env0 (hlen _ _ _ _ hsp) rel inc
  refine ⟨env0.mod.nolimit.keeps fun b o q => inc.toInCall.keep b o (olds b o q), codeAny_func (wpAny_mono (body.run [] t1 (L2.start N vs) H _ J0 (hs vs H Q E hsp)) ?_ fun _ _ z => z)⟩
  intro fl t2 done
  cases fl with
  | ret u => exact (fun ⟨v, σ', H', J, rv, q⟩ => ⟨v, H', J.os, J.bare, J.base, J.hok, rv, q⟩) done
  | next => exact (fun ⟨σ', H', J, q⟩ => ⟨.non, H', J.os, J.bare, J.base, J.hok, rfl, q⟩) done
  | brk => exact (fun ⟨_, _, _, q⟩ => q.elim) done
  | cont => exact (fun ⟨_, _, _, q⟩ => q.elim) done
/-- what such an __init__ promises -/
def spIn (C : Addr) (f : Str) : Sp := fun vs H Q _ => ∃ (a : Addr) (v : V), vs = [.ref a, v] ∧ H a = some (exo a C none) ∧ ∀ dx, H dx = none → dx ≠ a → Q .non (upd (upd H dx (exd dx [(f, v)])) a (exo a C (some dx)))
theorem fn_einit {qual f n m : Str} {st : Stmt} {fI C : Addr} {fd : FuncData} (F : Fun K "__init__" qual st fI fd) (S : FnScope ["self", n] ["self", n] (defScope st)) (TC : OexC K C) (hno : PySem.W.findIn K (.ref C) f = some none)
    (ok : ∀ (cdv : Value) (A : Around) (outer : List Env) (s : Shared) (H : Hp) (E : XK), PSs (Bx P w K mg base ["self", n] qual (defScope st) fI cdv A outer s H E) (defBody st) (tSeq (tDrop (tVeI K (tCons (tVar 0) (tCons (tC (V.str m)) tNil)))) (tOst K f (tVar 0) (tVar 1)))) :
    FnOk P w K mg base (L2.CX P w) 1 fI fd ["self", n] (spIn C f) := by
  refine fn_mkP (k := 0) F S (fun vs H Q E h => ?_) (fun cdv A outer s H E _ => ok cdv A outer s H E) fun vs H Q E h => ?_
  · obtain ⟨a, v, rfl, _⟩ := h
    rfl
  · obtain ⟨a, v, rfl, h1, h2⟩ := h
    refine ⟨V.ref a, rfl, a, C, [V.str m], rfl, by simp, TC, h1, ?_⟩
    exact ⟨v, rfl, V.ref a, rfl, a, C, rfl, TC, hno, .inl ⟨h1, fun dx n1 n2 => h2 dx n1 n2⟩⟩
end
/-! ### raise C(e), C such a class -/
def dRaiseF (C : Addr) (f : Str) (de : DX) : DS := fun Δ => sbind (de Δ) Δ fun d s => some (.ex ⟨C, [(f, d)]⟩ Δ, s)
/-- what is known of such a class, of its __init__ -/
structure ExcI (X : Cx) (x : Str) (C : Addr) (f n : Str) : Prop where
  oc : OexC X.K C
  gC : X.mg x = some (.ref C)
  fn : ∃ (fI : Addr) (fd : FuncData), PySem.W.findIn X.K (.ref C) "__init__" = some (some (.ref fI)) ∧ PySem.W.typeIn X.K (.ref fI) = some (.type "function") ∧ L2.Binds X.K fd ["self", n] [] ∧ FnOk X.prog X.w X.K X.mg X.base (L2.CX X.prog X.w) 1 fI fd ["self", n] (spIn C f)
theorem upd_del {H : Hp} {a d : Addr} {o1 o2 o3 : HO} (na : H a = none) (ne : d ≠ a) : upd (L2.del (upd (upd H d o1) a o2) a) d o3 = upd H d o3 := by
  funext b
  by_cases h1 : b = d
  · subst h1
    rw [upd_same, upd_same]
  · rw [upd_ne h1, upd_ne h1]
    by_cases h2 : b = a
    · subst h2
      rw [L2.del_same, na]
    · rw [L2.del_ne h2, upd_ne h2, upd_ne h1]
section
variable {X : Cx} {W : WX} {k : Nat}
theorem passes_none : Passes (L2.CX X.prog X.w) X (fun _ _ _ => False) := fun _ _ _ _ _ _ _ h => by
  obtain ⟨_, _, _, _, _, _, _, _, _, _, _, _, z⟩ := h
  exact z.elim
theorem ds_raiseF {x f n : Str} {C : Addr} {e : Expr} {de : DX} {p pos pos2 : Pos} (T : ExcI X x C f n) (hc : X.calm = true) (hr : RoomG (k + 2) X.A) (tk : Takes X W) (he : DE X W e de) (hg : Gl X x := by rfl) (hdb : (x == ("__debug__" : Str)) = false := by decide)
    (hst : starEach [e] X.env = (false, eval e X.env) :: starEach [] X.env := by rfl) : DSt X W (.Raise (some (.Call (.Name x p) [e] [] pos)) none pos2) (dRaiseF C f de) := by
  obtain ⟨fI, fd, i1, i2, i3, i4⟩ := T.fn
  have mk := pmk_oex (pos := pos) (p := p) (e := e) (es := []) (ta := tCons (upE X.K W de) tNil) (dvs := []) (ds := []) T.oc i1 i2 i4 (hr.rm.mono (by omega)) i3 .nil passes_none hg T.gC (pa_cons he pa_nil hst) hdb hst
  refine ps_imp (ps_raise hc tk mk) ?_
  intro D σ H ⟨Δ, φ, s, hσ, hs, h⟩
  refine sbE hσ hs h fun φ1 v H1 d s1 f1 hσ1 hs1 rd h1 => ?_
  refine ⟨by simp, fun a na => ⟨a, v, rfl, upd_same, fun dx n1 n2 => ?_⟩⟩
  have nd : H1 dx = none := by
    rw [upd_ne n2] at n1
    exact n1
  have e1 : upd (upd (upd H1 a (exo a C none)) dx (exd dx [(f, v)])) a (exo a C (some dx)) = upd (upd H1 dx (exd dx [(f, v)])) a (exo a C (some dx)) := by
    funext b
    by_cases h1 : b = a
    · subst h1
      rw [upd_same, upd_same]
    · rw [upd_ne h1, upd_ne h1]
      by_cases h2 : b = dx
      · subst h2
        rw [upd_same, upd_same]
      · rw [upd_ne h2, upd_ne h2, upd_ne h1]
  refine ⟨rfl, dx, [(f, v)], upd_same, by rw [upd_ne n2, upd_same], nd, ?_⟩
  rw [e1, upd_del na n2]
  exact h1 φ1 σ _ (.ref C) (some dx) (fu_new nd) (hs1.new nd) (hσ1.fu (fu_new nd)) ⟨rfl, .inr ⟨dx, [(f, v)], rfl, upd_same, .cons (rd.fu (fu_new nd)) .nil⟩⟩
/-! ### e.f of a caught exception -/
def fFldX (C : Addr) (f : Str) : Op1 := fun x s => match x with
  | .exc c ks ds => if c = C then match (ks.zip ds).lookup f with
    | some d => some (d, s)
    | none => none else none
  | _ => none
/-- the class c's instances have the attribute f in their dict alone -/
structure XfF (K : PySem.W.Frag) (c : Addr) (f : Str) : Prop where
  xf : XfC K c
  no : PySem.W.findIn K (.ref c) f = some none
theorem lookup_rel {φ : List Addr} {H : Hp} {f : Str} {d : D} : ∀ {ks : List Str} {vs : List V} {ds : List D}, Dts X.K φ H vs ds → (ks.zip ds).lookup f = some d → ∃ v, (ks.zip vs).lookup f = some v ∧ Dt X.K φ H v d
  | [], _, _, _, e => by simp at e
  | _ :: _, _, _, .nil, e => by simp at e
  | k :: ks, _, _, .cons (v := v) (vs := vs) (d := d0) (ds := ds) h r, e => by
    rw [List.zip_cons_cons, List.lookup_cons] at e ⊢
    split at e
    · cases e
      exact ⟨v, rfl, h⟩
    · exact lookup_rel r e
theorem pe_fldX {e : Expr} {te : TE} {f : Str} {pos : Pos} (he : PE X e te) (hb : attributeBase e f X.env (eval e X.env) = eval e X.env := by rfl) :
    PE X (.Attribute e f pos) (fun σ H Q => te σ H fun x H1 => ∃ (b c : Addr) (ks : List Str) (vs : List V) (v : V), x = .ref b ∧ ExV H1 b c ks vs ∧ (ks.zip vs).lookup f = some v ∧ XfF X.K c f ∧ Q v H1) := by
  constructor
  intro pins s σ H Q I h
  refine attr_of hb (thn (he.run pins s σ H _ I h) ?_)
  intro u s1 told
  obtain ⟨x, H1, I1, rx, b, c, ks, vs, v, rfl, ⟨_, hv⟩, hl, T, q⟩ := told
  obtain rfl : u = Value.ref b := rx
  rcases hv with ⟨_, rfl⟩ | ⟨dd, h1, h2⟩
  · simp at hl
  · obtain ⟨⟨oe, fl, q1, q2, q3⟩, _⟩ := I1.hok b _ h1
    obtain ⟨mA, hns, hr⟩ := (show ObjOk X.prog X.w H1 s1.heap dd (.xd (ks.zip vs)) from I1.hok dd _ h2)
    obtain ⟨od, ho, look⟩ := lookIn_ns hns
    obtain ⟨w, hw, rw'⟩ := RelO.some_of (v := v) (o := mA f) (by rw [← hl]; exact hr f)
    have J : PySem.W.InstAt s1.heap b oe c (some od) := by
      refine ⟨q1, q2.1, ?_, ?_⟩
      · unfold PySem.W.notCls
        rw [q3]
      · rw [q2.2]
        exact ho
    have own := PySem.W.findObj_own (K := X.K) (od := od) T.xf.hdC T.no rfl (by rw [look, hw])
    exact PySem.HandSPX.exc_get I1.kIn J T.xf.ga T.xf.gg T.xf.exC own (handed_of rw') ⟨v, H1, I1.tok _, rw', q⟩
theorem de_fldX {e : Expr} {dx : DX} {f : Str} {C : Addr} {pos : Pos} (T : XfF X.K C f) (he : DE X W e dx) (hb : attributeBase e f X.env (eval e X.env) = eval e X.env := by rfl) : DE X W (.Attribute e f pos) (dOp1 (fFldX C f) dx) :=
  pe_imp (pe_fldX he hb) fun σ H Q ⟨Δ, φ, s, hσ, hs, h⟩ => upE_bind hσ hs h fun φ1 v H1 x s1 f1 hσ1 hs1 rx h1 => by
    have h2 := PsO.of1 h1
    unfold fFldX at h2
    split at h2
    · rename_i c ks ds
      cases rx
      rename_i b vs hx rs
      split at h2
      · rename_i z
        subst z
        split at h2
        · rename_i d e1
          obtain ⟨w, q1, q2⟩ := lookup_rel rs e1
          exact ⟨b, c, ks, vs, w, rfl, hx, q1, T, h2.ok hs1 q2⟩
        · exact h2.elim
      · exact h2.elim
    · exact h2.elim
end
end DV

set_option maxHeartbeats 2000000
namespace DV
open PySem L2 PyProof.Rows
/-! ### readings that know what lay at the start -/
def upP (K : PySem.W.Frag) (W : WX) (φ0 : List Addr) (H0 : Hp) (de : DX) : TE := fun σ H Q => ∃ Δ φ s, Fu K φ0 φ H0 H ∧ Sg K φ H σ Δ ∧ So K φ H s ∧ Ps K (wAt W σ) (Dt K) φ H (fun _ v H' _ _ => Q v H') (de Δ s)
def upSP (K : PySem.W.Frag) (W : WX) (φ0 : List Addr) (H0 : Hp) (ds : DS) : TS := fun D σ H => ∃ Δ φ s, Fu K φ0 φ H0 H ∧ Sg K φ H σ Δ ∧ So K φ H s ∧ PsS K W D φ H (ds Δ s)
def DEp (X : Cx) (W : WX) (φ0 : List Addr) (H0 : Hp) (e : Expr) (de : DX) : Prop := PE X e (upP X.K W φ0 H0 de)
def DSp (X : Cx) (W : WX) (φ0 : List Addr) (H0 : Hp) (st : Stmt) (ds : DS) : Prop := PS X st (upSP X.K W φ0 H0 ds)
def DSsp (X : Cx) (W : WX) (φ0 : List Addr) (H0 : Hp) (sts : List Stmt) (ds : DS) : Prop := PSs X sts (upSP X.K W φ0 H0 ds)
section
variable {X : Cx} {W : WX} {φ0 : List Addr} {H0 : Hp}
theorem DE.p {e : Expr} {de : DX} (h : DE X W e de) : DEp X W φ0 H0 e de := pe_imp h fun σ H Q ⟨Δ, φ, s, _, a, b, c⟩ => ⟨Δ, φ, s, a, b, c⟩
theorem DSt.p {st : Stmt} {ds : DS} (h : DSt X W st ds) : DSp X W φ0 H0 st ds := ps_imp h fun σ H Q ⟨Δ, φ, s, _, a, b, c⟩ => ⟨Δ, φ, s, a, b, c⟩
theorem DSs.p {sts : List Stmt} {ds : DS} (h : DSs X W sts ds) : DSsp X W φ0 H0 sts ds := pss_imp h fun σ H Q ⟨Δ, φ, s, _, a, b, c⟩ => ⟨Δ, φ, s, a, b, c⟩
theorem seqP {K : PySem.W.Frag} {D : Ends} {a b : DS} {Δ : Dn} {φ : List Addr} {H : Hp} {s : Sto} (f0 : Fu K φ0 φ H0 H) (h : PsS K W D φ H (dSeq a b Δ s)) : PsS K W { D with nx := upSP K W φ0 H0 b D } φ H (a Δ s) := by
  unfold dSeq at h
  cases e : a Δ s with
  | none => rw [e] at h; exact h.elim
  | some p =>
    obtain ⟨q, t⟩ := p
    rw [e] at h
    cases q with
    | nx Δ' => exact fun ψ σ' G f so hg => ⟨Δ', ψ, t, f0.trans f, hg, so, h.shift f⟩
    | rt d => exact h
    | bk d => exact h
    | ct d => exact h
    | ex x d => exact h
theorem dssp_cons {st : Stmt} {rest : List Stmt} {a b : DS} (h1 : DSp X W φ0 H0 st a) (h2 : DSsp X W φ0 H0 rest b) : DSsp X W φ0 H0 (st :: rest) (dSeq a b) :=
  pss_imp (pss_cons h1 h2) fun D σ H ⟨Δ, φ, s, f0, hσ, hs, h⟩ => ⟨Δ, φ, s, f0, hσ, hs, seqP f0 h⟩
theorem dssp_one {st : Stmt} {a : DS} (h1 : DSp X W φ0 H0 st a) : DSsp X W φ0 H0 [st] a := pss_one h1
/-- the first run of two, with what lay at the start -/
theorem sbP {K : PySem.W.Frag} {D : Ends} {φ : List Addr} {H : Hp} {s : Sto} {σ : L2.St} {Δ : Dn} {de : DX} {k : DV.D → Sto → RS} {Q : VK} (f0 : Fu K φ0 φ H0 H) (hσ : Sg K φ H σ Δ) (hs : So K φ H s) (h : PsS K W D φ H (sbind (de Δ) Δ k s))
    (q : ∀ φ1 v H1 d s1, Fu K φ φ1 H H1 → Sg K φ1 H1 σ Δ → So K φ1 H1 s1 → Dt K φ1 H1 v d → PsS K W D φ1 H1 (k d s1) → Q v H1) : upP K W φ0 H0 de σ H Q :=
  ⟨Δ, φ, s, f0, hσ, hs, Ps.mono (fun φ1 v H1 d s1 z => q φ1 v H1 d s1 z.1 (hσ.fu z.1) z.2.1 z.2.2.1 z.2.2.2) (sb hσ h)⟩
theorem dsp_expr {e : Expr} {de : DX} {pos : Pos} (he : DEp X W φ0 H0 e de) (hs : swapsWith e none pos.line X.env = pure false := by rfl) : DSp X W φ0 H0 (.Expr e pos) (dDrop de) :=
  ps_imp (ps_expr he hs) fun D σ H ⟨Δ, φ, s, f0, hσ, hs, h⟩ => sbP f0 hσ hs h fun φ1 v H1 d s1 f1 hσ1 hs1 rd h1 => h1 φ1 _ H1 (Fu.refl _ _) hs1 hσ1
theorem dsp_set {i : Nat} {x : Str} {e : Expr} {de : DX} {pos pos' : Pos} (hN : X.N.Nodup) (he : DEp X W φ0 H0 e de) (hi : X.N[i]? = some x := by rfl) (hx : Loc X.env.scope x := by first | exact Or.inl rfl | exact Or.inr rfl) (hs : swapsWith e (some (.Name x pos')) pos.line X.env = pure false := by rfl)
    (hf : X.fn x = true ∨ X.env.scope.names.lookup x = some .local := by first | exact .inl rfl | exact .inr rfl) : DSp X W φ0 H0 (.Assign [.Name x pos'] e pos) (dAsg de (gN i)) :=
  ps_imp (ps_set hN hi hx he hs hf) fun D σ H ⟨Δ, φ, s, f0, hσ, hs, h⟩ => sbP f0 hσ hs h fun φ1 v H1 d s1 f1 hσ1 hs1 rd h1 => h1 φ1 _ H1 (Fu.refl _ _) hs1 (hσ1.set rd i)
end
section
variable {X : Cx} {W0 : WX} {φ0 : List Addr} {H0 : Hp} {x n m : Str} {cv : Value} {i j : Nat} {body : List Stmt} {p1 p2 p3 np pos pos' : Pos} {db : DS} {L : List Addr}
theorem dsp_tryK (stk : X.stack = X.env :: X.outer) (frm : X.env.frame = some X.env.locals) (nd : X.N.Nodup) (ij : i ≠ j) (hL : ∀ c ∈ L, PySem.W.exmOne X.K (.ref c) cv = some true) (nc : Names X x cv)
    (hb : ∀ (W : WX) (pn : List (Addr × Obj)) (xe : Value → Shared → Prop), Takes (X.tr pn xe) W → PassesOwn (model X.prog X.w) X.A X.env xe → DSsp (X.tr pn xe) W φ0 H0 body db)
    (su : ∀ (e : Addr) (pn : List (Addr × Obj)), DSt (X.suite e pn) (fun _ _ _ _ => False) (.Assign [.Name m p1] (.Name n p2) p3) (dAsg (dVar i) (gN j)))
    (ni : X.N[i]? = some n := by rfl) (nl : X.env.kindOf n = some .local := by rfl) (hex : X.ex = [] := by rfl) :
    DSp X W0 φ0 H0 (.Try body [.ExceptHandler (some (.Name x np)) (some n) [.Assign [.Name m p1] (.Name n p2) p3] pos'] [] [] pos) (dTryK L i j db) := by
  refine ps_imp (ps_try_kept (tb := fun W => upSP X.K W φ0 H0 db) (ts := fun _ _ _ => upS X.K (fun _ _ _ _ => False) (dAsg (dVar i) (gN j))) stk frm nd ni nl nc hex hb (fun e oe cls d pn _ _ => dss_one (su e ((e, oe) :: pn)))) ?_
  intro D σ H ⟨Δ, φ, s, f0, hσ, hs, h⟩
  refine ⟨Δ, φ, s, f0, hσ, hs, ?_⟩
  unfold dTryK at h
  cases r : db Δ s with
  | none => rw [r] at h; exact h.elim
  | some q =>
    obtain ⟨r1, s1⟩ := q
    rw [r] at h
    cases r1 with
    | nx Δ1 => exact h
    | rt d => exact h
    | bk Δ1 => exact h
    | ct Δ1 => exact h
    | ex xx Δ1 =>
      simp only at h
      split at h
      · rename_i hc
        obtain ⟨hc1, hi, hj⟩ := hc
        intro φ1 σ1 H1 c dd f1 so1 sg1 xr
        have hcl := xr.1
        subst hcl
        refine ⟨hL _ hc1, fun e na => ?_⟩
        refine ⟨Δ1.set i (some (.adr e)), φ1, s1, sg1.set (.adr e) i, so1, ?_⟩
        have hv : dAsg (dVar i) (gN j) (Δ1.set i (some (.adr e))) s1 = some (.nx ((Δ1.set i (some (.adr e))).set j (some (.adr e))), s1) := by
          unfold dAsg sbind dVar gN
          rw [List.getElem?_set_self hi]
        rw [hv]
        intro φ2 σ2 H2 f2 so2 sg2 na2
        obtain ⟨vs, ev, rv⟩ := (xr.fu f2).exv na2
        have f3 : Fu X.K φ2 φ2 H2 (upd H2 e (ExK (.ref xx.cls) dd e)) := fu_new na2
        refine h φ2 _ _ ((f1.trans f2).trans f3) (so2.new na2) ⟨?_, fun k d hk => ?_⟩
        · have q := sg2.len
          simp only [List.length_set] at q ⊢
          exact q
        · by_cases ki : k = i
          · subst ki
            rw [List.getElem?_set_self (by simp; exact hi)] at hk
            cases hk
          · rw [List.getElem?_set_ne (fun z => ki z.symm)] at hk ⊢
            by_cases kj : k = j
            · subst kj
              rw [List.getElem?_set_self hj] at hk
              cases hk
              obtain ⟨v, hv1, hv2⟩ := sg2.get k (.adr e) (by rw [List.getElem?_set_self (by simp; exact hj)])
              cases hv2
              exact ⟨.ref e, hv1, .exc ev (rv.fu f3)⟩
            · rw [List.getElem?_set_ne (fun z => kj z.symm)] at hk
              obtain ⟨v, hv1, hv2⟩ := sg2.get k d (by rw [List.getElem?_set_ne (fun z => kj z.symm), List.getElem?_set_ne (fun z => ki z.symm)]; exact hk)
              exact ⟨v, hv1, hv2.fu f3⟩
      · exact h.elim
end
/-! ### the lambda in hand is called -/
/-- work(): its run is wk; the lambda stands at f -/
def dWk (i : Nat) (f : Addr) (wk : M D) : DX := fun Δ s => match Δ[i]? with
  | some (some (.adr g)) => if g = f then wk s else none
  | _ => none
section
variable {X : Cx} {pins : List (Addr × Obj)} {σ : L2.St} {H : Hp} {s : Shared}
/-- the context of the def that got the lambda -/
abbrev Zx (X : Cx) (N : List Str) (qual : Str) (sc : Scope) (g : Addr) (cdv : Value) (s : Shared) (H : Hp) (E : XK) : Cx := Bx X.prog X.w X.K X.mg X.base N qual sc g cdv X.A X.stack s H E
theorem de_act {Ng : List Str} {qg : Str} {sg : Scope} {g f c' : Addr} {cdg pm ctv : Value} {params : Arguments} {body : Expr} {scope : Scope} {k i : Nat} {a : Str} {pn : List (Addr × Obj)} {xe : Value → Shared → Prop} {W : WX} {E : XK} {db : DX} {p1 p2 : Pos} {φ0 : List Addr} {Δ : Dn}
    (I : Inv X pins σ H s) (L : LamX.LamS X.env.scope scope) (hf : s.heap.get? f = some (PySem.W.kla_obj "<lambda>" (X.env.qual ++ "<lambda>") params body scope (cloFrom X.env.cells scope.names []) pm c' ctv)) (hfn : H f = none) (hfr : f ∉ frs X.stack) (hc : H c' = some (LamX.CodeO c' (X.env.qual ++ "<lambda>")))
    (hbind : bindArgs (PySem.W.kla_fn "<lambda>" (X.env.qual ++ "<lambda>") params body scope (cloFrom X.env.cells scope.names []) pm (.ref c') ctv) ⟨[], []⟩ = pure [])
    (tk : Takes ((Zx X Ng qg sg g cdg s H E).tr pn xe) W) (hr : RoomG (k + 1) (Zx X Ng qg sg g cdg s H E).A) (hσ0 : Sg X.K φ0 H σ Δ)
    (hbody : ∀ (s1 : Shared) (HZ : Hp) (E' : XK), RoomG k ((Zx X Ng qg sg g cdg s H E).A.deeper (LamX.lamEnv X scope s1.heap.objs.size f c')) → Takes (LamX.lamCx X (Zx X Ng qg sg g cdg s H E).A (Zx X Ng qg sg g cdg s H E).stack s1 HZ E' scope f c') (EW E') →
      DE (LamX.lamCx X (Zx X Ng qg sg g cdg s H E).A (Zx X Ng qg sg g cdg s H E).stack s1 HZ E' scope f c') (EW E') body db)
    (hN : Ng[i]? = some a := by rfl) (hv : Vis sg a := by first | exact Or.inl rfl | exact Or.inr (Or.inl rfl)) (hd : (a == ("__debug__" : Str)) = false := by decide) (hcd : (a == ("__classdict__" : Str)) = false := by decide) :
    DEp ((Zx X Ng qg sg g cdg s H E).tr pn xe) W φ0 H (.Call (.Name a p1) [] [] p2) (dWk i f (db Δ)) := by
  refine ⟨fun pinsZ sZ σZ HZ Q IZ ⟨ΔZ, φZ, stZ, f0, hσZ, soZ, h⟩ => ?_⟩
  unfold dWk at h
  split at h
  · rename_i g' eΔ
    split at h
    · rename_i eg
      subst eg
      obtain ⟨v0, ev0, rv0⟩ := hσZ.get i _ eΔ
      cases rv0
      refine wpAny_Call_Name_kw (thn ((pe_var (pos := p1) (i := i) hN hv hd hcd).run pinsZ sZ σZ HZ (fun v H1 => v = .ref g' ∧ H1 = HZ) IZ ⟨.ref g', ev0, rfl, rfl⟩) fun u s1 ⟨v, H1, I1, r1, ev, eH⟩ => ?_)
      subst ev eH
      obtain rfl : u = Value.ref g' := r1
      have lies : s1.heap.get? g' = some (PySem.W.kla_obj "<lambda>" (X.env.qual ++ "<lambda>") params body scope (cloFrom X.env.cells scope.names []) pm c' ctv) := I1.base.keep g' _ hf hfn hfr fun z => nomatch (show g' ∈ ([] : List Addr) from z)
      refine PySem.W.callWith_F0 ⟨_, _, _, _, lies⟩ ?_
      have un : Un (frs X.stack) [] H H1 s.heap s1.heap := I1.base
      have hcZ : H1 c' = some (LamX.CodeO c' (X.env.qual ++ "<lambda>")) := f0.ge _ _ hc
      obtain ⟨⟨oc, vs, t, z1, z2, z3⟩, _, _⟩ := I1.hok c' _ hcZ
      have ran : codeAny (model X.prog X.w) (Zx X Ng qg sg g cdg s H E).A (.call (.ref g') ⟨[], []⟩) (CR (L2.CX X.prog X.w) (Zx X Ng qg sg g cdg s H E).stack X.prog X.w H1 s1 Q (WE W σZ)) s1 := by
        refine PySem.W.kla_callFunE hr.rm.depth lies rfl L.co L.gen rfl ⟨c', oc, vs, t, rfl, z1, z2, z3⟩ ?_
        rw [hbind]
        refine wpAny_pure (wpAny_newFunctionEnv (fun y hy => (L.own y hy).2) (fun y hy => absurd hy (by simp)) (fun h₁ hns hsb => ⟨I1.nolimit.fresh _ hsb, ?_⟩) L.kind)
        have kp : ∀ b o, s1.heap.get? b = some o → h₁.get? b = some o := fun b o e => hsb.extBut b o (Nat.ne_of_lt (Heap.lt_size e)) (Heap.get?_push_of_some _ e)
        have J := LamX.lam_start2 (A := (Zx X Ng qg sg g cdg s H E).A) (outer := (Zx X Ng qg sg g cdg s H E).stack) (E := WE W σZ) (f := g') (c' := c') (tk := s1.toks + ([] : List (Str × Value)).length) I L I1.env0 hr.rm.hd un hns kp
        have b := hbody s1 H1 (WE W σZ) (hr.deeper _) (takes_of rfl rfl rfl rfl)
        refine PySem.W.kla_codeExpr (wpAny_mono (b.run [] _ _ H1 Q J ⟨Δ, φZ, stZ, hσ0.fu f0, soZ, h⟩) (fun v s' hq => ?_) fun e s' hq => hq)
        obtain ⟨w', H', J', rv, q⟩ := hq
        exact ⟨w', H', J'.os, J'.bare, J'.base, J'.hok, rv, q⟩
      refine wpAny_call (codeAny_mono ran fun r s2 hq => ?_)
      cases r with
      | error e => exact passAt tk σZ pinsZ H1 s1 e s2 I1 hq
      | ok fl => cases fl with
        | ret u => exact I1.after hq
        | next => exact hq.elim
        | brk => exact hq.elim
        | cont => exact hq.elim
    · exact h.elim
  · exact h.elim
end
end DV

set_option maxHeartbeats 2000000
namespace DV
open PySem L2 PyProof.Rows
/-! ### x(lambda: e) -/
section
variable {K : PySem.W.Frag} {φ : List Addr} {H H' : Hp} {s : Sto}
/-- all but the tables stays -/
theorem fu_ext (e : LamX.ExtN H H') : Fu K φ φ H H' := by
  refine ⟨⟨[], List.append_nil _⟩, fun a xs q => ?_, fun a xs q => ?_, fun a f q => e a _ q fun ps => nofun, fun a f q => e a _ q fun ps => nofun⟩
  · rcases q with (q | ⟨ob, q⟩) | q
    · exact .inl (.inl (e a _ q fun ps => nofun))
    · exact .inl (.inr ⟨ob, e a _ q fun ps => nofun⟩)
    · exact .inr q
  · rcases q with ⟨ob, q⟩ | q
    · exact .inl ⟨ob, e a _ q fun ps => nofun⟩
    · exact .inr q
/-- the tables of the store -/
def tabsOf (s : Sto) : List (Addr × Str) := s.filterMap fun o => match o with
  | .tab P q => some (P, q)
  | _ => none
theorem tabsOf_at {p : Addr × Str} (h : p ∈ tabsOf s) : ∃ n : Nat, s[n]? = some (.tab p.1 p.2) := by
  obtain ⟨o, ho, e⟩ := List.mem_filterMap.mp h
  obtain ⟨n, hn⟩ := List.mem_iff_getElem?.mp ho
  cases o <;> cases e
  exact ⟨n, hn⟩
theorem tabsOf_mem {n : Nat} {P : Addr} {q : Str} (h : s[n]? = some (.tab P q)) : (P, q) ∈ tabsOf s := List.mem_filterMap.mpr ⟨_, List.mem_of_getElem? h, rfl⟩
theorem So.tabs (h : So K φ H s) : LamX.Tabs (tabsOf s) H := fun p hp => by
  obtain ⟨n, hn⟩ := tabsOf_at hp
  obtain ⟨a, _, _, q⟩ := h.ob n _ hn
  exact q
theorem So.tab1 (h : So K φ H s) {n : Nat} {P : Addr} {q : Str} (e : s[n]? = some (.tab P q)) : ∀ p ∈ tabsOf s, p.1 = P → p.2 = q := fun p hp z => by
  obtain ⟨m, hm⟩ := tabsOf_at hp
  obtain ⟨a, ha, ea, _⟩ := h.ob m _ hm
  obtain ⟨b, hb, eb, _⟩ := h.ob n _ e
  have ab : a = b := by rw [ea, eb, z]
  subst ab
  have mn : m = n := (List.getElem?_inj (List.getElem?_eq_some_iff.mp ha).1 h.nd).mp (ha.trans hb.symm)
  subst mn
  rw [e] at hm
  cases hm
  rfl
theorem So.ext (h : So K φ H s) (e : LamX.ExtN H H') (t : LamX.Tabs (tabsOf s) H') : So K φ H' s := ⟨h.len, h.nd, fun n o q => by
  obtain ⟨a, ha, r⟩ := h.ob n o q
  refine ⟨a, ha, ?_⟩
  cases o with
  | lst xs => obtain ⟨vs, z, w⟩ := r; exact ⟨vs, e a _ z fun ps => nofun, w.fu (fu_ext e)⟩
  | ins C fs => obtain ⟨dx, vs, z, w⟩ := r; exact ⟨dx, vs, e a _ z fun ps => nofun, w.fu (fu_ext e)⟩
  | dK kvs => obtain ⟨vs, z, w⟩ := r; exact ⟨vs, e a _ z fun ps => nofun, w.fu (fu_ext e)⟩
  | dT kvs => obtain ⟨vs, z, w⟩ := r; exact ⟨vs, e a _ z fun ps => nofun, w.fu (fu_ext e)⟩
  | tab P q' => exact ⟨r.1, t _ (tabsOf_mem q)⟩⟩
end
/-- x(lambda: e): the table of the def that writes it is the store's first object -/
def dLam (P : Addr) (q : Str) (fM : Addr → M D → M D) (db : DX) : DX := fun Δ s => match (show List DO from s)[0]? with
  | some (DO.tab P' q') => if P' = P ∧ q' = q then fM 0 (db Δ) s else none
  | _ => none
section
variable {X : Cx} {W : WX}
theorem de_lam {x qual a : Str} {st : Stmt} {g c P : Addr} {k : Nat} {fd : FuncData} {Ng : List Str} {params : Arguments} {body : Expr} {scope : Scope} {p lpos pos : Pos} {b : Addr → M D → DS} {fM : Addr → M D → M D} {db : DX}
    (hM : ∀ f wk, fM f wk = runFn Ng.length (b f wk) [.adr f]) (hi : ∀ f wk s, fM f wk s = fM 0 wk s)
    (hm : X.mg x = some (.ref g)) (hk : PySem.W.keepIn X.K (.ref g) = true) (F : Fun X.K x qual st g fd) (S : FnScope Ng [a] (defScope st)) (hb : Binds X.K fd [a] []) (hr : RoomG (k + 2) X.A) (tk : Takes X W)
    (TB : LamX.TabB X.base X.mg c P) (hcode : X.env.code = .ref c) (L : LamX.LamS X.env.scope scope) (hdef : defaultsOf params X.env = ([], []))
    (hbind : ∀ (q : Str) (cl : List (Str × Addr)) (pm cv ctv : Value), bindArgs (PySem.W.kla_fn "<lambda>" q params body scope cl pm cv ctv) ⟨[], []⟩ = pure [])
    (hcal : ∀ (cdv : Value) (f : Addr) (wk : M D) (s : Shared) (H : Hp) (E : XK) (φ0 : List Addr), RoomG (k + 1) (Zx X Ng qual (defScope st) g cdv s H E).A → Takes (Zx X Ng qual (defScope st) g cdv s H E) (EW E) →
      PassesOwn (model X.prog X.w) (Zx X Ng qual (defScope st) g cdv s H E).A (Zx X Ng qual (defScope st) g cdv s H E).env (Zx X Ng qual (defScope st) g cdv s H E).xe →
      (∀ (W' : WX) (pn : List (Addr × Obj)) (xe : Value → Shared → Prop) (p1 p2 : Pos), Takes ((Zx X Ng qual (defScope st) g cdv s H E).tr pn xe) W' → DEp ((Zx X Ng qual (defScope st) g cdv s H E).tr pn xe) W' φ0 H (.Call (.Name a p1) [] [] p2) (dWk 0 f wk)) →
      DSsp (Zx X Ng qual (defScope st) g cdv s H E) (EW E) φ0 H (defBody st) (b f wk))
    (hbody : ∀ (A : Around) (outer : List Env) (s : Shared) (H : Hp) (E : XK) (f c' : Addr), RoomG k (A.deeper (LamX.lamEnv X scope s.heap.objs.size f c')) → Takes (LamX.lamCx X A outer s H E scope f c') (EW E) → DE (LamX.lamCx X A outer s H E scope f c') (EW E) body db)
    (ha0 : Ng[0]? = some a := by rfl) (hva : Vis (defScope st) a := by first | exact Or.inl rfl | exact Or.inr (Or.inl rfl)) (hg : Gl X x := by rfl)
    (hdb : (x == ("__debug__" : Str)) = false := by decide) (hda : (a == ("__debug__" : Str)) = false := by decide) (hca : (a == ("__classdict__" : Str)) = false := by decide) :
    DE X W (.Call (.Name x p) [.Lambda params body scope lpos] [] pos) (dLam P (X.env.qual ++ "<lambda>") fM db) := by
  refine ⟨fun pins s σ H Q I ⟨Δ, φ, stt, hσ, hs, h⟩ => ?_⟩
  unfold dLam at h
  split at h
  · rename_i P' q' e0
    split at h
    · rename_i ePq
      obtain ⟨eP, eq⟩ := ePq
      subst eP eq
      refine wpAny_Call_Name_kw (ld_glob I hg hm ?_ hdb)
      refine PySem.W.callWith_K (h₀ := X.base) I.ok.mod.kin hk ?_ (by rfl) (by rfl)
      refine Calls.spliced_cons (LamX.lam_make2 (T := tabsOf stt) I TB hcode (tabsOf_mem e0) (hs.tab1 e0) hs.tabs hdef (L.has I.ok) fun f c' pm' ctv H1 s1 I1 eN T1 hf hfn hfr hco => ?_)
      refine Calls.spliced_nil ⟨I1.kIn, ?_⟩
      have f1 : Fu X.K φ φ H H1 := fu_ext eN
      have so1 : So X.K φ H1 stt := hs.ext eN T1
      have sg1 : Sg X.K φ H1 σ Δ := hσ.fu f1
      have h1 : Ps X.K (wAt W σ) (Dt X.K) φ H1 (fun _ v H' _ _ => Q v H') (fM f (db Δ) stt) := by
        rw [hi]
        exact h.shift f1
      have ran : codeAny (model X.prog X.w) X.A (.call (.ref g) ⟨[.ref f], []⟩) (CR (L2.CX X.prog X.w) X.stack X.prog X.w H1 s1 Q (WE W σ)) s1 := by
        obtain ⟨oc, od, kV, doc, pm, an, cdv, ct, osl, rfl, lk, hcd⟩ := F.ex
        have env0 := I1.env0
        have kin := I1.kIn
        have bind := hb s1 [.ref f] kin rfl
        have par : ∀ y ∈ [a].zip [Value.ref f], (defScope st).names.lookup y.1 = some .local ∨ ((defScope st).names.lookup y.1 = some .cell ∧ ((cellsFrom (s1.heap.objs.size + 1) (defScope st).names []).lookup y.1).isSome = true) := fun y hy => by
          rcases S.par y.1 (List.of_mem_zip (a := y.1) (b := y.2) hy).1 with q | q
          · exact Or.inl q
          · exact Or.inr (And.intro q (PySem.W.cellsFrom_some _ _ _ (Or.inl q)))
        refine codeAny_call_function hr.rm.depth (kin _ _ lk) rfl S.co S.gen rfl (PySem.W.codeRec_of kin hcd) (bind _ _ _ _ ?_)
        refine wpAny_newFunctionEnv_cells S.kind par fun env henv t1 inc => ?_
        subst henv
        have hr1 : RoomG (k + 1) (Zx X Ng qual (defScope st) g cdv s1 H1 (WE W σ)).A := hr.deeper _
        have cal := hcal cdv f (db Δ) s1 H1 (WE W σ) φ hr1 (takes_of rfl rfl rfl rfl) (passes_of rfl) fun W' pn xe p1 p2 tk' =>
          de_act I1 L hf hfn hfr hco (hbind _ _ _ _ _) tk' hr1 sg1 (fun s2 HZ E' r2 t2 => hbody _ _ s2 HZ E' f c' r2 t2) ha0 hva hda hca
        have J0 : Inv (Zx X Ng qual (defScope st) g cdv s1 H1 (WE W σ)) [] (L2.start Ng [.ref f]) H1 t1 := inv_start (us := [.ref f]) S hr.rm.hd env0 rfl (.cons rfl .nil) inc
        have start : upSP X.K (EW (WE W σ)) φ H1 (b f (db Δ)) { nx := fun _ H' => Q .non H', rt := Q } (L2.start Ng [.ref f]) H1 := by
          refine ⟨startD Ng.length [.adr f], φ, stt, Fu.refl _ _, Sg.start (.cons (.adr f) .nil), so1, ?_⟩
          rw [hM] at h1
          unfold runFn at h1
          cases e : b f (db Δ) (startD Ng.length [.adr f]) stt with
          | none => rw [e] at h1; exact h1.elim
          | some pr =>
            obtain ⟨q, s'⟩ := pr
            rw [e] at h1
            cases q with
            | rt d => exact h1
            | nx Δ => exact fun ψ σ' H' g so' _ => h1 ψ .non H' g so' .non
            | ex x Δ => exact fun ψ σ' H' c dd g so' _ xr => h1 ψ H' c dd g so' xr
            | bk Δ => exact h1.elim
            | ct Δ => exact h1.elim
        have ends : ∀ {σ' : L2.St} {H' : Hp} {v : V} {u : Value} {t2 : Shared}, Inv (Zx X Ng qual (defScope st) g cdv s1 H1 (WE W σ)) [] σ' H' t2 → RelV v u → Q v H' → CE X.stack X.prog X.w H1 s1 Q u t2 := fun {σ' H' v u t2} J rv q => ⟨v, H', J.os, J.bare, J.base, J.hok, rv, q⟩
        refine ⟨env0.mod.nolimit.keeps fun d u e => inc.toInCall.keep d u (env0.bs d u e).1, codeAny_func (wpAny_mono (cal.run [] t1 (L2.start Ng [.ref f]) H1 _ J0 start) (fun fl t2 hs => ?_) fun _ _ hs => hs)⟩
        cases fl with
        | ret u => obtain ⟨v, σ', H', J, rv, q⟩ := hs; exact ends J rv q
        | next => obtain ⟨σ', H', J, q⟩ := hs; exact ends (v := V.non) (u := Value.none) J rfl q
        | brk => obtain ⟨_, _, _, q⟩ := hs; exact q.elim
        | cont => obtain ⟨_, _, _, q⟩ := hs; exact q.elim
      refine wpAny_call (codeAny_mono ran fun r s2 hq => ?_)
      cases r with
      | error e => exact passAt tk σ pins H1 s1 e s2 I1 hq
      | ok fl => cases fl with
        | ret u => exact I1.after hq
        | next => exact hq.elim
        | brk => exact hq.elim
        | cont => exact hq.elim
    · exact h.elim
  · exact h.elim
end
end DV

set_option maxHeartbeats 2000000
namespace DV
open PySem L2 PyProof.Rows
/-! ### repr of an empty dict -/
section
variable {X : Cx}
def fRepr0 : OpN := fun xs s => match xs with
  | [.obj n] => match s[n]? with
    | some (.dK []) => some (.str "{}", s)
    | _ => none
  | _ => none
def rRepr0 : List V → Hp → VK → Prop := fun vs H Q => ∃ a, vs = [.ref a] ∧ H a = some (.dK []) ∧ Q (.str "{}") H
theorem cr_repr0 (hg : X.A.guards = some []) (hu : X.A.units + 66 < cLine) : CallR X (.builtin "repr") rRepr0 := by
  intro pins s σ H vs us Q I r h
  obtain ⟨a, rfl, ha, q⟩ := h
  obtain ⟨u, rfl, rv⟩ := vals1 r
  obtain rfl : u = Value.ref a := rv
  obtain ⟨_, nsys, ws, kv, o, es, ep, h1, hex, h2, h3, h4, h5⟩ := (show ObjOk X.prog X.w H s.heap a (.dK []) from I.hok a _ ha)
  have hcl : o.cls = .type "dict" := hex.1
  cases kv
  have hes : es.toList = [] := by
    cases e : es.toList with
    | nil => rfl
    | cons x r => rw [e] at h4; cases h4
  have rd : Reads s.heap (.ref a) (.dict []) ([a] ++ []) := .dict h1 hcl h2 (by rw [hes]; exact .nil) (by rw [hes]; exact .nil)
  have hdep : (PyData.dict []).depth = 1 := by decide +kernel
  have hlen : (PyData.dict []).shown = "{}" := by decide +kernel
  refine repr_of_reads' rd (by decide +kernel) (fun _ z => ?_) hg (by rw [hdep]; omega) (fun _ _ e => e) (fun h' t tk hk => ⟨.str _, H, I.kept hk, ⟨_, by rw [hlen]⟩, q⟩) (by rw [hlen]; decide +kernel)
  have z' : sysModules = a := by simpa using z
  rw [← z'] at nsys
  simp at nsys
theorem dc_repr0 (hg : X.A.guards = some []) (hu : X.A.units + 66 < cLine) : DCall X (.builtin "repr") fRepr0 := ⟨_, cr_repr0 hg hu, fun φ H s vs ds Q so rx p => by
  unfold fRepr0 at p
  split at p
  · rename_i n
    obtain ⟨v, rfl, r⟩ := dts1 rx
    cases r
    rename_i a ha
    split at p
    · rename_i e
      obtain ⟨b, hb, ws, k, rr⟩ := so.at e
      rw [ha] at hb
      cases hb
      cases rr
      exact ⟨a, rfl, k, p.ok so (.str _)⟩
    · exact p.elim
  · exact p.elim⟩
end
/-! ### a def whose code object is known -/
section
variable {P : Program} {w : World} {K : PySem.W.Frag} {mg : Str → Option Value} {base : Heap}
theorem fn_mkC {x qual : Str} {st : Stmt} {f : Addr} {fd : FuncData} {N ps : List Str} {k n : Nat} {b : DS} {M : FnD} {cv : Value} (hM : M = runFn n b) (hn : N.length = n) (F : Fun K x qual st f fd) (S : FnScope N ps (defScope st)) (hcv : fd.code = cv)
    (hb : ∀ (A : Around) (outer : List Env) (s : Shared) (H : Hp) (E : XK), RoomG k (Bx P w K mg base N qual (defScope st) f cv A outer s H E).A → Takes (Bx P w K mg base N qual (defScope st) f cv A outer s H E) (EW E) →
      PassesOwn (model P w) (Bx P w K mg base N qual (defScope st) f cv A outer s H E).A (Bx P w K mg base N qual (defScope st) f cv A outer s H E).env (Bx P w K mg base N qual (defScope st) f cv A outer s H E).xe →
      DSs (Bx P w K mg base N qual (defScope st) f cv A outer s H E) (EW E) (defBody st) b) : FnG P w K mg base (k + 1) f fd ps M := by
  subst hM hn
  refine ⟨fun A outer s H args us vs Q E hr env0 bind rel hsp => ?_⟩
  obtain ⟨hl, ds, φ, st', rd, so, h⟩ := hsp
  obtain ⟨oc, od, kV, doc, pm, an, cdv, ct, osl, rfl, lk, hcd⟩ := F.ex
  obtain rfl : cdv = cv := hcv
  have old : ∀ (a : Addr) (u : Obj), base.get? a = some u → s.heap.get? a = some u := fun a u e => (env0.bs a u e).1
  have kin := env0.mod.kin.keeps old
  have par : ∀ y ∈ ps.zip us, (defScope st).names.lookup y.1 = some .local ∨ ((defScope st).names.lookup y.1 = some .cell ∧ ((cellsFrom (s.heap.objs.size + 1) (defScope st).names []).lookup y.1).isSome = true) := fun y hy => by
    rcases S.par y.1 (List.of_mem_zip (a := y.1) (b := y.2) hy).1 with q | q
    · exact Or.inl q
    · exact Or.inr (And.intro q (PySem.W.cellsFrom_some _ _ _ (Or.inl q)))
  refine codeAny_call_function hr.rm.depth (kin _ _ lk) rfl S.co S.gen rfl (PySem.W.codeRec_of kin hcd) (bind _ _ _ _ ?_)
  refine wpAny_newFunctionEnv_cells S.kind par fun env henv t1 inc => ?_
  subst henv
  have body := hb A outer s H E (hr.deeper _) (takes_of rfl rfl rfl rfl) (passes_of rfl)
  have J0 : Inv (Bx P w K mg base N qual (defScope st) f cdv A outer s H E) [] (L2.start N vs) H t1 := inv_start S hr.rm.hd env0 hl rel inc
  have start : upS K (EW E) b { nx := fun _ H' => Q .non H', rt := Q } (L2.start N vs) H := by
    refine ⟨startD N.length ds, φ, st', Sg.start rd, so, ?_⟩
    unfold runFn at h
    cases e : b (startD N.length ds) st' with
    | none => rw [e] at h; exact h.elim
    | some p =>
      obtain ⟨q, s'⟩ := p
      rw [e] at h
      cases q with
      | rt d => exact h
      | nx Δ => exact fun ψ σ' H' g so' _ => h ψ .non H' g so' .non
      | ex x Δ => exact fun ψ σ' H' c dd g so' _ xr => h ψ H' c dd g so' xr
      | bk Δ => exact h.elim
      | ct Δ => exact h.elim
  have ends : ∀ {σ' : L2.St} {H' : Hp} {v : V} {u : Value} {t2 : Shared}, Inv (Bx P w K mg base N qual (defScope st) f cdv A outer s H E) [] σ' H' t2 → RelV v u → Q v H' → CE outer P w H s Q u t2 := fun {σ' H' v u t2} J rv q => ⟨v, H', J.os, J.bare, J.base, J.hok, rv, q⟩
  refine ⟨env0.mod.nolimit.keeps fun a u e => inc.toInCall.keep a u (old a u e), codeAny_func (wpAny_mono (body.run [] t1 (L2.start N vs) H _ J0 start) (fun fl t2 hs => ?_) fun _ _ hs => hs)⟩
  cases fl with
  | ret u => obtain ⟨v, σ', H', J, rv, q⟩ := hs; exact ends J rv q
  | next => obtain ⟨σ', H', J, q⟩ := hs; exact ends (v := V.non) (u := Value.none) J rfl q
  | brk => obtain ⟨_, _, _, q⟩ := hs; exact q.elim
  | cont => obtain ⟨_, _, _, q⟩ := hs; exact q.elim
end
/-! ### the end of a law that holds lambdas: its table is the store's first object -/
/-- the run over the data says True for every script -/
def AllTrueT (P : Addr) (q : Str) (fM : FnD) : Prop := ∀ ns : List Int, ns.length ≤ 63 → ∃ s, fM [.fz (ns.map .int)] [.tab P q] = some (.ok (.bl true), s)
theorem So.oneTab {K : PySem.W.Frag} {H : Hp} {P : Addr} {q : Str} (h : LamX.TabS H P q) : So K [P] H [.tab P q] := by
  refine ⟨rfl, by simp, fun n o e => ?_⟩
  have hn : n = 0 := by
    have := (List.getElem?_eq_some_iff.mp e).1
    simpa using this
  subst hn
  cases e
  exact ⟨P, rfl, rfl, h⟩
/-- the law's call at the top, from its run over the data; c its code object, p the table of that -/
theorem law_topT {P : Program} {w : World} {K : PySem.W.Frag} {mg mb : Str → Option Value} {k : Nat} {fa a c p : Addr} {q : Str} {fd : FuncData} {x : Str} {fM : FnD} {t : Shared} {vs : List Value} {ns : List Int} (inK : K.In t.heap) (nsM : t.heap.Ns mainGlobals mg) (nsB : t.heap.Ns builtinsNs mb)
    (boot : ∀ y : Str, y ≠ "__name__" → mb y = bootBuiltins y) (lim : t.heap.NoLimit) (noG : t.gens = #[]) (tabP : t.heap.get? p = some { cls := .none, data := .fields #[] }) (noK : K.lookup p = none) (hd : PySem.W.CodeHd t.heap c p)
    (bm : ∃ (m : Addr) (o : Obj), mg "__builtins__" = some (.ref m) ∧ m ≠ builtinsNs ∧ t.heap.get? m = some o ∧ o.cls = .type "module" ∧ o.dict = some builtinsNs ∧ o.data = .plain)
    (script : t.heap.get? a = some { cls := .type "list", data := .seq vs.toArray }) (hints : IntsAre vs ns) (h63 : ns.length ≤ 63) (hr : RoomG k callerA)
    (F : ∀ base : Heap, K.In base → base.Ns mainGlobals mg → LamX.TabB base mg c p → FnG P w K mg base k fa fd [x] fM) (bind : ∀ (s : Shared) (u : Value), BindsTo s fd ⟨[u], []⟩ [(x, u)]) (hT : AllTrueT p q fM) :
    codeAny (model P w) callerA (.call (.ref fa) ⟨[.ref a], []⟩) (fun r t2 => r = .ok (.ret (.bool true)) ∧ OldK t.heap t2.heap ∧ t2.os = t.os ∧ AllBare t2.gens) t := by
  have vals := vals_ints hints
  have small : ns.length ≤ sizeLine := Nat.le_of_lt (small1000 (by omega))
  have ap : p ≠ a := fun z => by
    rw [z, script] at tabP
    cases tabP
  -- H tracks the table, and the script at most
  have run : ∀ H : Hp, H p = some (.tbl #[]) → (∀ b, b ≠ p → H b = none ∨ ∃ ob xs, H b = some (.frz ob (.lst xs))) → FzL K H a (ns.map V.int) → HOk P w H t.heap → (∀ b, H b ≠ none → b = a ∨ b = p) → (H a ≠ none → K.lookup a = none) →
      codeAny (model P w) callerA (.call (.ref fa) ⟨[.ref a], []⟩) (fun r t2 => r = .ok (.ret (.bool true)) ∧ OldK t.heap t2.heap ∧ t2.os = t.os ∧ AllBare t2.gens) t := fun H hp only fz hok alone free => by
    have untracked : ∀ {b : Addr} {o : Obj}, t.heap.get? b = some o → b ≠ p → (b = a → H a = none) → (hidT t.heap H).get? b = some o := fun {b o} e m n => hidT_get e (by
      cases q : H b with
      | none => rfl
      | some u =>
        rcases alone b (by rw [q]; simp) with z | z
        · rw [z] at q
          rw [n z] at q
          cases q
        · exact absurd z m)
    have plain : ∀ {b : Addr} {o : Obj}, t.heap.get? b = some o → (∀ us n, o.data ≠ .seq us n) → o.data ≠ .fields #[] → (hidT t.heap H).get? b = some o := fun {b o} e n1 n2 => untracked e (fun z => by
      subst z
      rw [tabP] at e
      cases e
      exact n2 rfl) fun z => by
      subst z
      rw [script] at e
      cases e
      exact (n1 _ _ rfl).elim
    have dicts : ∀ {b : Addr} {m : Str → Option Value}, t.heap.Ns b m → (hidT t.heap H).Ns b m := fun {b m} ⟨o, es, ep, e, d, r⟩ => ⟨o, es, ep, plain e (fun us n z => by rw [d] at z; cases z) (fun z => by rw [d] at z; cases z), d, r⟩
    have inB : K.In (hidT t.heap H) := fun b o e => untracked (inK b o e) (fun z => by
      subst z
      rw [noK] at e
      cases e) (fun z => by
      subst z
      cases q : H b with
      | none => rfl
      | some u => rw [free (by rw [q]; simp)] at e; cases e)
    obtain ⟨ml, l1, l2⟩ := lim
    have md : Mod K mg (hidT t.heap H) := ⟨inB, dicts nsM, ⟨mb, dicts nsB, boot⟩, ⟨ml, dicts l1, l2⟩⟩
    have TB : LamX.TabB (hidT t.heap H) mg c p := by
      refine ⟨?_, ?_, fun z => ?_⟩
      · obtain ⟨o, us, file, tf, flags, tg, inF, text, tt, e, c1, c2, c3, c4, c5, c6, c7, c8, c9⟩ := hd
        refine ⟨o, us, file, tf, flags, tg, inF, text, tt, plain e (fun vs n z => ?_) (fun z => ?_), c1, c2, c3, c4, c5, c6, c7, c8, c9⟩
        · rw [c2] at z
          cases z
        · rw [c2] at z
          cases z
          simp at c3
      · obtain ⟨m, o, b1, b2, b3, b4, b5, b6⟩ := bm
        refine ⟨m, o, b1, b2, fun z => ?_, fun z => ?_, plain b3 (fun vs n z => ?_) (fun z => ?_), b4, b5, b6⟩
        · obtain ⟨o', es, ep, e, hd, _⟩ := nsM
          rw [z, e] at b3
          cases b3
          rw [hd] at b6
          cases b6
        · rw [z, tabP] at b3
          cases b3
          cases b6
        · rw [b6] at z
          cases z
        · rw [b6] at z
          cases z
      · obtain ⟨o', es, ep, e, hd, _⟩ := nsM
        rw [z, tabP] at e
        cases e
        cases hd
    have env0 : Env0 P w K mg (hidT t.heap H) callerA [] t H := ⟨rfl, md, fun b o e => of_hidT e, Nat.le_of_eq (hidT_size _ _), trivial, fun b hb => absurd hb (by simp [frs]), hok, .of_eq noG⟩
    obtain ⟨s', hs⟩ := hT ns h63
    have sp : spD K 1 fM [.ref a] H (fun v _ => v = .bl true) fun _ _ _ => False := by
      refine ⟨rfl, [.fz (ns.map .int)], [p], [.tab p q], .cons (.fz fz (Dts.of_ints ns)) .nil, So.oneTab (LamX.TabS.nil hp), ?_⟩
      rw [hs]
      intro φ v H' _ _ rv
      cases rv
      rfl
    refine codeAny_mono ((F _ inB (dicts nsM) TB).run callerA [] t H ⟨[.ref a], []⟩ [.ref a] [.ref a] (fun v _ => v = .bl true) (fun _ _ _ => False) hr env0 (bind t (.ref a)) (.cons rfl .nil) sp) fun r t2 h => ?_
    cases r with
    | error e => exact (no_exc h).elim
    | ok fl => cases fl with
      | next => exact h.elim
      | brk => exact h.elim
      | cont => exact h.elim
      | ret u =>
        obtain ⟨v, H', os, bare, un, hok', rv, ev⟩ := h
        have ev' : v = .bl true := ev
        subst ev'
        obtain rfl : u = Value.bool true := rv
        obtain ⟨more, hm⟩ := un.tbls p #[] hp
        have now : t2.heap.get? p = some { cls := .none, data := .fields more } := by
          have z := hok' p _ hm
          rw [Array.empty_append] at z
          exact z
        have kept : ∀ b o, b ≠ p → t.heap.get? b = some o → t2.heap.get? b = some o := fun b o np e => by
          rcases only b np with z | ⟨ob, xs, z⟩
          · exact un.keep b o e z (fun y => absurd y (by simp [frs])) (by simp)
          · obtain ⟨e1, _⟩ := hok b _ z
            obtain ⟨e2, _⟩ := hok' b _ (un.frzs b ob _ z)
            rw [e] at e1
            cases e1
            exact e2
        refine ⟨rfl, ⟨fun b o e => ?_, fun b o e => ?_⟩, os, bare⟩
        · by_cases hb : b = p
          · subst hb
            rw [tabP] at e
            cases e
            exact .inr (.inl ⟨(hd.tab tabP).isCodeTable, rfl, #[], more, rfl, by rw [Array.empty_append]; exact now⟩)
          · exact .inl (kept b o hb e)
        · by_cases hb : b = p
          · subst hb
            exact ⟨_, now⟩
          · exact ⟨o, kept b o hb e⟩
  cases lk : K.lookup a with
  | some o =>
    have e := inK a o lk
    rw [script] at e
    cases e
    refine run (fun b => if b = p then some (.tbl #[]) else none) (if_pos rfl) (fun b n => .inl (if_neg n)) (.inr (.inr ⟨_, vs.toArray, _, lk, rfl, rfl, rfl, by rw [List.size_toArray, hints.length]; exact small, by simpa using vals⟩)) (fun b u z => ?_) (fun b z => ?_) fun z => absurd (if_neg ap.symm) z
    · by_cases hb : b = p
      · subst hb
        cases (if_pos rfl).symm.trans z
        exact tabP
      · cases (if_neg hb).symm.trans z
    · by_cases hb : b = p
      · exact .inr hb
      · exact absurd (if_neg hb) z
  | none =>
    refine run (fun b => if b = a then some (.frz { cls := .type "list", data := .seq vs.toArray } (.lst (ns.map V.int))) else if b = p then some (.tbl #[]) else none) ((if_neg ap).trans (if_pos rfl)) (fun b n => ?_) (.inl ⟨_, if_pos rfl⟩) (fun b u z => ?_) (fun b z => ?_) fun _ => lk
    · by_cases hb : b = a
      · exact .inr ⟨_, _, if_pos hb⟩
      · exact .inl ((if_neg hb).trans (if_neg n))
    · by_cases hb : b = a
      · subst hb
        cases (if_pos rfl).symm.trans z
        exact ⟨script, by rw [List.length_map]; exact small, vs, _, vals, script⟩
      · have z1 := (if_neg hb).symm.trans z
        by_cases hb2 : b = p
        · subst hb2
          cases (if_pos rfl).symm.trans z1
          exact tabP
        · cases (if_neg hb2).symm.trans z1
    · by_cases hb : b = a
      · exact .inl hb
      · by_cases hb2 : b = p
        · exact .inr hb2
        · exact absurd ((if_neg hb).trans (if_neg hb2)) z
/-- the goal at the law's head -/
theorem walk_topT {l : PySem.W.OpenLaw} {k : Nat} {q : Program} {loose : List Str} {XP : (Str → Option Value) → Heap → Prop} {YP : World → Heap → Prop} {d : DefRec} {K : Params → PySem.W.Frag} {x : Str} (hn : l.most = some 63) (hdf : d.params.defaults = []) (hr : RoomG k callerA)
    (hrec : ((recsOf q).any fun e => e.name == d.name) = true) (hY : ∀ (w : World) (h : Heap), YP w h → (K w.params).In h)
    (F : ∀ (w : World) (mg : Str → Option Value) (fa : Addr) (h : Heap), (K w.params).In h → h.Ns mainGlobals mg → mg d.name = some (.ref fa) → LamX.OwnTab (K w.params) fa h →
      ∃ (fd : FuncData) (fM : FnD) (c p : Addr) (lq : Str), AllTrueT p lq fM ∧ (∀ (s : Shared) (u : Value), BindsTo s fd ⟨[u], []⟩ [(x, u)]) ∧ h.get? p = some { cls := .none, data := .fields #[] } ∧ (K w.params).lookup p = none ∧ PySem.W.CodeHd h c p ∧
        ∀ base : Heap, (K w.params).In base → base.Ns mainGlobals mg → LamX.TabB base mg c p → FnG l.prog w (K w.params) mg base k fa fd [x] fM) :
    PySem.W.WalkO q loose XP YP l.row.toRowW d [] (fun f vs => PySem.call f vs) := by
  refine Att.attach_call hn hdf fun w s₀ t mg mb fa o pm cd doc a vs ns G Y _ _ _ hmg hobj hints hlen noG => ?_
  have inK := hY w _ Y
  have own : LamX.OwnTab (K w.params) fa t.heap := by
    intro c P o1 fd1 e dd us sl k1 k2 k3 k4 k5
    obtain ⟨r, r1, r2⟩ := List.any_eq_true.mp hrec
    obtain ⟨a1, o2, fd2, c2, p2, g1, g2, g3, g4, g5, g6⟩ := G.T.tab r r1
    rw [beq_iff_eq.mp r2, hmg] at g1
    cases g1
    rw [inK _ _ k1] at g2
    cases g2
    rw [k2] at g3
    cases g3
    rw [k3] at g4
    cases g4
    obtain ⟨⟨oc, vc, e1, _, e3, e4⟩, hP⟩ := g6
    rw [inK _ _ k4] at e1
    cases e1
    cases e3
    rw [k5] at e4
    cases e4
    exact hP
  obtain ⟨fd, fM, c, p, lq, hT, hbd, tabP, noK, hd, hF⟩ := F w mg fa _ inK G.T.g hmg own
  exact law_topT inK G.T.g G.T.b G.T.builtins G.T.nolimit noG tabP noK hd G.T.bmain hobj hints hlen hr hF hbd hT
end DV

namespace DV
open PySem L2 PyProof.Rows
/-! ### a def that gets a lambda does not look at it -/
def finS : RS → Rs D
  | some (.rt d, s') => some (.ok d, s')
  | some (.nx _, s') => some (.ok .non, s')
  | some (.ex x _, s') => some (.error x, s')
  | _ => none
theorem runFn_fin (n : Nat) (b : DS) (args : List D) (s : Sto) : runFn n b args s = finS (b (startD n args) s) := by
  unfold runFn finS
  cases b (startD n args) s with
  | none => rfl
  | some p =>
    obtain ⟨q, s'⟩ := p
    cases q <;> rfl
theorem fin_ret {de : DX} {Δ Δ' : Dn} {s : Sto} (h : de Δ = de Δ') : finS (dRet de Δ s) = finS (dRet de Δ' s) := by
  unfold dRet sbind
  rw [h]
  cases de Δ' s with
  | none => rfl
  | some p =>
    obtain ⟨q, s'⟩ := p
    cases q <;> rfl
/-- if t: return e, then b -/
theorem fin_ifret {t : DT} {de : DX} {b : DS} {Δ Δ' : Dn} {s : Sto} (ht : t Δ = t Δ') (h : de Δ = de Δ') (hb : ∀ s, finS (b Δ s) = finS (b Δ' s)) : finS (dSeq (dIfS t (dRet de) dNx) b Δ s) = finS (dSeq (dIfS t (dRet de) dNx) b Δ' s) := by
  unfold dSeq dIfS sbind dRet sbind dNx
  rw [ht, h]
  cases t Δ' s with
  | none => rfl
  | some p =>
    obtain ⟨q, s'⟩ := p
    cases q with
    | error x => rfl
    | ok c =>
      cases c with
      | false => exact hb s'
      | true =>
        dsimp only
        rw [if_pos rfl, if_pos rfl]
        cases de Δ' s' with
        | none => rfl
        | some p =>
          obtain ⟨q, s2⟩ := p
          cases q <;> rfl
end DV

set_option maxHeartbeats 2000000
namespace DV
open PySem L2 PyProof.Rows
/-! ### a short text times a number -/
def fRepS : Op2 := fun x y s => match x, y with
  | .str z, .int k => if z.length ≤ 16 ∧ -(2 ^ 63) ≤ k ∧ k ≤ 1048576 then some (.str (Txt.mul z k), s) else none
  | _, _ => none
def rRepS : R2 := fun x y H Q => ∃ (z : Str) (k : Int), x = .str z ∧ y = .int k ∧ z.length ≤ 16 ∧ -(2 ^ 63) ≤ k ∧ k ≤ 1048576 ∧ Q (.str (Txt.mul z k)) H
section
variable {X : Cx}
theorem op_repS : OpR X (binaryOp .Mult) rRepS := by
  intro pins s σ H x y v u Q I rx ry h
  obtain ⟨z, k, rfl, rfl, h1, h2, h3, q⟩ := h
  obtain ⟨t, rfl⟩ := rx
  obtain ⟨t', rfl⟩ := ry
  exact PySem.W.KXi.mul rfl h1 h2 h3 fun tt m _ _ => ⟨.str _, H, I.tok _, ⟨_, rfl⟩, q⟩
theorem dop_repS : DOp X (binaryOp .Mult) fRepS := ⟨_, op_repS, fun φ H s x y v u Q so rx ry p => by
  cases rx <;> cases ry <;> first | exact p.elim | skip
  rename_i z k
  simp only [fRepS] at p
  split at p
  · rename_i e
    exact ⟨z, k, rfl, rfl, e.1, e.2.1, e.2.2, p.ok so (.str _)⟩
  · exact p.elim⟩
end
end DV

set_option maxHeartbeats 2000000
namespace DV
open PySem L2 PyProof.Rows
/-! ### what is read stands in the heap -/
mutual
theorem reads_at {h : Heap} : ∀ (d : PyData) {v : Value} {as : List Addr}, PySem.W.alike d d = true → Reads h v d as → ∀ b ∈ as, ∃ o, h.get? b = some o
  | .none, _, _, _, r, b, hb => by cases r; cases hb
  | .bool _, _, _, _, r, b, hb => by cases r; cases hb
  | .int _, _, _, _, r, b, hb => by cases r; cases hb
  | .str _, _, _, _, r, b, hb => by cases r; cases hb
  | .list ds, _, _, a, r, b, hb => by
    cases r with
    | list h1 h2 h3 h4 =>
      rcases List.mem_cons.mp hb with z | z
      · rw [z]; exact ⟨_, h1⟩
      · exact readsAll_at ds a h4 b z
  | .tuple ds, _, _, a, r, b, hb => by
    cases r with
    | tuple h1 h2 h3 h4 => exact readsAll_at ds a h4 b hb
  | .dict _, _, _, a, _, _, _ => by cases a
theorem readsAll_at {h : Heap} : ∀ (ds : List PyData) {vs : List Value} {as : List Addr}, PySem.W.alikeAll ds ds = true → ReadsAll h vs ds as → ∀ b ∈ as, ∃ o, h.get? b = some o
  | [], _, _, _, r, b, hb => by cases r; cases hb
  | d :: ds, _, _, a, r, b, hb => by
    have a' : (PySem.W.alike d d && PySem.W.alikeAll ds ds) = true := a
    rw [Bool.and_eq_true] at a'
    cases r with
    | cons h1 h2 =>
      rcases List.mem_append.mp hb with z | z
      · exact reads_at d a'.1 h1 b z
      · exact readsAll_at ds a'.2 h2 b z
end
/-! ### sorted -/
/-- by the order of data: each thing with its datum -/
def sortP {α : Type} (xs : List (α × PyData)) : List α := (xs.mergeSort (PySem.W.dataLe false (·.2))).map (·.1)
def alikeB (ds : List PyData) : Bool := ds.all fun d => ds.all fun e => PySem.W.alike d e
def tup1 : PyData → Bool
  | .tuple (_ :: _) => true
  | _ => false
def notT : PyData → Bool
  | .none => false
  | .tuple _ => false
  | _ => true
/-- they can be sorted -/
def sortOk (ds : List PyData) : Bool := alikeB ds && (ds.all tup1 || ds.all notT) && decide (ds.length ≤ sizeLine) && ds.all fun d => decide (d.depth ≤ 64)
theorem alikeB_all {ds : List PyData} (h : alikeB ds = true) : PySem.W.AllAlike ds := fun d hd e he => by
  unfold alikeB at h
  rw [List.all_eq_true] at h
  have := h d hd
  rw [List.all_eq_true] at this
  exact this e he
theorem sortable_of {ds : List PyData} (h : (ds.all tup1 || ds.all notT) = true) : PySem.W.Sortable ds := by
  rw [Bool.or_eq_true] at h
  rcases h with h | h
  · refine .inl fun d hd => ?_
    have := List.all_eq_true.mp h d hd
    unfold tup1 at this
    split at this
    · exact ⟨_, _, rfl⟩
    · cases this
  · refine .inr fun d hd => ?_
    have := List.all_eq_true.mp h d hd
    unfold notT at this
    split at this
    · cases this
    · cases this
    · rename_i n1 n2
      exact ⟨n1, fun xs e => n2 xs e⟩
theorem each_vals {us : List Value} {vs : List V} {ds : List PyData} (r : Vals vs us) (hl : ds.length = vs.length) : PySem.W.EachIs (fun u (b : V × PyData) => RelV b.1 u) us (vs.zip ds) := by
  induction r generalizing ds with
  | nil => exact .nil
  | cons h t ih =>
    cases ds with
    | nil => simp at hl
    | cons d ds =>
      rw [List.zip_cons_cons]
      exact .cons h (ih (by simpa using hl))
theorem vals_each {us : List Value} {bs : List (V × PyData)} (e : PySem.W.EachIs (fun u (b : V × PyData) => RelV b.1 u) us bs) : Vals (bs.map (·.1)) us := by
  induction e with
  | nil => exact .nil
  | cons h t ih => exact .cons h ih
theorem each_reads {h : Heap} {us : List Value} {vs : List V} {ds : List PyData} {as : List Addr} (hl : ds.length = vs.length) (r : ReadsAll h us ds as) : PySem.W.EachIs (fun u (b : V × PyData) => ∃ as, Reads h u b.2 as) us (vs.zip ds) := by
  induction ds generalizing us vs as with
  | nil => cases r; rw [List.zip_nil_right]; exact .nil
  | cons d ds ih =>
    cases vs with
    | nil => simp at hl
    | cons v vs =>
      cases r with
      | cons h1 h2 =>
        rw [List.zip_cons_cons]
        exact .cons ⟨_, h1⟩ (ih (by simpa using hl) h2)
theorem dpAll_length {K : PySem.W.Frag} {H : Hp} : ∀ {vs : List V} {ds : List PyData}, DpAll K H vs ds → ds.length = vs.length
  | _, _, .nil => rfl
  | _, _, .cons _ r => congrArg (· + 1) (dpAll_length r)
theorem zip_snd {α β : Type} : ∀ {as : List α} {bs : List β}, bs.length = as.length → (as.zip bs).map (·.2) = bs
  | [], [], _ => rfl
  | _ :: _, [], h => by simp at h
  | [], _ :: _, h => by simp at h
  | a :: as, b :: bs, h => by
    rw [List.zip_cons_cons, List.map_cons, zip_snd (by simpa using h)]
section
variable {X : Cx} {W : WX} {pins : List (Addr × Obj)} {σ : L2.St} {H : Hp} {s : Shared}
/-- what is left of sorted(xs) when the items us are in hand -/
theorem sort_tail {vs : List V} {us : List Value} {ds : List PyData} {E : Value → Shared → Prop} {Q : VK} (I : Inv X pins σ H s) (rv : Vals vs us) (hd : DpAll X.K H vs ds) (ok : sortOk ds = true) (hu : X.A.units + 66 < cLine)
    (q : ∀ p, H p = none → Q (.ref p) (upd H p (.lst (sortP (vs.zip ds))))) :
    wpAny (model X.prog X.w) X.A.in1 (do let l ← newList us; let _ ← holding [l] (call (.builtin "list.sort") [l] []); PySem.ret l) (fun f s' => ∃ u, f = PySem.Fin.done (.ret u) ∧ ∃ v H', Inv X pins σ H' s' ∧ RelV v u ∧ Q v H') E s := by
  unfold sortOk at ok
  rw [Bool.and_eq_true, Bool.and_eq_true, Bool.and_eq_true] at ok
  obtain ⟨⟨⟨o1, o2⟩, o3⟩, o4⟩ := ok
  have hal := alikeB_all o1
  have hk := sortable_of o2
  have hL : ds.length ≤ sizeLine := of_decide_eq_true o3
  have hl := dpAll_length hd
  have lu : us.length = vs.length := (Paired.length rv).symm
  have zs : (vs.zip ds).map (·.2) = ds := zip_snd hl
  have zl : (vs.zip ds).length = ds.length := by rw [← congrArg List.length zs, List.length_map]
  obtain ⟨as, rd⟩ := Dp.readsAll I ds vs us hd rv
  have free : s.heap.get? s.heap.objs.size = none := by
    cases e : s.heap.get? s.heap.objs.size with
    | none => rfl
    | some o => exact absurd (Heap.lt_size e) (Nat.lt_irrefl _)
  refine wpAny_bind (wpAny_newList ?_ (by rw [lu, ← hl]; exact hL))
  have hoL : (s.heap.push (seqObj "list" us.toArray 0)).get? s.heap.objs.size = some (seqObj "list" us.toArray 0) := Heap.get?_push_size _ rfl
  have er : PySem.W.EachIs (fun u (b : V × PyData) => ∃ as, Reads (s.heap.push (seqObj "list" us.toArray 0)) u b.2 as ∧ s.heap.objs.size ∉ as) us (vs.zip ds) := by
    refine (PySem.W.each_mem (each_reads hl rd)).mono fun u b ⟨⟨as, r⟩, hb⟩ => ⟨as, PyProof.Rows.Reads.keeps (fun c o e => Heap.get?_push_of_some _ e) r, fun z => ?_⟩
    have hm : b.2 ∈ ds := by rw [← zs]; exact List.mem_map.mpr ⟨b, hb, rfl⟩
    obtain ⟨o, e⟩ := reads_at b.2 (hal _ hm _ hm) r _ z
    rw [free] at e
    cases e
  show wpAny _ _ _ _ _ { s with heap := s.heap.push (seqObj "list" us.toArray 0) }
  refine wpAny_bind (wpAny_holding ?_)
  refine PySem.W.list_sort_data (s := { s with heap := s.heap.push (seqObj "list" us.toArray 0) }) (enc := (·.2)) hoL (each_vals rv hl) er (by rw [zs]; exact hal) (by rw [zs]; exact hk) (by rw [zl]; exact hL) (fun b hb => ?_) fun out hlen he => ?_
  · have hm : b.2 ∈ ds := by rw [← zs]; exact List.mem_map.mpr ⟨b, hb, rfl⟩
    have := of_decide_eq_true (List.all_eq_true.mp o4 _ hm)
    show X.A.units + 1 + 1 + b.2.depth < cLine
    omega
  · obtain ⟨e', he'⟩ := PyProof.Rows.sortedHeap_at (vs := us) (out := List.toArray out) hoL
    refine wpAny_pure ⟨_, rfl, .ref s.heap.objs.size, upd H s.heap.objs.size (.lst (sortP (vs.zip ds))), I.laid (t' := s.toks) (fun b u e => ?_) (Nat.le_refl _)
      (show ObjOk X.prog X.w _ _ _ (.lst (sortP (vs.zip ds))) from ⟨?_, out, e', vals_each he, he'⟩), rfl, q _ (I.hok.fresh (Nat.le_refl _))⟩
    · have hb : b < s.heap.objs.size := Heap.lt_size e
      rw [PyProof.Rows.sortedHeap_old (Nat.ne_of_lt hb) (by rw [size_push']; exact Nat.lt_succ_of_lt hb)]
      exact Heap.get?_push_of_some _ e
    · unfold sortP
      rw [List.length_map, List.length_mergeSort, zl]
      exact hL
/-! ### the keys of a dict with tuple keys -/
def keyP : Key → PyData
  | .inl i => .int i
  | .inr x => .str x
def keyD' : Key → D
  | .inl i => .int i
  | .inr x => .str x
theorem kV_dp {K : PySem.W.Frag} : ∀ ks : List Key, DpAll K H (ks.map kV) (ks.map keyP)
  | [] => .nil
  | .inl i :: r => .cons (.int i) (kV_dp r)
  | .inr x :: r => .cons (.str x) (kV_dp r)
theorem kV_dts {K : PySem.W.Frag} {φ : List Addr} : ∀ ks : List Key, Dts K φ H (ks.map kV) (ks.map keyD')
  | [] => .nil
  | .inl i :: r => .cons (.int i) (kV_dts r)
  | .inr x :: r => .cons (.str x) (kV_dts r)
theorem keys_kV {K : PySem.W.Frag} {φ : List Addr} : ∀ {ds : List D} {vs : List V} {ks : List Key}, Dts K φ H vs ds → omap keyD ds = some ks → vs = ks.map kV
  | [], _, _, .nil, e => by cases e; rfl
  | d :: ds, _, _, .cons h r, e => by
    simp only [omap] at e
    split at e
    · rename_i k kr e1 e2
      cases e
      rw [List.map_cons, keyD_kV h e1, keys_kV r e2]
    · cases e
def dtAt (s : Sto) (n : Nat) : Option (List (List Key × D)) := match s[n]? with
  | some (.dT xs) => some xs
  | _ => none
theorem dtAt_eq {s : Sto} {n : Nat} {xs : List (List Key × D)} (h : dtAt s n = some xs) : s[n]? = some (.dT xs) := by
  unfold dtAt at h
  split at h
  · cases h; assumption
  · cases h
theorem So.dt {K : PySem.W.Frag} {φ : List Addr} {H : Hp} {s : Sto} (h : So K φ H s) {n : Nat} {xs : List (List Key × D)} (e : dtAt s n = some xs) {a : Addr} (ha : φ[n]? = some a) : ∃ vs, H a = some (.dT vs) ∧ Prs (Dt K φ H) vs xs := by
  obtain ⟨b, hb, q⟩ := h.ob _ _ (dtAt_eq e)
  rw [ha] at hb
  cases hb
  exact q
theorem Prs.keys {κ : Type} {R : V → D → Prop} : ∀ {vs : List (κ × V)} {ds : List (κ × D)}, Prs R vs ds → vs.map (·.1) = ds.map (·.1)
  | _, _, .nil => rfl
  | _, _, .cons _ r => by rw [List.map_cons, List.map_cons, r.keys]
def isE {α : Type} : Option (List α) → Bool
  | some [] => true
  | _ => false
theorem isE_some {α : Type} {o : Option (List α)} (h : isE o = true) : o = some [] := by
  unfold isE at h
  split at h
  · rfl
  · cases h
/-- {(..): c}, one entry with a tuple and a constant -/
def dDT1 (da : DA) (d : D) : DX := fun Δ => mbind (mnew (.dT [])) fun o => mbind (da Δ) fun xs s => match o with
  | .obj n => match omap keyD xs with
    | some k => if xs.length ≤ sizeLine ∧ isE (dtAt s n) = true then some (.ok (.obj n), s.set n (.dT [(k, d)])) else none
    | none => none
  | _ => none
/-- d[a, b, ..] = v -/
def dDPutT (dx : DX) (da : DA) (dv : DX) : DS := fun Δ => sbind (dv Δ) Δ fun v => sbind (dx Δ) Δ fun x => sbind (da Δ) Δ fun ys s => match x with
  | .obj n => match dtAt s n with
    | some kvs => match omap keyD ys with
      | some k => if kvs.length < sizeLine ∧ ys.length ≤ sizeLine then some (.nx Δ, s.set n (.dT (putKD kvs k v))) else none
      | none => none
    | none => none
  | _ => none
/-- sorted(d), d with tuple keys -/
def fSortedT : OpN := fun xs s => match xs with
  | [.obj n] => match dtAt s n with
    | some kvs => if sortOk (kvs.map fun kv => .tuple (kv.1.map keyP)) = true then some (.obj s.length, s ++ [.lst (sortP (kvs.map fun kv => (D.tup (kv.1.map keyD'), PyData.tuple (kv.1.map keyP))))]) else none
    | none => none
  | _ => none
/-- sorted(xs), of a list of plain data -/
def fSortedL : OpN := fun xs s => match xs with
  | [.obj n] => match lstAt s n with
    | some ys => match omap (toPy s 64) ys with
      | some ps => if sortOk ps = true then some (.obj s.length, s ++ [.lst (sortP (ys.zip ps))]) else none
      | none => none
    | none => none
  | _ => none
end
/-! ### {(..): c} -/
def GoodT1 (Q : VK) (p : Addr) (v : V) (ps : List (V × V)) (H2 : Hp) : Prop := ∃ (k : List Key) (b : Addr), ps = [(.ref b, v)] ∧ H2 p = some (.dT []) ∧ H2 b = some (.tup (k.map kV)) ∧ Q (.ref p) (upd H2 p (.dT [(k, v)]))
def tDispT1 (tk : TE) (v : V) : TE := fun σ H Q => ∀ p, H p = none → tPairs [(tk, tC v)] σ (upd H p (.dT [])) (GoodT1 Q p v)
section
variable {X : Cx} {W : WX}
theorem pe_dispT1 {key val : Expr} {pos : Pos} {tk : TE} {v : V} (hu : X.A.units + 1 < cLine) (hk : PE X key tk) (hv : PE X val (tC v)) : PE X (.Dict [some key] [val] pos) (tDispT1 tk v) := by
  refine ⟨fun pins s σ H Q I q => ?_⟩
  have hn := I.hok.fresh (Nat.le_refl s.heap.objs.size)
  have I1 := I.laid (a := s.heap.objs.size) (o := .dT []) (h' := s.heap.push { cls := .type "dict", data := .dict #[] }) (t' := s.toks) (fun _ _ q => Heap.get?_push_of_some _ q) (Nat.le_refl _) (dt_empty s.heap I.big)
  have walk := (pps_cons (pos := pos) hk hv pps_nil).run pins _ σ _ (GoodT1 Q s.heap.objs.size v) I1 (q _ hn)
  have hnl := pairTrees_length [some key] [val] X.env pos rfl rfl
  rw [arm_eval_Dict, zip_pairTrees [some key] [val] X.env pos rfl rfl, dictDisplay_pairs _ (fun z => by rw [z] at hnl; cases hnl) (by rw [hnl]; exact Nat.lt_of_lt_of_le (Nat.lt_succ_self 1) (by decide))]
  refine wpAny_bind (wpAny_standAt (wpAny_bind (wpAny_subDictH (knd := tupleKind (mixKind X.prog X.w)) (by show X.A.units < cLine; omega) (by rw [hnl]; exact Nat.succ_le_succ (Nat.zero_le _)) (thn walk fun ws s2 ⟨ps, H2, I2, rel, k, b, ep, e, eb, q2⟩ => ?_))))
  subst ep
  cases rel with
  | @cons _ w2 _ wr h t =>
    cases t
    obtain ⟨w1, w3⟩ := w2
    obtain ⟨r1, r2⟩ := h
    cases (show w1 = Value.ref b from r1)
    obtain ⟨z, hd, xs, r0, dd⟩ := dt_of I2.hok e
    cases r0
    refine ⟨[(k, b, w3)], ⟨rfl, rfl, key_of I2.hok eb, True.intro⟩, dd, fun h' tk dd' hs => wpAny_pure ?_⟩
    obtain ⟨o, es, ep, hq, h2, h3, h4, _, h5⟩ := dd'
    have new : ObjOk X.prog X.w (upd H2 s.heap.objs.size (.dT [(k, v)])) h' s.heap.objs.size (.dT [(k, v)]) := ⟨by show 1 ≤ sizeLine; rw [sizeLine_eq]; omega, hd, [(k, b, w3)], .cons ⟨rfl, by
      rw [upd_ne (ne_of eb e (fun z => nomatch z))]
      exact eb, r2⟩ .nil, o, es, ep, hq, h2, h3, h4, h5⟩
    exact ⟨.ref s.heap.objs.size, _, d_write I2 (by rw [e]; exact True.intro) hs ⟨o, hq⟩ new, rfl, q2⟩
theorem obj_at {φ : List Addr} {H : Hp} {s : Sto} {p : Addr} (hs : So X.K φ H s) : Dt X.K (φ ++ [p]) H (.ref p) (.obj s.length) := .obj (by rw [List.getElem?_append_right (by rw [hs.len]; exact Nat.le_refl _), hs.len]; simp)
theorem de_dT1 {es : List Expr} {kk : Nat} {tpos pos : Pos} {val : Expr} {da : DA} {v : V} {d : D} (hu : X.A.units + 1 < cLine) (ha : DAs X W es da) (hv : PE X val (tC v)) (rd : ∀ φ H, Dt X.K φ H v d) : DE X W (.Dict [some (.Tuple es kk tpos)] [val] pos) (dDT1 da d) :=
  pe_imp (pe_dispT1 hu (pe_tup ha) hv) fun σ H Q ⟨Δ, φ, s, hσ, hs, h⟩ p hp => by
    have f1 : Fu X.K φ (φ ++ [p]) H (upd H p (.dT [])) := fu_newO hp
    have so1 : So X.K (φ ++ [p]) (upd H p (.dT [])) (s ++ [.dT []]) := hs.newO (o := .dT []) hp ⟨[], upd_same, .nil⟩
    have sg1 := hσ.fu f1
    show upA X.K W da σ (upd H p (.dT [])) fun xs H1 => xs.length ≤ sizeLine ∧ ∀ b, H1 b = none → GoodT1 Q p v [(.ref b, v)] (upd H1 b (.tup xs))
    have h0 : Ps X.K (wAt W σ) (Dt X.K) (φ ++ [p]) (upd H p (.dT [])) (fun _ v H' _ _ => Q v H') (mbind (da Δ) (fun xs s' => match omap keyD xs with
      | some k => if xs.length ≤ sizeLine ∧ isE (dtAt s' s.length) = true then some (.ok (D.obj s.length), s'.set s.length (.dT [(k, d)])) else none
      | none => none) (s ++ [.dT []])) := h.shift f1
    refine upA_bind sg1 so1 h0 fun φ1 vs H1 ds s1 f2 sg2 so2 rs h1 => ?_
    split at h1
    · rename_i k ek
      split at h1
      · rename_i z
        obtain ⟨z1, z2⟩ := z
        have pa : (φ ++ [p])[s.length]? = some p := by rw [List.getElem?_append_right (by rw [hs.len]; exact Nat.le_refl _), hs.len]; simp
        have pa1 := f2.get pa
        obtain ⟨kvs, hp1, r0⟩ := so2.dt (isE_some z2) pa1
        cases r0
        refine ⟨by rw [rs.length]; exact z1, fun b hb => ?_⟩
        have ev := keys_kV rs ek
        have ne : b ≠ p := fun y => by
          rw [y, hp1] at hb
          cases hb
        have f3 : Fu X.K φ1 φ1 H1 (upd H1 b (.tup vs)) := fu_new hb
        have so3 : So X.K φ1 (upd H1 b (.tup vs)) s1 := so2.new hb
        refine ⟨k, b, rfl, by rw [upd_ne (Ne.symm ne)]; exact hp1, by rw [upd_same, ev], ?_⟩
        have ff : Fu X.K φ1 φ1 (upd H1 b (.tup vs)) (upd (upd H1 b (.tup vs)) p (.dT [(k, v)])) := fu_set so3 pa1
        exact h1 φ1 (.ref p) _ (f3.trans ff) (so3.set (o := .dT [(k, d)]) pa1 ⟨_, upd_same, .cons (rd _ _) .nil⟩) (.obj pa1)
      · exact h1.elim
    · exact h1.elim
/-! ### d[a, b] = v -/
theorem ds_dputT {o value : Expr} {es : List Expr} {kk : Nat} {tpos : Pos} {dx dv : DX} {da : DA} {pos pos' : Pos} (hu : X.A.units + 1 < cLine) (ho : DE X W o dx) (ha : DAs X W es da) (hv : DE X W value dv) (hs : swapsWith value (some (.Subscript o (.Tuple es kk tpos) pos')) pos.line X.env = pure false := by rfl) :
    DSt X W (.Assign [.Subscript o (.Tuple es kk tpos) pos'] value pos) (dDPutT dx da dv) :=
  ps_imp (ps_dput hu ho (pe_tup ha) hv hs) fun D σ H ⟨Δ, φ, s, hσ, hs, h⟩ => sbE hσ hs h fun φ1 w H1 d s1 f1 hσ1 hs1 rd h1 => sbE hσ1 hs1 h1 fun φ2 v H2 x s2 f2 hσ2 hs2 rx h2 => by
    show upA X.K W da σ H2 fun xs H3 => xs.length ≤ sizeLine ∧ ∀ b, H3 b = none → ∃ a H4, v = .ref a ∧ DPut (upd H3 b (.tup xs)) a (.ref b) w H4 ∧ D.nx σ H4
    refine ⟨Δ, φ2, s2, hσ2, hs2, Ps.mono (fun φ3 vs H3 ds s3 z => ?_) (sb (R := Dts X.K) hσ2 h2)⟩
    obtain ⟨f3, so3, rs, h3⟩ := z
    have sg3 := hσ2.fu f3
    split at h3
    · rename_i n
      have rx3 := rx.fu f3
      have rd3 := (rd.fu f2).fu f3
      cases rx3
      rename_i a ha3
      split at h3
      · rename_i kvs e1
        split at h3
        · rename_i k e2
          split at h3
          · rename_i hz
            obtain ⟨z1, z2⟩ := hz
            obtain ⟨kv, k1, r⟩ := so3.dt e1 ha3
            have ev := keys_kV rs e2
            refine ⟨by rw [rs.length]; exact z2, fun b hb => ?_⟩
            have ne : b ≠ a := fun y => by
              rw [y, k1] at hb
              cases hb
            have f4 : Fu X.K φ3 φ3 H3 (upd H3 b (.tup vs)) := fu_new hb
            have so4 : So X.K φ3 (upd H3 b (.tup vs)) s3 := so3.new hb
            have k2 : (upd H3 b (.tup vs)) a = some (.dT kv) := by rw [upd_ne (Ne.symm ne)]; exact k1
            have r2 := r.fu f4
            have ff : Fu X.K φ3 φ3 (upd H3 b (.tup vs)) (upd (upd H3 b (.tup vs)) a (.dT (putK kv k w))) := fu_set so4 ha3
            exact ⟨a, _, rfl, DPut.t k2 (by rw [upd_same, ev]) (by rw [r.length]; exact z1), h3 φ3 _ _ (f4.trans ff) (so4.set (o := .dT (putKD kvs k d)) ha3 ⟨_, upd_same, (r2.put (rd3.fu f4)).fu ff⟩) (sg3.fu (f4.trans ff))⟩
          · exact h3.elim
        · exact h3.elim
      · exact h3.elim
    · exact h3.elim
/-! ### the same order for values and for data -/
theorem dts_each {K : PySem.W.Frag} {φ : List Addr} {H : Hp} : ∀ T : List (V × D × PyData), (∀ t ∈ T, Dt K φ H t.1 t.2.1) → Dts K φ H (T.map (·.1)) (T.map (·.2.1))
  | [], _ => .nil
  | t :: r, h => .cons (h t (by simp)) (dts_each r fun t ht => h t (by simp [ht]))
theorem dts_trip {K : PySem.W.Frag} {φ : List Addr} {H : Hp} : ∀ {vs : List V} {ds : List D} {ps : List PyData}, Dts K φ H vs ds → ps.length = vs.length → ∃ T : List (V × D × PyData), (∀ t ∈ T, Dt K φ H t.1 t.2.1) ∧ T.map (fun t => (t.1, t.2.2)) = vs.zip ps ∧ T.map (fun t => (t.2.1, t.2.2)) = ds.zip ps
  | _, _, [], .nil, _ => ⟨[], by simp, rfl, rfl⟩
  | _, _, p :: ps, .cons (v := v) (d := d) h r, e => by
    obtain ⟨T, t1, t2, t3⟩ := dts_trip r (by simpa using e)
    refine ⟨(v, d, p) :: T, fun t ht => ?_, by rw [List.map_cons, t2]; rfl, by rw [List.map_cons, t3]; rfl⟩
    rcases List.mem_cons.mp ht with rfl | ht
    · exact h
    · exact t1 t ht
  | _, _, _ :: _, .nil, e => by simp at e
  | _, _, [], .cons _ _, e => by simp at e
theorem sort_dts {K : PySem.W.Frag} {φ : List Addr} {H : Hp} {vs : List V} {ds : List D} {ps : List PyData} {zs : List (D × PyData)} (r : Dts K φ H vs ds) (hl : ps.length = vs.length) (hz : zs = ds.zip ps) : Dts K φ H (sortP (vs.zip ps)) (sortP zs) := by
  obtain ⟨T, t1, t2, t3⟩ := dts_trip r hl
  have q1 := List.map_mergeSort (r := PySem.W.dataLe false fun t : V × D × PyData => t.2.2) (s := PySem.W.dataLe false fun t : V × PyData => t.2) (f := fun t => (t.1, t.2.2)) (l := T) fun a _ b _ => rfl
  have q2 := List.map_mergeSort (r := PySem.W.dataLe false fun t : V × D × PyData => t.2.2) (s := PySem.W.dataLe false fun t : D × PyData => t.2) (f := fun t => (t.2.1, t.2.2)) (l := T) fun a _ b _ => rfl
  unfold sortP
  rw [hz, ← t2, ← t3, ← q1, ← q2, List.map_map, List.map_map]
  exact dts_each _ fun t ht => t1 t ((List.mergeSort_perm _ _).mem_iff.mp ht)
/-! ### sorted(d), sorted(xs) -/
theorem keysP_dp : ∀ {kvs : List (List Key × V)} {bs : List Addr} {H : Hp} {K : PySem.W.Frag}, IsKeys H kvs bs → DpAll K H (bs.map V.ref) (kvs.map fun kv => PyData.tuple (kv.1.map keyP))
  | [], _, _, _, .nil => .nil
  | kv :: kvs, _, _, _, .cons h r => .cons (.tup (.inl (.inl h)) (kV_dp _)) (keysP_dp r)
theorem keysD_dts : ∀ {kvs : List (List Key × V)} {bs : List Addr} {H : Hp} {K : PySem.W.Frag} {φ : List Addr}, IsKeys H kvs bs → Dts K φ H (bs.map V.ref) (kvs.map fun kv => D.tup (kv.1.map keyD'))
  | [], _, _, _, _, .nil => .nil
  | kv :: kvs, _, _, _, _, .cons h r => .cons (.tup (.inl (.inl h)) (kV_dts _)) (keysD_dts r)
def rSortT (K : PySem.W.Frag) : List V → Hp → VK → Prop := fun xs H Q => ∃ d kvs, xs = [V.ref d] ∧ Rd H d (.dT kvs) ∧ sortOk (kvs.map fun kv => PyData.tuple (kv.1.map keyP)) = true ∧ ∀ p bs, H p = none → IsKeys H kvs bs → Q (.ref p) (upd H p (.lst (sortP ((bs.map V.ref).zip (kvs.map fun kv => PyData.tuple (kv.1.map keyP))))))
theorem call_sortT (hc : X.calm = true) (hu : X.A.units + 66 < cLine) : CallR X (.builtin "sorted") (rSortT X.K) := by
  intro pins s σ H xs us Q I r h
  obtain ⟨d, kvs, rfl, hd, ok, q⟩ := h
  obtain ⟨u, rfl, rx⟩ := r.one
  cases rx
  obtain ⟨z, hs, ks, pr, o, es, ep, ho, hx, hdt, he, hn⟩ := (show ObjOk X.prog X.w H s.heap d (.dT kvs) from hd.ok I.hok)
  have l1 : es.size = ks.length := size_of_entries he
  have l2 : kvs.length = ks.length := Paired.length pr
  refine Calls.call_function_entry PyProof.Rows.kind_sorted PyProof.Rows.plain_sorted PyProof.Rows.entry_sorted (PyProof.Rows.args_sorted1 _) ?_
  unfold Builtin.«sorted»
  refine wpAny_bind (m := checkCount "sorted" 1 1 _) (wpAny_pure ?_)
  refine wpAny_bind (PySem.W.kdu_collect (A := X.A.in1) (kdl_raw (prog := X.prog) (w := X.w) hs hx hdt) (I.ok.hd hc) ho (by omega) fun h' tk acc' kp it => ?_)
  have ea : acc'.toList = ks.map fun x => Value.ref x.2.1 := by
    have hl : acc'.toList.length = ks.length := by rw [Array.length_toList, it.1]; exact l1
    apply List.ext_getElem?
    intro j
    rw [List.getElem?_map]
    cases hj : acc'.toList[j]? with
    | none =>
      have h1 := List.getElem?_eq_none_iff.mp hj
      rw [List.getElem?_eq_none (by omega)]
      all_goals rfl
    | some v =>
      obtain ⟨en, hen, hv⟩ := it.2 j v (by rw [← Array.getElem?_toList]; exact hj)
      have qe := entry_at he j
      rw [hen] at qe
      cases hb : ks[j]? with
      | none =>
        rw [hb] at qe
        exact nomatch (show some en = none from qe)
      | some b =>
        rw [hb] at qe
        have e2 : en = entryOfKey (tupleKind (mixKind X.prog X.w)) b := Option.some.inj qe
        rw [hv, e2]
        all_goals rfl
  have eb : acc'.toList = (ks.map fun x => x.2.1).map Value.ref := by rw [ea, List.map_map]; all_goals rfl
  have rv : Vals ((ks.map fun x => x.2.1).map V.ref) acc'.toList := by rw [eb]; exact vals_refs _
  have I1 : Inv X pins σ H { s with heap := h', toks := tk } := I.kept kp
  have ik := isKeys_of pr
  exact wpAny_mono (sort_tail I1 rv (keysP_dp ik) ok hu fun p hp => q p _ hp ik) (fun f s' hf => by
    obtain ⟨u, e, v, H', J, rv', q'⟩ := hf
    exact ⟨u, e, v, H', J, rv', q'⟩) fun _ _ e => e
theorem dc_sortT (hc : X.calm = true) (hu : X.A.units + 66 < cLine) : DCall X (.builtin "sorted") fSortedT := ⟨_, call_sortT hc hu, fun φ H s vs ds Q so rx p => by
  unfold fSortedT at p
  split at p
  · rename_i n
    obtain ⟨u, rfl, r⟩ := dts1 rx
    cases r
    rename_i a ha
    split at p
    · rename_i kvs e
      split at p
      · rename_i z
        obtain ⟨kv, k1, r0⟩ := so.dt e ha
        have ek : (kv.map fun x => PyData.tuple (x.1.map keyP)) = kvs.map fun x => PyData.tuple (x.1.map keyP) := by
          have := congrArg (List.map fun k : List Key => PyData.tuple (k.map keyP)) r0.keys
          rw [List.map_map, List.map_map] at this
          exact this
        have ed : (kv.map fun x => D.tup (x.1.map keyD')) = kvs.map fun x => D.tup (x.1.map keyD') := by
          have := congrArg (List.map fun k : List Key => D.tup (k.map keyD')) r0.keys
          rw [List.map_map, List.map_map] at this
          exact this
        refine ⟨a, kv, rfl, .inl k1, by rw [ek]; exact z, fun p' bs hp ik => ?_⟩
        rw [ek]
        have kl : bs.length = kv.length := (Paired.length ik).symm
        have kz : kvs.length = kv.length := by
          have := congrArg List.length r0.keys
          rw [List.length_map, List.length_map] at this
          exact this.symm
        refine p.newL so hp (sort_dts (keysD_dts ik) (by rw [List.length_map, List.length_map, kl, kz]) ?_)
        rw [ed, List.zip_map']
      · exact p.elim
    · exact p.elim
  · exact p.elim⟩
def rSortL (K : PySem.W.Frag) : List V → Hp → VK → Prop := fun xs H Q => ∃ a vs ps, xs = [V.ref a] ∧ SqL K H a vs ∧ DpAll K H vs ps ∧ sortOk ps = true ∧ ∀ p, H p = none → Q (.ref p) (upd H p (.lst (sortP (vs.zip ps))))
theorem call_sortL (hu : X.A.units + 66 < cLine) : CallR X (.builtin "sorted") (rSortL X.K) := by
  intro pins s σ H xs us Q I r h
  obtain ⟨a, vs, ps, rfl, hs, hd, ok, q⟩ := h
  obtain ⟨its, rv, hi, _⟩ := I.list hs
  rw [Vals.ref1 r]
  unfold sortOk at ok
  rw [Bool.and_eq_true, Bool.and_eq_true, Bool.and_eq_true] at ok
  obtain ⟨⟨⟨o1, o2⟩, o3⟩, o4⟩ := ok
  have hL : ps.length ≤ sizeLine := of_decide_eq_true o3
  have hl := dpAll_length hd
  have zs : (vs.zip ps).map (·.2) = ps := zip_snd hl
  have zl : (vs.zip ps).length = ps.length := by rw [← congrArg List.length zs, List.length_map]
  obtain ⟨as, rd⟩ := Dp.readsAll I ps vs its hd rv
  refine PySem.W.sorted_data (enc := (·.2)) hi.isList (each_vals rv hl) (each_reads hl rd) (by rw [zs]; exact alikeB_all o1) (by rw [zs]; exact sortable_of o2) (by rw [zl]; exact hL) (fun b hb => ?_) fun out hlen he => ?_
  · have hm : b.2 ∈ ps := by rw [← zs]; exact List.mem_map.mpr ⟨b, hb, rfl⟩
    have := of_decide_eq_true (List.all_eq_true.mp o4 _ hm)
    omega
  · obtain ⟨ep, he'⟩ := PyProof.Rows.sortedAll_at s.heap its (List.toArray out)
    have hlen : (sortP (vs.zip ps)).length ≤ sizeLine := by
      unfold sortP
      rw [List.length_map, List.length_mergeSort, zl]
      exact hL
    exact ⟨.ref _, upd H (s.heap.objs.size + 1) (.lst (sortP (vs.zip ps))), I.laid (t' := s.toks) (fun _ _ => PyProof.Rows.sortedAll_old) (Nat.le_succ _) ⟨hlen, out, ep, vals_each he, he'⟩, rfl, q _ (I.hok.fresh (Nat.le_succ _))⟩
theorem dc_sortL (hu : X.A.units + 66 < cLine) : DCall X (.builtin "sorted") fSortedL := ⟨_, call_sortL hu, fun φ H s vs ds Q so rx p => by
  unfold fSortedL at p
  split at p
  · rename_i n
    obtain ⟨u, rfl, r⟩ := dts1 rx
    cases r
    rename_i a ha
    split at p
    · rename_i ys e
      split at p
      · rename_i ps ep
        split at p
        · rename_i z
          obtain ⟨ws, k1, r0⟩ := so.lst (lstAt_eq e) ha
          have dp : DpAll X.K H ws ps := omap_dp (fun v d p => toPy_dp so 64 v d p) r0 ep
          exact ⟨a, ws, ps, rfl, SqL.of k1, dp, z, fun p' hp => p.newL so hp (sort_dts r0 (dpAll_length dp) rfl)⟩
        · exact p.elim
      · exact p.elim
    · exact p.elim
  · exact p.elim⟩
/-! ### the order of two data -/
def notN : PyData → Bool
  | .none => false
  | _ => true
def cmpOk (p q : PyData) : Bool := PySem.W.alike p q && notN p && decide (p.depth ≤ 64)
def fCmpP (g : PyData → PyData → Bool) : Op2 := fun x y s => match toPy s 64 x, toPy s 64 y with
  | some p, some q => if cmpOk p q = true then some (.bl (g p q), s) else none
  | _, _ => none
def rCmpP (K : PySem.W.Frag) (g : PyData → PyData → Bool) : R2 := fun x y H Q => ∃ p q, Dp K H x p ∧ Dp K H y q ∧ cmpOk p q = true ∧ Q (.bl (g p q)) H
theorem cmpOk_of {p q : PyData} (h : cmpOk p q = true) : PySem.W.alike p q = true ∧ p ≠ .none ∧ p.depth ≤ 64 := by
  unfold cmpOk at h
  rw [Bool.and_eq_true, Bool.and_eq_true] at h
  obtain ⟨⟨h1, h2⟩, h3⟩ := h
  exact ⟨h1, fun z => (by rw [z] at h2; cases h2), of_decide_eq_true h3⟩
theorem dop_cmpP {op : CmpOp} {g : PyData → PyData → Bool} (h : OpR X (compareOp op) (rCmpP X.K g)) : DOp X (compareOp op) (fCmpP g) := ⟨_, h, fun φ H s x y v u Q so rx ry p => by
  unfold fCmpP at p
  split at p
  · rename_i a b e1 e2
    split at p
    · rename_i z
      exact ⟨a, b, toPy_dp so 64 _ _ _ rx e1, toPy_dp so 64 _ _ _ ry e2, z, p.ok so (.bl _)⟩
    · exact p.elim
  · exact p.elim⟩
def fLtP : Op2 := fCmpP PySem.W.dataLt
def fGtP : Op2 := fCmpP fun p q => PySem.W.dataLt q p
def fLeP : Op2 := fCmpP fun p q => !PySem.W.dataLt q p
def fGeP : Op2 := fCmpP fun p q => !PySem.W.dataLt p q
theorem dop_ltP (hu : X.A.units + 66 < cLine) : DOp X (compareOp .Lt) fLtP := dop_cmpP fun pins s σ H x y v u Q I rx ry h => by
  obtain ⟨p, q, hp, hq, ok, z⟩ := h
  obtain ⟨as, r1⟩ := Dp.reads I p x v hp rx
  obtain ⟨bs, r2⟩ := Dp.reads I q y u hq ry
  obtain ⟨o1, o2, o3⟩ := cmpOk_of ok
  exact PySem.W.lt_data r1 r2 o1 o2 (by omega) ⟨.bl _, H, I, rfl, z⟩
theorem dop_gtP (hu : X.A.units + 66 < cLine) : DOp X (compareOp .Gt) fGtP := dop_cmpP fun pins s σ H x y v u Q I rx ry h => by
  obtain ⟨p, q, hp, hq, ok, z⟩ := h
  obtain ⟨as, r1⟩ := Dp.reads I p x v hp rx
  obtain ⟨bs, r2⟩ := Dp.reads I q y u hq ry
  obtain ⟨o1, o2, o3⟩ := cmpOk_of ok
  exact PySem.W.gt_data r1 r2 o1 o2 (by omega) ⟨.bl _, H, I, rfl, z⟩
theorem dop_leP (hu : X.A.units + 66 < cLine) : DOp X (compareOp .LtE) fLeP := dop_cmpP fun pins s σ H x y v u Q I rx ry h => by
  obtain ⟨p, q, hp, hq, ok, z⟩ := h
  obtain ⟨as, r1⟩ := Dp.reads I p x v hp rx
  obtain ⟨bs, r2⟩ := Dp.reads I q y u hq ry
  obtain ⟨o1, o2, o3⟩ := cmpOk_of ok
  exact PySem.W.le_data r1 r2 o1 o2 (by omega) ⟨.bl _, H, I, rfl, z⟩
theorem dop_geP (hu : X.A.units + 66 < cLine) : DOp X (compareOp .GtE) fGeP := dop_cmpP fun pins s σ H x y v u Q I rx ry h => by
  obtain ⟨p, q, hp, hq, ok, z⟩ := h
  obtain ⟨as, r1⟩ := Dp.reads I p x v hp rx
  obtain ⟨bs, r2⟩ := Dp.reads I q y u hq ry
  obtain ⟨o1, o2, o3⟩ := cmpOk_of ok
  exact PySem.W.ge_data r1 r2 o1 o2 (by omega) ⟨.bl _, H, I, rfl, z⟩
/-! ### isinstance(x, (T, U)), built-in types -/
def tysOf : List D → Option (List String)
  | [] => some []
  | .ty n :: r => if n ∈ tyNames then (tysOf r).map (n :: ·) else none
  | _ => none
def fIsiT : OpN := fun xs s => match xs with
  | [x, .tup ts] => match tysOf ts with
    | some ns => match kdOf x s with
      | some k => some (.bl (ns.any k.is), s)
      | none => none
    | none => none
  | _ => none
theorem kitAny_kd {K : PySem.W.Frag} (k : Kd) : ∀ ns : List String, (∀ n ∈ ns, n ∈ tyNames) → PySem.W.kitAny K (.type k.name) (ns.map Value.type) = some (ns.any k.is)
  | [], _ => rfl
  | n :: r, h => by
    have e := kit_ty (K := K) (kd_ok n (h n (by simp)) k)
    rw [List.map_cons, List.any_cons]
    unfold PySem.W.kitAny
    rw [e]
    cases k.is n with
    | true => rfl
    | false => exact kitAny_kd k r fun n hn => h n (by simp [hn])
theorem tys_of {K : PySem.W.Frag} {φ : List Addr} {H : Hp} : ∀ {ts : List D} {vs : List V} {ns : List String}, Dts K φ H vs ts → tysOf ts = some ns → vs = ns.map V.ty ∧ ∀ n ∈ ns, n ∈ tyNames
  | [], _, _, .nil, e => by cases e; exact ⟨rfl, by simp⟩
  | d :: ds, _, _, .cons h r, e => by
    cases h <;> first | (cases e; done) | skip
    rename_i n
    simp only [tysOf] at e
    split at e
    · rename_i hn
      rw [Option.map_eq_some_iff] at e
      obtain ⟨ms, e1, rfl⟩ := e
      obtain ⟨q1, q2⟩ := tys_of r e1
      refine ⟨by rw [List.map_cons, q1], fun m hm => ?_⟩
      rcases List.mem_cons.mp hm with rfl | hm
      · exact hn
      · exact q2 m hm
    · cases e
theorem vals_tys : ∀ {ns : List String} {us : List Value}, Vals (ns.map V.ty) us → us = ns.map Value.type
  | [], _, .nil => rfl
  | n :: r, _, .cons h t => by rw [List.map_cons, ← vals_tys t, (show _ = Value.type n from h)]
/-- isinstance(x, c), c a tuple of classes in any place -/
def rIsiS (K : PySem.W.Frag) : List V → Hp → VK → Prop := fun xs H Q => ∃ (x : V) (tp : Addr) (cs : List V) (t : Value) (us : List Value) (b : Bool), xs = [x, .ref tp] ∧ SqT K H tp cs ∧ (∀ ws, Vals cs ws → ws = us) ∧ TyX K H x t ∧ PySem.W.kitAny K t us = some b ∧ Q (.bl b) H
theorem call_isiS : CallR X (.builtin "isinstance") (rIsiS X.K) := by
  intro pins s σ H xs us Q I r h
  obtain ⟨x, tp, cs, t, ws, b, rfl, hT, k, ty, e, q⟩ := h
  obtain ⟨u1, u2, rfl, r1, r2⟩ := vals2 r
  cases (show u2 = Value.ref tp from r2)
  obtain ⟨P, Z, p, hx⟩ := kit_of I r1 ty
  obtain ⟨its, rv, ⟨o, h1, h2, n, h3⟩, _⟩ := I.tuple hT
  have e3 := k _ rv
  subst e3
  obtain ⟨oc, od, dt, sl⟩ := o
  simp only at h2 h3
  subst h2 h3
  exact PySem.W.kia_tup Z I.kIn p h1 e hx fun tk => ⟨.bl b, H, I.tok tk, rfl, q⟩
theorem dc_isiT : DCall X (.builtin "isinstance") fIsiT := ⟨_, call_isiS, fun φ H s vs ds Q so rx p => by
  unfold fIsiT at p
  split at p
  · rename_i x ts
    obtain ⟨v, u, rfl, r1, r2⟩ := dts2 rx
    cases r2
    rename_i a ws hT rs
    split at p
    · rename_i ns en
      split at p
      · rename_i k ek
        obtain ⟨q1, q2⟩ := tys_of rs en
        subst q1
        exact ⟨v, a, _, .type k.name, ns.map Value.type, _, rfl, hT, fun ws hw => vals_tys hw, kd_ty so r1 ek, kitAny_kd k ns q2, p.ok so (.bl _)⟩
      · exact p.elim
    · exact p.elim
  · exact p.elim⟩
end
end DV

set_option maxHeartbeats 2000000
namespace DV
open PySem L2 PyProof.Rows
/-! ### isinstance(x, (C, D)), own exception classes -/
/-- the classes Cs; those of Y are instances of one of them, those of N of none -/
def fIsiXT (Cs Y N : List Addr) : OpN := fun xs s => match xs with
  | [x, .tup ts] => if ts.length = Cs.length ∧ (ts.zip Cs).all (fun p => match p.1 with | .adr c => decide (c = p.2) | _ => false) = true then match x with
    | .exc k _ _ => if k ∈ Y then some (.bl true, s) else if k ∈ N then some (.bl false, s) else none
    | x => match kdOf x s with
      | some _ => some (.bl false, s)
      | none => none
    else none
  | _ => none
/-- what isinstance says of instances of the exception class c, asked for the classes Cs -/
structure IsXT (K : PySem.W.Frag) (Cs : List Addr) (c : Addr) (b : Bool) : Prop where
  ex : ExcC K c
  any : PySem.W.kitAny K (.ref c) (Cs.map Value.ref) = some b
theorem isXT_nil {K : PySem.W.Frag} {c : Addr} (e : ExcC K c) : IsXT K [] c false := ⟨e, rfl⟩
theorem isXT_no {K : PySem.W.Frag} {C c : Addr} {Cs : List Addr} {b : Bool} (h : IsX K C c false) (r : IsXT K Cs c b) : IsXT K (C :: Cs) c b := ⟨r.ex, by
  rw [List.map_cons]
  unfold PySem.W.kitAny
  rw [h.one]
  exact r.any⟩
theorem isXT_yes {K : PySem.W.Frag} {C c : Addr} {Cs : List Addr} (h : IsX K C c true) : IsXT K (C :: Cs) c true := ⟨h.ex, by
  rw [List.map_cons]
  unfold PySem.W.kitAny
  rw [h.one]⟩
def rIsXT (K : PySem.W.Frag) : List V → Hp → VK → Prop := fun xs H Q => ∃ (e tp c : Addr) (Cs : List Addr) (ks : List Str) (vs : List V) (b : Bool), xs = [.ref e, .ref tp] ∧ SqT K H tp (Cs.map V.ref) ∧ ExV H e c ks vs ∧ IsXT K Cs c b ∧ Q (.bl b) H
theorem vals_refs' : ∀ {cs : List Addr} {us : List Value}, Vals (cs.map V.ref) us → us = cs.map Value.ref
  | [], _, .nil => rfl
  | c :: r, _, .cons h t => by rw [List.map_cons, ← vals_refs' t, (show _ = Value.ref c from h)]
theorem adrs_of {K : PySem.W.Frag} {φ : List Addr} {H : Hp} : ∀ {ts : List D} {vs : List V} {Cs : List Addr}, Dts K φ H vs ts → ts.length = Cs.length → (ts.zip Cs).all (fun p => match p.1 with | .adr c => decide (c = p.2) | _ => false) = true → vs = Cs.map V.ref
  | [], _, [], .nil, _, _ => rfl
  | [], _, _ :: _, _, e, _ => by simp at e
  | _ :: _, _, [], _, e, _ => by simp at e
  | t :: ts, _, C :: Cs, .cons h r, e, a => by
    rw [List.zip_cons_cons, List.all_cons, Bool.and_eq_true] at a
    obtain ⟨a1, a2⟩ := a
    cases h <;> first | (cases a1; done) | skip
    rename_i c
    have := of_decide_eq_true a1
    subst this
    rw [List.map_cons, adrs_of r (by simpa using e) a2]
section
variable {X : Cx} {W : WX}
theorem call_isXT : CallR X (.builtin "isinstance") (rIsXT X.K) := by
  intro pins s σ H xs us Q I r h
  obtain ⟨e, tp, c, Cs, ks, vs, b, rfl, hT, hv, hx, q⟩ := h
  obtain ⟨u1, u2, rfl, r1, r2⟩ := vals2 r
  cases (show u1 = Value.ref e from r1)
  cases (show u2 = Value.ref tp from r2)
  obtain ⟨oe, od, J⟩ := inst_exc I hv
  have E := hx.ex
  have hcl : (PySem.W.clsIn X.K c).isSome = true := by
    obtain ⟨cd, hc, _⟩ := PySem.W.any_some E.hd
    rw [hc]
    rfl
  obtain ⟨its, rv, ⟨o, h1, h2, n, h3⟩, _⟩ := I.tuple hT
  have e3 := vals_refs' rv
  subst e3
  obtain ⟨oc, od', dt, sl⟩ := o
  simp only at h2 h3
  subst h2 h3
  exact PySem.W.kia_tup (PySem.W.kitx_exc hcl E.hg E.hk E.hs E.ha E.hn E.ht E.hm) I.kIn J h1 hx.any (fun z => nomatch z) fun tk => ⟨.bl b, H, I.tok tk, rfl, q⟩
theorem dc_isiXT {Cs Y N : List Addr} (hc : ∀ C ∈ Cs, PySem.W.isClsIn X.K C = true ∧ PySem.W.typeIn X.K (.ref C) = some (.type "type")) (hY : ∀ k ∈ Y, IsXT X.K Cs k true) (hN : ∀ k ∈ N, IsXT X.K Cs k false) : DCall X (.builtin "isinstance") (fIsiXT Cs Y N) := by
  have un : ∀ (k : Kd) (L : List Addr), (∀ C ∈ L, PySem.W.isClsIn X.K C = true ∧ PySem.W.typeIn X.K (.ref C) = some (.type "type")) → PySem.W.kitAny X.K (.type k.name) (L.map Value.ref) = some false := by
    intro k L
    induction L with
    | nil => intro _; rfl
    | cons C r ih =>
      intro hL
      obtain ⟨c, ct⟩ := hL C (by simp)
      have h : ((PySem.W.clsIn X.K C).isSome && PySem.W.typeIn X.K (.ref C) == some (.type "type")) = true := by
        unfold PySem.W.isClsIn at c
        rw [c, ct]
        decide
      rw [List.map_cons]
      unfold PySem.W.kitAny PySem.W.kitOne PySem.W.kitCls
      rw [show (Value.type k.name == Value.ref C) = false from rfl]
      simp only [Bool.false_eq_true, if_false, h, if_true]
      rw [sub_kd k]
      exact ih fun C hC => hL C (by simp [hC])
  refine ⟨fun xs H Q => rIsXT X.K xs H Q ∨ rIsiS X.K xs H Q, fun pins s σ H xs us Q I r h => ?_, fun φ H s vs ds Q so rx p => ?_⟩
  · rcases h with h | h
    · exact call_isXT pins s σ H xs us Q I r h
    · exact call_isiS pins s σ H xs us Q I r h
  · unfold fIsiXT at p
    split at p
    · rename_i x ts
      obtain ⟨v, u, rfl, r1, r2⟩ := dts2 rx
      split at p
      · rename_i z
        obtain ⟨z1, z2⟩ := z
        cases r2
        rename_i a ws hT rs
        have ew := adrs_of rs z1 z2
        subst ew
        split at p
        · rename_i k ks ds2
          cases r1
          rename_i e ws h1 h2
          left
          split at p
          · rename_i hk
            exact ⟨e, a, k, Cs, ks, ws, true, rfl, hT, h1, hY k hk, p.ok so (.bl _)⟩
          · split at p
            · rename_i hk
              exact ⟨e, a, k, Cs, ks, ws, false, rfl, hT, h1, hN k hk, p.ok so (.bl _)⟩
            · exact p.elim
        · split at p
          · rename_i k e
            right
            exact ⟨v, a, _, .type k.name, Cs.map Value.ref, false, rfl, hT, fun ws hw => vals_refs' hw, kd_ty so r1 e, un k Cs hc, p.ok so (.bl _)⟩
          · exact p.elim
      · exact p.elim
    · exact p.elim
/-! ### enumerate of a list or a tuple -/
/-! ### len(x), x of a class with its own __len__ -/
def fLenO (C : Addr) (fM : FnD) : OpN := fun xs s => match xs with
  | [.obj n] => match insAt s n with
    | some (C', _) => if C' = C then match fM [.obj n] s with
      | some (.ok (.int i), s') => if 0 ≤ i ∧ i < 2 ^ 63 then some (.int i, s') else none
      | _ => none
      else none
    | none => none
  | _ => none
def rN (K : PySem.W.Frag) (f : OpN) : List V → Hp → VK → Prop := fun vs H Q => ∃ φ s ds, So K φ H s ∧ Dts K φ H vs ds ∧ PsO K φ H Q (f ds s)
variable {k : Nat} {f C : Addr} {fd : FuncData} {fM : FnD}
theorem dc_lenO (F : FnX X k f fd ["self"] fM) (hr : RoomG (k + 1) X.A) (hb : Binds X.K fd ["self"] []) (tk : Takes X W) (hs : PySem.W.findIn X.K (.ref C) "__len__" = some (some (.ref f))) (hf : PySem.W.isFn X.K (.ref f) = true) : DCall X (.builtin "len") (fLenO C fM) := by
  refine ⟨rN X.K (fLenO C fM), fun pins s σ H xs us Q I r h => ?_, fun φ H s vs ds Q so rx p => ⟨φ, s, ds, so, rx, p⟩⟩
  obtain ⟨φ, st, ds, so, rs, h⟩ := h
  unfold fLenO at h
  split at h
  · rename_i n
    obtain ⟨v, rfl, r1⟩ := dts1 rs
    split at h
    · rename_i C' fs e1
      split at h
      · rename_i z
        subst z
        split at h
        · rename_i i s' e2
          split at h
          · rename_i hi
            have r1' := r1
            cases r1'
            rename_i a ha
            obtain ⟨b, hb', dx, vs, k1, _⟩ := so.at (insAt_eq e1)
            rw [ha] at hb'
            cases hb'
            rw [Vals.ref1 r]
            obtain ⟨mA, J, _⟩ := ins_get I.hok k1
            obtain ⟨od, J, _⟩ := J.look
            obtain ⟨m, hF⟩ := I.fr
            have hr1 : RoomG k X.A.in1 := ⟨hr.rm.in1, hr.gd⟩
            refine PySem.W.len_K hF I.ok.mod.kin J hs hf ?_
            have sp : spD X.K 1 fM [V.ref a] H (fun v H' => ∃ i : Int, v = .int i ∧ (0 ≤ i ∧ i < 2 ^ 63) ∧ Q (.int i) H') (WE W σ) := by
              refine ⟨rfl, [.obj n], φ, st, .cons r1 .nil, so, ?_⟩
              rw [e2]
              intro φ' v H' f so' rv
              cases rv
              exact ⟨i, rfl, hi, h φ' (.int i) H' f so' (.int _)⟩
            have e0 : Env0 X.prog X.w X.K X.mg X.base X.A.in1 X.stack s H := by
              have e := I.env0
              exact ⟨e.frames, e.mod, e.bs, e.bsz, e.funs, e.frf, e.hok, e.bare⟩
            have rr : Vals [V.ref a] [Value.ref a] := .cons rfl .nil
            refine wpAny_call (codeAny_mono (F.run X.A.in1 X.stack s H ⟨[.ref a], []⟩ [.ref a] [.ref a] _ (WE W σ) hr1 e0 (by
              have bb := hb s [.ref a] I.kIn (by simp)
              simpa using bb) rr sp) fun q s2 hq => ?_)
            cases q with
            | error e => exact passAt tk σ pins H s e s2 I hq
            | ok fl => cases fl with
              | ret w =>
                obtain ⟨z, H', I', rz, ⟨i', ez, hi', q⟩⟩ := I.after hq
                subst ez
                obtain ⟨t, ew⟩ := (show ∃ t, w = Value.int i' t from rz)
                subst ew
                exact ⟨hi', .int i', H', I'.tok _, ⟨_, rfl⟩, q⟩
              | next => exact hq.elim
              | brk => exact hq.elim
              | cont => exact hq.elim
          · exact h.elim
        · exact h.elim
      · exact h.elim
    · exact h.elim
  · exact h.elim
end
end DV

set_option maxHeartbeats 2000000
namespace DV
open PySem L2 PyProof.Rows
/-! ### the end of a law with several defs that write lambdas: their tables are the store's first objects -/
/-- a def that writes lambdas: its code object, the table of that, the name of its lambdas -/
structure Lm where
  c : Addr
  p : Addr
  q : Str
def tabO (L : List Lm) : Sto := L.map fun x => .tab x.p x.q
/-- the run over the data says True for every script -/
def AllTrueL (L : List Lm) (fM : FnD) : Prop := ∀ ns : List Int, ns.length ≤ 63 → ∃ s, fM [.fz (ns.map .int)] (tabO L) = some (.ok (.bl true), s)
theorem So.tabsO {K : PySem.W.Frag} {H : Hp} {L : List Lm} (nd : (L.map (·.p)).Nodup) (h : ∀ x ∈ L, LamX.TabS H x.p x.q) : So K (L.map (·.p)) H (tabO L) := by
  refine ⟨by unfold tabO; rw [List.length_map, List.length_map], nd, fun n o e => ?_⟩
  unfold tabO at e
  rw [List.getElem?_map, Option.map_eq_some_iff] at e
  obtain ⟨x, hx, rfl⟩ := e
  exact ⟨x.p, by rw [List.getElem?_map, hx]; rfl, rfl, h x (List.mem_of_getElem? hx)⟩
theorem law_topL {P : Program} {w : World} {K : PySem.W.Frag} {mg mb : Str → Option Value} {k : Nat} {fa a : Addr} {L : List Lm} {fd : FuncData} {x : Str} {fM : FnD} {t : Shared} {vs : List Value} {ns : List Int} (inK : K.In t.heap) (nsM : t.heap.Ns mainGlobals mg) (nsB : t.heap.Ns builtinsNs mb)
    (boot : ∀ y : Str, y ≠ "__name__" → mb y = bootBuiltins y) (lim : t.heap.NoLimit) (noG : t.gens = #[]) (tabP : ∀ y ∈ L, t.heap.get? y.p = some { cls := .none, data := .fields #[] }) (noK : ∀ y ∈ L, K.lookup y.p = none) (hd : ∀ y ∈ L, PySem.W.CodeHd t.heap y.c y.p) (nd : (L.map (·.p)).Nodup)
    (bm : ∃ (m : Addr) (o : Obj), mg "__builtins__" = some (.ref m) ∧ m ≠ builtinsNs ∧ t.heap.get? m = some o ∧ o.cls = .type "module" ∧ o.dict = some builtinsNs ∧ o.data = .plain)
    (script : t.heap.get? a = some { cls := .type "list", data := .seq vs.toArray }) (hints : IntsAre vs ns) (h63 : ns.length ≤ 63) (hr : RoomG k callerA)
    (F : ∀ base : Heap, K.In base → base.Ns mainGlobals mg → (∀ y ∈ L, LamX.TabB base mg y.c y.p) → FnG P w K mg base k fa fd [x] fM) (bind : ∀ (s : Shared) (u : Value), BindsTo s fd ⟨[u], []⟩ [(x, u)]) (hT : AllTrueL L fM) :
    codeAny (model P w) callerA (.call (.ref fa) ⟨[.ref a], []⟩) (fun r t2 => r = .ok (.ret (.bool true)) ∧ OldK t.heap t2.heap ∧ t2.os = t.os ∧ AllBare t2.gens) t := by
  have vals := vals_ints hints
  have small : ns.length ≤ sizeLine := Nat.le_of_lt (small1000 (by omega))
  have isT : ∀ b : Addr, b ∈ L.map (·.p) → t.heap.get? b = some { cls := .none, data := .fields #[] } := fun b hb => by
    obtain ⟨y, hy, e⟩ := List.mem_map.mp hb
    rw [← e]
    exact tabP y hy
  have memT : ∀ y ∈ L, y.p ∈ L.map (·.p) := fun y hy => List.mem_map.mpr ⟨y, hy, rfl⟩
  have aT : a ∉ L.map (·.p) := fun z => by
    have q := isT a z
    rw [script] at q
    have z' : Data.seq vs.toArray _ = Data.fields #[] := congrArg Obj.data (Option.some.inj q)
    cases z'
  -- H tracks the tables, and the script at most
  have run : ∀ H : Hp, (∀ y ∈ L, H y.p = some (.tbl #[])) → (∀ b, b ∉ L.map (·.p) → H b = none ∨ ∃ ob xs, H b = some (.frz ob (.lst xs))) → FzL K H a (ns.map V.int) → HOk P w H t.heap → (∀ b, H b ≠ none → b = a ∨ b ∈ L.map (·.p)) → (H a ≠ none → K.lookup a = none) →
      codeAny (model P w) callerA (.call (.ref fa) ⟨[.ref a], []⟩) (fun r t2 => r = .ok (.ret (.bool true)) ∧ OldK t.heap t2.heap ∧ t2.os = t.os ∧ AllBare t2.gens) t := fun H hp only fz hok alone free => by
    have plain : ∀ {b : Addr} {o : Obj}, t.heap.get? b = some o → (∀ us n, o.data ≠ .seq us n) → o.data ≠ .fields #[] → (hidT t.heap H).get? b = some o := fun {b o} e n1 n2 => hidT_get e (by
      cases q : H b with
      | none => rfl
      | some u =>
        rcases alone b (by rw [q]; simp) with z | z
        · subst z
          rw [script] at e
          cases e
          exact (n1 _ _ rfl).elim
        · rw [isT b z] at e
          cases e
          exact (n2 rfl).elim)
    have dicts : ∀ {b : Addr} {m : Str → Option Value}, t.heap.Ns b m → (hidT t.heap H).Ns b m := fun {b m} ⟨o, es, ep, e, d, r⟩ => ⟨o, es, ep, plain e (fun us n z => by rw [d] at z; cases z) (fun z => by rw [d] at z; cases z), d, r⟩
    have inB : K.In (hidT t.heap H) := fun b o e => hidT_get (inK b o e) (by
      cases q : H b with
      | none => rfl
      | some u =>
        rcases alone b (by rw [q]; simp) with z | z
        · subst z
          rw [free (by rw [q]; simp)] at e
          cases e
        · obtain ⟨y, hy, ey⟩ := List.mem_map.mp z
          rw [← ey, noK y hy] at e
          cases e)
    obtain ⟨ml, l1, l2⟩ := lim
    have md : Mod K mg (hidT t.heap H) := ⟨inB, dicts nsM, ⟨mb, dicts nsB, boot⟩, ⟨ml, dicts l1, l2⟩⟩
    have TB : ∀ y ∈ L, LamX.TabB (hidT t.heap H) mg y.c y.p := fun y hy => by
      have hTp := tabP y hy
      refine ⟨?_, ?_, fun z => ?_⟩
      · obtain ⟨o, us, file, tf, flags, tg, inF, text, tt, e, c1, c2, c3, c4, c5, c6, c7, c8, c9⟩ := hd y hy
        refine ⟨o, us, file, tf, flags, tg, inF, text, tt, plain e (fun vs n z => ?_) (fun z => ?_), c1, c2, c3, c4, c5, c6, c7, c8, c9⟩
        · rw [c2] at z
          cases z
        · rw [c2] at z
          cases z
          simp at c3
      · obtain ⟨m, o, b1, b2, b3, b4, b5, b6⟩ := bm
        refine ⟨m, o, b1, b2, fun z => ?_, fun z => ?_, plain b3 (fun vs n z => ?_) (fun z => ?_), b4, b5, b6⟩
        · obtain ⟨o', es, ep, e, hd, _⟩ := nsM
          rw [z, e] at b3
          cases b3
          rw [hd] at b6
          cases b6
        · rw [z, hTp] at b3
          cases b3
          cases b6
        · rw [b6] at z
          cases z
        · rw [b6] at z
          cases z
      · obtain ⟨o', es, ep, e, hd, _⟩ := nsM
        rw [z, hTp] at e
        cases e
        cases hd
    have env0 : Env0 P w K mg (hidT t.heap H) callerA [] t H := ⟨rfl, md, fun b o e => of_hidT e, Nat.le_of_eq (hidT_size _ _), trivial, fun b hb => absurd hb (by simp [frs]), hok, .of_eq noG⟩
    obtain ⟨s', hs⟩ := hT ns h63
    have sp : spD K 1 fM [.ref a] H (fun v _ => v = .bl true) fun _ _ _ => False := by
      refine ⟨rfl, [.fz (ns.map .int)], L.map (·.p), tabO L, .cons (.fz fz (Dts.of_ints ns)) .nil, So.tabsO nd fun y hy => LamX.TabS.nil (hp y hy), ?_⟩
      rw [hs]
      intro φ v H' _ _ rv
      cases rv
      rfl
    refine codeAny_mono ((F _ inB (dicts nsM) TB).run callerA [] t H ⟨[.ref a], []⟩ [.ref a] [.ref a] (fun v _ => v = .bl true) (fun _ _ _ => False) hr env0 (bind t (.ref a)) (.cons rfl .nil) sp) fun r t2 h => ?_
    cases r with
    | error e => exact (no_exc h).elim
    | ok fl => cases fl with
      | next => exact h.elim
      | brk => exact h.elim
      | cont => exact h.elim
      | ret u =>
        obtain ⟨v, H', os, bare, un, hok', rv, ev⟩ := h
        have ev' : v = .bl true := ev
        subst ev'
        obtain rfl : u = Value.bool true := rv
        have grown : ∀ y ∈ L, ∃ more : Array Value, t2.heap.get? y.p = some { cls := .none, data := .fields more } := fun y hy => by
          obtain ⟨more, z⟩ := un.tbls y.p #[] (hp y hy)
          exact ⟨_, hok' y.p _ z⟩
        have kept : ∀ b o, b ∉ L.map (·.p) → t.heap.get? b = some o → t2.heap.get? b = some o := fun b o np e => by
          rcases only b np with z | ⟨ob, xs, z⟩
          · exact un.keep b o e z (fun y => absurd y (by simp [frs])) (by simp)
          · obtain ⟨e1, _⟩ := hok b _ z
            obtain ⟨e2, _⟩ := hok' b _ (un.frzs b ob _ z)
            rw [e] at e1
            cases e1
            exact e2
        refine ⟨rfl, ⟨fun b o e => ?_, fun b o e => ?_⟩, os, bare⟩
        · by_cases hb : b ∈ L.map (·.p)
          · obtain ⟨y, hy, ey⟩ := List.mem_map.mp hb
            obtain ⟨more, hm⟩ := grown y hy
            rw [← ey] at e ⊢
            rw [tabP y hy] at e
            cases e
            exact .inr (.inl ⟨((hd y hy).tab (tabP y hy)).isCodeTable, rfl, #[], more, rfl, by rw [Array.empty_append]; exact hm⟩)
          · exact .inl (kept b o hb e)
        · by_cases hb : b ∈ L.map (·.p)
          · obtain ⟨y, hy, ey⟩ := List.mem_map.mp hb
            obtain ⟨more, hm⟩ := grown y hy
            rw [← ey]
            exact ⟨_, hm⟩
          · exact ⟨o, kept b o hb e⟩
  cases lk : K.lookup a with
  | some o =>
    have e := inK a o lk
    rw [script] at e
    cases e
    refine run (fun b => if b ∈ L.map (·.p) then some (.tbl #[]) else none) (fun y hy => if_pos (memT y hy)) (fun b n => .inl (if_neg n)) (.inr (.inr ⟨_, vs.toArray, _, lk, rfl, rfl, rfl, by rw [List.size_toArray, hints.length]; exact small, by simpa using vals⟩)) (fun b u z => ?_) (fun b z => ?_) fun z => absurd (if_neg aT) z
    · by_cases hb : b ∈ L.map (·.p)
      · cases (if_pos hb).symm.trans z
        exact isT b hb
      · cases (if_neg hb).symm.trans z
    · by_cases hb : b ∈ L.map (·.p)
      · exact .inr hb
      · exact absurd (if_neg hb) z
  | none =>
    refine run (fun b => if b = a then some (.frz { cls := .type "list", data := .seq vs.toArray } (.lst (ns.map V.int))) else if b ∈ L.map (·.p) then some (.tbl #[]) else none) (fun y hy => (if_neg (fun z : y.p = a => aT (z ▸ memT y hy))).trans (if_pos (memT y hy))) (fun b n => ?_) (.inl ⟨_, if_pos rfl⟩) (fun b u z => ?_) (fun b z => ?_) fun _ => lk
    · by_cases hb : b = a
      · exact .inr ⟨_, _, if_pos hb⟩
      · exact .inl ((if_neg hb).trans (if_neg n))
    · by_cases hb : b = a
      · subst hb
        cases (if_pos rfl).symm.trans z
        exact ⟨script, by rw [List.length_map]; exact small, vs, _, vals, script⟩
      · have z1 := (if_neg hb).symm.trans z
        by_cases hb2 : b ∈ L.map (·.p)
        · cases (if_pos hb2).symm.trans z1
          exact isT b hb2
        · cases (if_neg hb2).symm.trans z1
    · by_cases hb : b = a
      · exact .inl hb
      · by_cases hb2 : b ∈ L.map (·.p)
        · exact .inr hb2
        · exact absurd ((if_neg hb).trans (if_neg hb2)) z
/-- the goal at the law's head; names: the defs that write lambdas -/
theorem walk_topL {l : PySem.W.OpenLaw} {k : Nat} {q : Program} {loose : List Str} {XP : (Str → Option Value) → Heap → Prop} {YP : World → Heap → Prop} {d : DefRec} {K : Params → PySem.W.Frag} {x : Str} (names : List Str) (hn : l.most = some 63) (hdf : d.params.defaults = []) (hr : RoomG k callerA)
    (hrec : names.all (fun n => (recsOf q).any fun e => e.name == n) = true) (hY : ∀ (w : World) (h : Heap), YP w h → (K w.params).In h)
    (F : ∀ (w : World) (mg : Str → Option Value) (fa : Addr) (h : Heap), (K w.params).In h → h.Ns mainGlobals mg → mg d.name = some (.ref fa) → (∀ n ∈ names, ∀ a, mg n = some (.ref a) → LamX.OwnTab (K w.params) a h) →
      ∃ (fd : FuncData) (fM : FnD) (L : List Lm), AllTrueL L fM ∧ (∀ (s : Shared) (u : Value), BindsTo s fd ⟨[u], []⟩ [(x, u)]) ∧ (L.map (·.p)).Nodup ∧ (∀ y ∈ L, h.get? y.p = some { cls := .none, data := .fields #[] } ∧ (K w.params).lookup y.p = none ∧ PySem.W.CodeHd h y.c y.p) ∧
        ∀ base : Heap, (K w.params).In base → base.Ns mainGlobals mg → (∀ y ∈ L, LamX.TabB base mg y.c y.p) → FnG l.prog w (K w.params) mg base k fa fd [x] fM) :
    PySem.W.WalkO q loose XP YP l.row.toRowW d [] (fun f vs => PySem.call f vs) := by
  refine Att.attach_call hn hdf fun w s₀ t mg mb fa o pm cd doc a vs ns G Y _ _ _ hmg hobj hints hlen noG => ?_
  have inK := hY w _ Y
  have own : ∀ n ∈ names, ∀ a, mg n = some (.ref a) → LamX.OwnTab (K w.params) a t.heap := by
    intro n hn' a ha c P o1 fd1 e dd us sl k1 k2 k3 k4 k5
    obtain ⟨r, r1, r2⟩ := List.any_eq_true.mp (List.all_eq_true.mp hrec n hn')
    obtain ⟨a1, o2, fd2, c2, p2, g1, g2, g3, g4, g5, g6⟩ := G.T.tab r r1
    rw [beq_iff_eq.mp r2, ha] at g1
    cases g1
    rw [inK _ _ k1] at g2
    cases g2
    rw [k2] at g3
    cases g3
    rw [k3] at g4
    cases g4
    obtain ⟨⟨oc, vc, e1, _, e3, e4⟩, hP⟩ := g6
    rw [inK _ _ k4] at e1
    cases e1
    cases e3
    rw [k5] at e4
    cases e4
    exact hP
  obtain ⟨fd, fM, L, hT, hbd, nd, hL, hF⟩ := F w mg fa _ inK G.T.g hmg own
  exact law_topL inK G.T.g G.T.b G.T.builtins G.T.nolimit noG (fun y hy => (hL y hy).1) (fun y hy => (hL y hy).2.1) (fun y hy => (hL y hy).2.2) nd G.T.bmain hobj hints hlen hr hF hbd hT
/-! ### x(lambda: e), the table is the store's j-th object -/
def dLamJ (j : Nat) (P : Addr) (q : Str) (fM : Addr → M D → M D) (db : DX) : DX := fun Δ s => match (show List DO from s)[j]? with
  | some (DO.tab P' q') => if P' = P ∧ q' = q then fM 0 (db Δ) s else none
  | _ => none
section
variable {X : Cx} {W : WX}
theorem de_lamJ (j : Nat) {x qual a : Str} {st : Stmt} {g c P : Addr} {k : Nat} {fd : FuncData} {Ng : List Str} {params : Arguments} {body : Expr} {scope : Scope} {p lpos pos : Pos} {b : Addr → M D → DS} {fM : Addr → M D → M D} {db : DX}
    (hM : ∀ f wk, fM f wk = runFn Ng.length (b f wk) [.adr f]) (hi : ∀ f wk s, fM f wk s = fM 0 wk s)
    (hm : X.mg x = some (.ref g)) (hk : PySem.W.keepIn X.K (.ref g) = true) (F : Fun X.K x qual st g fd) (S : FnScope Ng [a] (defScope st)) (hb : Binds X.K fd [a] []) (hr : RoomG (k + 2) X.A) (tk : Takes X W)
    (TB : LamX.TabB X.base X.mg c P) (hcode : X.env.code = .ref c) (L : LamX.LamS X.env.scope scope) (hdef : defaultsOf params X.env = ([], []))
    (hbind : ∀ (q : Str) (cl : List (Str × Addr)) (pm cv ctv : Value), bindArgs (PySem.W.kla_fn "<lambda>" q params body scope cl pm cv ctv) ⟨[], []⟩ = pure [])
    (hcal : ∀ (cdv : Value) (f : Addr) (wk : M D) (s : Shared) (H : Hp) (E : XK) (φ0 : List Addr), RoomG (k + 1) (Zx X Ng qual (defScope st) g cdv s H E).A → Takes (Zx X Ng qual (defScope st) g cdv s H E) (EW E) →
      PassesOwn (model X.prog X.w) (Zx X Ng qual (defScope st) g cdv s H E).A (Zx X Ng qual (defScope st) g cdv s H E).env (Zx X Ng qual (defScope st) g cdv s H E).xe →
      (∀ (W' : WX) (pn : List (Addr × Obj)) (xe : Value → Shared → Prop) (p1 p2 : Pos), Takes ((Zx X Ng qual (defScope st) g cdv s H E).tr pn xe) W' → DEp ((Zx X Ng qual (defScope st) g cdv s H E).tr pn xe) W' φ0 H (.Call (.Name a p1) [] [] p2) (dWk 0 f wk)) →
      DSsp (Zx X Ng qual (defScope st) g cdv s H E) (EW E) φ0 H (defBody st) (b f wk))
    (hbody : ∀ (A : Around) (outer : List Env) (s : Shared) (H : Hp) (E : XK) (f c' : Addr), RoomG k (A.deeper (LamX.lamEnv X scope s.heap.objs.size f c')) → Takes (LamX.lamCx X A outer s H E scope f c') (EW E) → DE (LamX.lamCx X A outer s H E scope f c') (EW E) body db)
    (ha0 : Ng[0]? = some a := by rfl) (hva : Vis (defScope st) a := by first | exact Or.inl rfl | exact Or.inr (Or.inl rfl)) (hg : Gl X x := by rfl)
    (hdb : (x == ("__debug__" : Str)) = false := by decide) (hda : (a == ("__debug__" : Str)) = false := by decide) (hca : (a == ("__classdict__" : Str)) = false := by decide) :
    DE X W (.Call (.Name x p) [.Lambda params body scope lpos] [] pos) (dLamJ j P (X.env.qual ++ "<lambda>") fM db) := by
  refine ⟨fun pins s σ H Q I ⟨Δ, φ, stt, hσ, hs, h⟩ => ?_⟩
  unfold dLamJ at h
  split at h
  · rename_i P' q' e0
    split at h
    · rename_i ePq
      obtain ⟨eP, eq⟩ := ePq
      subst eP eq
      refine wpAny_Call_Name_kw (ld_glob I hg hm ?_ hdb)
      refine PySem.W.callWith_K (h₀ := X.base) I.ok.mod.kin hk ?_ (by rfl) (by rfl)
      refine Calls.spliced_cons (LamX.lam_make2 (T := tabsOf stt) I TB hcode (tabsOf_mem e0) (hs.tab1 e0) hs.tabs hdef (L.has I.ok) fun f c' pm' ctv H1 s1 I1 eN T1 hf hfn hfr hco => ?_)
      refine Calls.spliced_nil ⟨I1.kIn, ?_⟩
      have f1 : Fu X.K φ φ H H1 := fu_ext eN
      have so1 : So X.K φ H1 stt := hs.ext eN T1
      have sg1 : Sg X.K φ H1 σ Δ := hσ.fu f1
      have h1 : Ps X.K (wAt W σ) (Dt X.K) φ H1 (fun _ v H' _ _ => Q v H') (fM f (db Δ) stt) := by
        rw [hi]
        exact h.shift f1
      have ran : codeAny (model X.prog X.w) X.A (.call (.ref g) ⟨[.ref f], []⟩) (CR (L2.CX X.prog X.w) X.stack X.prog X.w H1 s1 Q (WE W σ)) s1 := by
        obtain ⟨oc, od, kV, doc, pm, an, cdv, ct, osl, rfl, lk, hcd⟩ := F.ex
        have env0 := I1.env0
        have kin := I1.kIn
        have bind := hb s1 [.ref f] kin rfl
        have par : ∀ y ∈ [a].zip [Value.ref f], (defScope st).names.lookup y.1 = some .local ∨ ((defScope st).names.lookup y.1 = some .cell ∧ ((cellsFrom (s1.heap.objs.size + 1) (defScope st).names []).lookup y.1).isSome = true) := fun y hy => by
          rcases S.par y.1 (List.of_mem_zip (a := y.1) (b := y.2) hy).1 with q | q
          · exact Or.inl q
          · exact Or.inr (And.intro q (PySem.W.cellsFrom_some _ _ _ (Or.inl q)))
        refine codeAny_call_function hr.rm.depth (kin _ _ lk) rfl S.co S.gen rfl (PySem.W.codeRec_of kin hcd) (bind _ _ _ _ ?_)
        refine wpAny_newFunctionEnv_cells S.kind par fun env henv t1 inc => ?_
        subst henv
        have hr1 : RoomG (k + 1) (Zx X Ng qual (defScope st) g cdv s1 H1 (WE W σ)).A := hr.deeper _
        have cal := hcal cdv f (db Δ) s1 H1 (WE W σ) φ hr1 (takes_of rfl rfl rfl rfl) (passes_of rfl) fun W' pn xe p1 p2 tk' =>
          de_act I1 L hf hfn hfr hco (hbind _ _ _ _ _) tk' hr1 sg1 (fun s2 HZ E' r2 t2 => hbody _ _ s2 HZ E' f c' r2 t2) ha0 hva hda hca
        have J0 : Inv (Zx X Ng qual (defScope st) g cdv s1 H1 (WE W σ)) [] (L2.start Ng [.ref f]) H1 t1 := inv_start (us := [.ref f]) S hr.rm.hd env0 rfl (.cons rfl .nil) inc
        have start : upSP X.K (EW (WE W σ)) φ H1 (b f (db Δ)) { nx := fun _ H' => Q .non H', rt := Q } (L2.start Ng [.ref f]) H1 := by
          refine ⟨startD Ng.length [.adr f], φ, stt, Fu.refl _ _, Sg.start (.cons (.adr f) .nil), so1, ?_⟩
          rw [hM] at h1
          unfold runFn at h1
          cases e : b f (db Δ) (startD Ng.length [.adr f]) stt with
          | none => rw [e] at h1; exact h1.elim
          | some pr =>
            obtain ⟨q, s'⟩ := pr
            rw [e] at h1
            cases q with
            | rt d => exact h1
            | nx Δ => exact fun ψ σ' H' g so' _ => h1 ψ .non H' g so' .non
            | ex x Δ => exact fun ψ σ' H' c dd g so' _ xr => h1 ψ H' c dd g so' xr
            | bk Δ => exact h1.elim
            | ct Δ => exact h1.elim
        have ends : ∀ {σ' : L2.St} {H' : Hp} {v : V} {u : Value} {t2 : Shared}, Inv (Zx X Ng qual (defScope st) g cdv s1 H1 (WE W σ)) [] σ' H' t2 → RelV v u → Q v H' → CE X.stack X.prog X.w H1 s1 Q u t2 := fun {σ' H' v u t2} J rv q => ⟨v, H', J.os, J.bare, J.base, J.hok, rv, q⟩
        refine ⟨env0.mod.nolimit.keeps fun d u e => inc.toInCall.keep d u (env0.bs d u e).1, codeAny_func (wpAny_mono (cal.run [] t1 (L2.start Ng [.ref f]) H1 _ J0 start) (fun fl t2 hs => ?_) fun _ _ hs => hs)⟩
        cases fl with
        | ret u => obtain ⟨v, σ', H', J, rv, q⟩ := hs; exact ends J rv q
        | next => obtain ⟨σ', H', J, q⟩ := hs; exact ends (v := V.non) (u := Value.none) J rfl q
        | brk => obtain ⟨_, _, _, q⟩ := hs; exact q.elim
        | cont => obtain ⟨_, _, _, q⟩ := hs; exact q.elim
      refine wpAny_call (codeAny_mono ran fun r s2 hq => ?_)
      cases r with
      | error e => exact passAt tk σ pins H1 s1 e s2 I1 hq
      | ok fl => cases fl with
        | ret u => exact I1.after hq
        | next => exact hq.elim
        | brk => exact hq.elim
        | cont => exact hq.elim
    · exact h.elim
  · exact h.elim
end

/-- a block's names, as relabel makes them -/
def relabelS (scope sc : Scope) : Scope := { scope with names := scope.names.map fun (n, k) => if (k == .free && sc.kind == .function && sc.names.lookup n == some .cell) then (n, .cell) else (n, k) }
theorem lamS_rel {scope lscope sc : Scope} {env : Env} (e : env.scope = sc) (h : LamX.lamSB (relabelS scope sc) lscope = true) : LamX.LamS (relabel scope env) lscope := by
  have r : relabel scope env = relabelS scope sc := by
    subst e
    rfl
  rw [r]
  exact LamX.lamS_by h
end DV

set_option maxHeartbeats 2000000
namespace PySem
open Sem (wp)
theorem enum_newTup (t : Addr) (its : Array Value) :
    Meets (Builtin.«enumerate.__new__» ⟨[.type "enumerate", .ref t], []⟩) (fun _ R s => s.heap.IsTuple t its ∧
      R (.ok (.ret (.ref (s.heap.push { cls := .type "tuple_iterator", data := .fields #[.ref t, .int 0 0] }).objs.size)))
        { s with heap := (s.heap.push { cls := .type "tuple_iterator", data := .fields #[.ref t, .int 0 0] }).push { cls := .type "enumerate", data := .fields #[.none, .bool false, .ref s.heap.objs.size, rawInt 0, .none, .none] } }) :=
  .of_wp fun prog w A R s both => by
    obtain ⟨hp, g, d, tk, os⟩ := s
    obtain ⟨ht, h⟩ := both
    have hsub := sub_enumerate
    have hL : Heap.IsTuple (Shared.heap ⟨hp, g, d, tk, os⟩) t its := ht
    wp_walk
    refine wpAny_stack_any fun _ => wpAny_pure ?_
    split
    · rename_i cls _ _ _ _ _
      cases (cls == Value.type "enumerate")
      all_goals (wp_walk using wpAny_pyIter_tuple hL; exact ⟨_, rfl, h⟩)
    · wp_walk using wpAny_pyIter_tuple hL
      exact ⟨_, rfl, h⟩
theorem enum_tup {prog : Program} {w : World} {A : Around} {E : Value → Shared → Prop} {s : Shared} {t : Addr} {its : Array Value} {Q : Value → Shared → Prop} (ht : s.heap.IsTuple t its)
    (h : ∀ h', IsEnum h' (s.heap.objs.size + 1) s.heap.objs.size 0 .none → h'.IsTupleIter s.heap.objs.size t 0 → (∀ b o, s.heap.get? b = some o → h'.get? b = some o) → Q (.ref (s.heap.objs.size + 1)) { s with heap := h' }) :
    wpAny (model prog w) A (call (.type "enumerate") [.ref t]) Q E s := by
  refine callType_new F.called_enumerate (by decide) (F.typeCall_enumerate_1 _) (F.newCall_enumerate_1 _) (fun obj => F.args_object_init_2 obj _) F.entry_enumerate_new (enum_newTup t its) ⟨ht, ?_⟩
  have sz : (s.heap.push { cls := .type "tuple_iterator", data := .fields #[.ref t, .int 0 0] }).objs.size = s.heap.objs.size + 1 := Heap.size_push ..
  show _ ∧ _
  rw [sz]
  have he : IsEnum ((s.heap.push { cls := .type "tuple_iterator", data := .fields #[.ref t, .int 0 0] }).push { cls := .type "enumerate", data := .fields #[.none, .bool false, .ref s.heap.objs.size, rawInt 0, .none, .none] }) (s.heap.objs.size + 1) s.heap.objs.size 0 .none := by
    have z := Heap.get?_push_size (s.heap.push { cls := .type "tuple_iterator", data := .fields #[.ref t, .int 0 0] }) (o := { cls := .type "enumerate", data := .fields #[.none, .bool false, .ref s.heap.objs.size, rawInt 0, .none, .none] }) rfl
    rw [sz] at z
    exact z
  exact ⟨⟨_, he, rfl⟩, h _ he ⟨_, Heap.get?_push_of_some _ (Heap.get?_push_size _ rfl), rfl, rfl⟩ fun b o x => Heap.get?_push_of_some _ (Heap.get?_push_of_some _ x)⟩
theorem enT_end {prog : Program} {w : World} {A : Around} {E : Value → Shared → Prop} {s : Shared} {e it t : Addr} {c : Int} {i : Nat} {old : Value} {its : Array Value} {Q : Option Value → Shared → Prop} (hh : A.handled = none) (he : IsEnum s.heap e it c old) (hit : s.heap.IsTupleIter it t i) (ht : s.heap.IsTuple t its) (hx : its[i]? = none)
    (hQ : ∀ h', Heap.ExtBut it s.heap h' → Q none { s with heap := h' }) : wpAny (model prog w) A (pyNext (.ref e)) Q E s := by
  have ty : s.TypeIs (.ref e) "enumerate" := ⟨_, he, rfl⟩
  have last : wpAny (model prog w) A.in1 (Builtin.«enumerate.__next__» ⟨[.ref e], []⟩) (fun fin s' => ∃ v, fin = .done (.ret v) ∧ False) (fun x s' => ∃ b, x = .ref b ∧ (∃ o, s'.heap.get? b = some o ∧ o.cls = .type "StopIteration") ∧ ∃ h', Heap.ExtBut it s.heap h' ∧ s' = { s with heap := h' }) s := by
    show wpAny _ _ (field (.ref e) 2 >>= _) _ _ s
    refine wpAny_bind (wpAny_field he rfl (x := .ref it) rfl (wpAny_bind (wpAny_nextOf_tuple_end (A := A.in1) hh hit ht hx fun h' b x st => ?_)))
    exact ⟨b, rfl, st, h', x, rfl⟩
  unfold pyNext
  refine wpAny_bind (wpAny_attempt (wpAny_callSpecial?_slot (name := Str.ofString "__next__") ty F.slot_enumerate_next (wpAny_call_entry F.slot_enumerate_next ty F.entry_enumerate_next (wpAny_mono last (fun f s' z => ?_) fun x s' z => ?_) (F.args_enumerate_next_1 _))))
  · obtain ⟨_, _, z⟩ := z
    exact z.elim
  · obtain ⟨b, rfl, ⟨o, ho, hc⟩, h', hx', rfl⟩ := z
    refine wpAny_bind (wpAny_isInstance (T := "StopIteration") (b := true) ⟨o, ho, hc⟩ isSubtype_stop ?_)
    exact wpAny_pure (hQ _ hx')
end PySem
namespace DV
open PySem L2 PyProof.Rows
/-! ### enumerate of a tuple -/
def IteT (K : PySem.W.Frag) (a : Addr) : It :=
  ⟨fun i H => ∃ (xs : List V) (x : V), SqT K H a xs ∧ xs[i]? = some x, fun i H v H' => ∃ T x, v = .ref T ∧ H T = none ∧ H' = upd H T (.tup [.int (i : Nat), x]) ∧ ∀ xs, SqT K H a xs → xs[i]? = some x, fun i H => ∃ xs : List V, SqT K H a xs ∧ xs.length ≤ i⟩
theorem turn_enT {P : Program} {w : World} {K : PySem.W.Frag} {elts : List Expr} {kk : Nat} {tpos : Pos} (a e it : Addr) :
    Turn P w K (.Tuple elts kk tpos) (IteT K a) [e, it] e (fun i h => (∃ old, IsEnum h e it ((i : Nat) : Int) old) ∧ h.IsTupleIter it a i ∧ e ≠ it) where
  mem := by simp
  obj := fun i h st b hb => by
    obtain ⟨⟨old, he⟩, ⟨o, ho, hc, hd⟩, _⟩ := st
    rcases (show b = e ∨ b = it by simpa using hb) with z | z
    · subst z; exact ⟨_, he, fun v q => nomatch q⟩
    · subst z; exact ⟨o, ho, fun v q => by rw [hd] at q; cases q⟩
  keep := fun i h h' st k => by
    obtain ⟨⟨old, he⟩, hi, hne⟩ := st
    exact ⟨⟨old, k e (by simp) _ he⟩, hi.at fun o q => k it (by simp) o q, hne⟩
  item := by
    intro X hP hw hK hc i pins s σ H E I hf st hg
    subst hP hw hK
    obtain ⟨⟨old, he⟩, hit, hne⟩ := st
    obtain ⟨xs, x, hq, hx⟩ := hg
    obtain ⟨its, rv, p, hz⟩ := I.tuple hq
    obtain ⟨u, hu, ru⟩ := rv.get hx
    have el : e < s.heap.objs.size := Heap.lt_size he
    have il : it < s.heap.objs.size := by obtain ⟨_, q, _⟩ := hit; exact Heap.lt_size q
    have nt : a ≠ it := fun z => by
      obtain ⟨o1, q1, q2, _⟩ := p
      obtain ⟨o2, q3, q4, _⟩ := hit
      rw [z, q3] at q1
      cases q1
      exact absurd (Value.type.inj (q4.symm.trans q2)) (by decide)
    have na : e ≠ a := fun z => by
      obtain ⟨o1, q1, q2, _⟩ := p
      rw [← z, he] at q1
      cases q1
      exact absurd (Value.type.inj q2) (by decide)
    refine wpAny_pyNext_enum_itemD (Draws.tuple (prog := X.prog) (w := X.w) (A := X.A.in1) (show X.A.in1.handled = none from I.ok.hd hc) it a nt its.toArray) he ⟨hit, p⟩ (by
      have := (List.getElem?_eq_some_iff.mp hu).1
      simpa using this) hne (by simp [hne, na]) fun x1 h' tk hP ho hst hT hsz hk => ?_
    have ex : x1 = u := by
      rw [List.getElem?_toArray, hu] at hP
      exact (Option.some.inj hP).symm
    subst ex
    refine ⟨_, rfl, wpAny_letOwnedTupleGo_enum (s := { s with heap := h', toks := tk + 1 }) ho fun h'' he' sb => ?_⟩
    have hT2 : h''.get? s.heap.objs.size = some { cls := .type "tuple", data := .seq #[.int i tk, x1] } := (sb.2 _ (Nat.ne_of_gt el)).trans hT
    have new : ObjOk X.prog X.w (upd H s.heap.objs.size (.tup [.int (i : Nat), x])) h'' s.heap.objs.size (.tup [.int (i : Nat), x]) :=
      ⟨by show 2 ≤ sizeLine; decide, [.int i tk, x1], .cons ⟨_, rfl⟩ (.cons ru .nil), ⟨_, hT2, rfl, _, rfl⟩⟩
    have I1 : Inv X pins σ (upd H s.heap.objs.size (.tup [.int (i : Nat), x])) { s with heap := h'', toks := tk + 1 } :=
      I.turnedNew (ch := [e, it]) (fun b ob hb q => (sb.2 b (fun z => hb (by simp [z]))).trans (hk b ob (fun z => hb (by simp [z])) (fun z => hb (by simp [z])) q)) hf (Nat.le_refl _) new
    refine ⟨.ref s.heap.objs.size, _, I1, rfl, ⟨_, x, rfl, I.hok.fresh (Nat.le_refl _), rfl, fun ys hy => by rw [I.tuple_inj hy hq]; exact hx⟩, ⟨⟨x1, ?_⟩, hst.1.at fun o q => (sb.2 it (Ne.symm hne)).trans q, hne⟩, fun b hb => ?_⟩
    · have e1 : ((i + 1 : Nat) : Int) = (i : Int) + 1 := by omega
      rw [e1]; exact he'
    · have lt : b < s.heap.objs.size := by
        rcases (show b = e ∨ b = it by simpa using hb) with z | z
        · rw [z]; exact el
        · rw [z]; exact il
      rw [upd_ne (Nat.ne_of_lt lt)]
      exact (hf b hb).1
  done := by
    intro X hP hw hK hc i pins s σ H E I hf st hg
    subst hP hw hK
    obtain ⟨⟨old, he⟩, hit, hne⟩ := st
    obtain ⟨xs, hq, hx⟩ := hg
    obtain ⟨its, rv, p, hz⟩ := I.tuple hq
    obtain ⟨f0, f1, f2, f3, f4, f5⟩ := hf it (by simp)
    have nt : a ≠ it := fun z => by
      obtain ⟨o1, q1, q2, _⟩ := p
      obtain ⟨o2, q3, q4, _⟩ := hit
      rw [z, q3] at q1
      cases q1
      exact absurd (Value.type.inj (q4.symm.trans q2)) (by decide)
    have hl := Paired.length rv
    exact enT_end (I.ok.hd hc) he hit p (by simp; omega) fun h' eb => ⟨rfl, I.turned (t' := s.toks) (fun b o hb q => eb b o hb q) f0 f1 f3 f4 f5⟩
  self := fun A i s Q E st h => let ⟨⟨_, he⟩, _⟩ := st; wpAny_pyIter_enum he h
/-- enumerate(x), x a list or a tuple -/
def iEnumA (da : DA) : DI := fun Δ => mbind (da Δ) fun xs s => match xs with
  | [.obj n] => match lstAt s n with
    | some ys => some (.ok ⟨enumD 0 ys, some (n, ys)⟩, s)
    | none => none
  | [.tup ys] => some (.ok ⟨enumD 0 ys, none⟩, s)
  | _ => none
theorem yl_enT {K : PySem.W.Frag} {φ : List Addr} {H : Hp} {a : Addr} {vs : List V} {xs : List D} (h : SqT K H a vs) (r : Dts K φ H vs xs) : Yl K φ H (IteT K a) ⟨enumD 0 xs, none⟩ := fun φ' H' s' f so st i => by
  have k := f.go _ _ h
  refine ⟨fun d e => ?_, fun h => ⟨vs, k, by rw [r.length]; rw [enumD_len] at h; exact h⟩⟩
  obtain ⟨x, hx, rfl⟩ := enumD_get xs 0 i d e
  obtain ⟨v, hv, rv⟩ := r.get hx
  refine ⟨⟨vs, v, k, hv⟩, fun w H'' y => ?_⟩
  obtain ⟨T, z, rfl, hT, rfl, y⟩ := y
  have e2 := y vs k
  rw [hv] at e2
  cases e2
  have fT : Fu K φ' φ' H' (upd H' T (.tup [.int (i : Nat), v])) := fu_new hT
  exact ⟨fT, so.new hT, .tup (SqT.of upd_same) (.cons (by rw [Nat.zero_add]; exact .int _) (.cons ((rv.fu f).fu fT) .nil))⟩
def iEnB (K : PySem.W.Frag) (ta : TA) : TI := fun σ H R => ta σ H fun vs H1 => ∃ a, vs = [.ref a] ∧ ((∃ xs, SqL K H1 a xs ∧ R (Ite K a) H1) ∨ ∃ xs, SqT K H1 a xs ∧ R (IteT K a) H1)
theorem pi_enB {X : Cx} {e : Expr} {ta : TA} {p pos tpos : Pos} {elts : List Expr} {kk : Nat} (hg : Gl X "enumerate") (hm : X.mg "enumerate" = none) (ha : PA X [e] ta) (hs : starEach [e] X.env = [(false, eval e X.env)] := by rfl) : PI X (.Tuple elts kk tpos) (.Call (.Name "enumerate" p) [e] [] pos) (iEnB X.K ta) := by
  refine ⟨fun pins s σ H R I h => Call_ (ld_blt I hg hm boot_enumerate (PyProof.Rows.callWith_type1 (thn (ha.run pos pins s σ H _ I h) fun us s1 ⟨vs, H1, I1, r1, a, ex, both⟩ => ?_) hs rfl))⟩
  subst ex
  rw [Vals.ref1 r1]
  have fp : ∀ b ∈ [s1.heap.objs.size + 1, s1.heap.objs.size], FpOk X pins H1 b := fun b hb => by
    have le : s1.heap.objs.size ≤ b := by
      rcases (show b = s1.heap.objs.size + 1 ∨ b = s1.heap.objs.size by simpa using hb) with z | z
      · rw [z]; exact Nat.le_succ _
      · rw [z]; exact Nat.le_refl _
    exact I1.fpOk le (I1.hok.fresh le)
  rcases both with ⟨xs, hq, q⟩ | ⟨xs, hq, q⟩
  · obtain ⟨its, rv, p', hz⟩ := I1.list hq
    refine call_enumerate_list p'.isList fun h' he hit hsz hk => wpAny_pyIter_enum he ?_
    exact ⟨s1.heap.objs.size + 1, _, _, _, H1, rfl, I1.kept (t' := s1.toks) hk, turn_enum a (s1.heap.objs.size + 1) s1.heap.objs.size, ⟨⟨.none, he⟩, hit, Nat.succ_ne_self _⟩, fp, q⟩
  · obtain ⟨its, rv, p', hz⟩ := I1.tuple hq
    refine enum_tup p' fun h' he hit hk => wpAny_pyIter_enum he ?_
    exact ⟨s1.heap.objs.size + 1, _, _, _, H1, rfl, I1.kept (t' := s1.toks) hk, turn_enT a (s1.heap.objs.size + 1) s1.heap.objs.size, ⟨⟨.none, he⟩, hit, Nat.succ_ne_self _⟩, fp, q⟩
theorem di_enB {X : Cx} {W : WX} {elts : List Expr} {kk : Nat} {tpos : Pos} {e : Expr} {da : DA} {p pos : Pos} (hg : Gl X "enumerate") (hm : X.mg "enumerate" = none) (ha : DAs X W [e] da) (hs : starEach [e] X.env = [(false, eval e X.env)] := by rfl) : DIt X W (.Tuple elts kk tpos) (.Call (.Name "enumerate" p) [e] [] pos) (iEnumA da) :=
  pi_imp (pi_enB hg hm ha hs) fun σ H R ⟨Δ, φ, s, hσ, hs, h⟩ => upA_bind hσ hs h fun φ1 v H1 x s1 f1 hσ1 hs1 rx h1 => by
    split at h1
    · rename_i n
      obtain ⟨u, rfl, r⟩ := dts1 rx
      cases r
      rename_i a ha
      split at h1
      · rename_i xs e
        obtain ⟨vs, k, r⟩ := hs1.lst (lstAt_eq e) ha
        exact ⟨a, rfl, .inl ⟨vs, SqL.of k, h1.ok hs1 (yl_enum ha)⟩⟩
      · exact h1.elim
    · obtain ⟨u, rfl, r⟩ := dts1 rx
      cases r
      rename_i a vs hq r
      exact ⟨a, rfl, .inr ⟨vs, hq, h1.ok hs1 (yl_enT hq r)⟩⟩
    · exact h1.elim
end DV

namespace DV
open PySem L2 PyProof.Rows
/-! ### a def that gets a lambda does not look at it, piece by piece -/
theorem fin_first {P Q Q' : DS} {Δ Δ0 Δ1 Δ2 : Dn} {s s1 : Sto} (h1 : P Δ s = some (.nx Δ1, s1)) (h2 : P Δ0 s = some (.nx Δ2, s1)) (h : finS (Q Δ1 s1) = finS (Q' Δ2 s1)) : finS (dSeq P Q Δ s) = finS (dSeq P Q' Δ0 s) := by
  unfold dSeq
  rw [h1, h2]
  exact h
def catchD (i j : Nat) (Δ : Dn) (x : Xc) : Dn := (Δ.set j (some (.exc x.cls (x.fs.map (·.1)) (x.fs.map (·.2))))).set i none
theorem fin_try {L : List Addr} {i j : Nat} {W W0 R : DS} {Δ Δ0 : Dn} {s : Sto}
    (hW : (W Δ s = none ∧ W0 Δ0 s = none) ∨ (∃ Δ1 Δ2 s1, W Δ s = some (.nx Δ1, s1) ∧ W0 Δ0 s = some (.nx Δ2, s1) ∧ finS (R Δ1 s1) = finS (R Δ2 s1)) ∨ (∃ x s1, W Δ s = some (.ex x Δ, s1) ∧ W0 Δ0 s = some (.ex x Δ0, s1) ∧ finS (R (catchD i j Δ x) s1) = finS (R (catchD i j Δ0 x) s1)))
    (hl : Δ.length = Δ0.length) : finS (dSeq (dTryK L i j W) R Δ s) = finS (dSeq (dTryK L i j W0) R Δ0 s) := by
  unfold dSeq dTryK
  rcases hW with ⟨h1, h2⟩ | ⟨Δ1, Δ2, s1, h1, h2, h3⟩ | ⟨x, s1, h1, h2, h3⟩
  · rw [h1, h2]
  · rw [h1, h2]
    exact h3
  · rw [h1, h2]
    dsimp only
    rw [hl]
    by_cases c : x.cls ∈ L ∧ i < Δ0.length ∧ j < Δ0.length
    · rw [if_pos c, if_pos c]
      exact h3
    · rw [if_neg c, if_neg c]
theorem wk_drop {i j : Nat} {f : Addr} {wk : M D} {R : DS} {Δ Δ0 : Dn} {s : Sto} (h1 : Δ[0]? = some (some (.adr f))) (h2 : Δ0[0]? = some (some (.adr 0))) (hR : ∀ s1, finS (R Δ s1) = finS (R Δ0 s1)) (hC : ∀ x s1, finS (R (catchD i j Δ x) s1) = finS (R (catchD i j Δ0 x) s1)) :
    (dDrop (dWk 0 f wk) Δ s = none ∧ dDrop (dWk 0 0 wk) Δ0 s = none) ∨ (∃ Δ1 Δ2 s1, dDrop (dWk 0 f wk) Δ s = some (.nx Δ1, s1) ∧ dDrop (dWk 0 0 wk) Δ0 s = some (.nx Δ2, s1) ∧ finS (R Δ1 s1) = finS (R Δ2 s1)) ∨
      (∃ x s1, dDrop (dWk 0 f wk) Δ s = some (.ex x Δ, s1) ∧ dDrop (dWk 0 0 wk) Δ0 s = some (.ex x Δ0, s1) ∧ finS (R (catchD i j Δ x) s1) = finS (R (catchD i j Δ0 x) s1)) := by
  have e1 : dWk 0 f wk Δ s = wk s := by simp [dWk, h1]
  have e2 : dWk 0 0 wk Δ0 s = wk s := by simp [dWk, h2]
  unfold dDrop sbind
  rw [e1, e2]
  cases wk s with
  | none => exact .inl ⟨rfl, rfl⟩
  | some p =>
    obtain ⟨q, s1⟩ := p
    cases q with
    | ok a => exact .inr (.inl ⟨_, _, _, rfl, rfl, hR s1⟩)
    | error x => exact .inr (.inr ⟨x, s1, rfl, rfl, hC x s1⟩)
theorem wk_asg {i j k : Nat} {f : Addr} {wk : M D} {R : DS} {Δ Δ0 : Dn} {s : Sto} (h1 : Δ[0]? = some (some (.adr f))) (h2 : Δ0[0]? = some (some (.adr 0))) (hR : ∀ d s1, finS (R (Δ.set k (some d)) s1) = finS (R (Δ0.set k (some d)) s1)) (hC : ∀ x s1, finS (R (catchD i j Δ x) s1) = finS (R (catchD i j Δ0 x) s1)) :
    (dAsg (dWk 0 f wk) (gN k) Δ s = none ∧ dAsg (dWk 0 0 wk) (gN k) Δ0 s = none) ∨ (∃ Δ1 Δ2 s1, dAsg (dWk 0 f wk) (gN k) Δ s = some (.nx Δ1, s1) ∧ dAsg (dWk 0 0 wk) (gN k) Δ0 s = some (.nx Δ2, s1) ∧ finS (R Δ1 s1) = finS (R Δ2 s1)) ∨
      (∃ x s1, dAsg (dWk 0 f wk) (gN k) Δ s = some (.ex x Δ, s1) ∧ dAsg (dWk 0 0 wk) (gN k) Δ0 s = some (.ex x Δ0, s1) ∧ finS (R (catchD i j Δ x) s1) = finS (R (catchD i j Δ0 x) s1)) := by
  have e1 : dWk 0 f wk Δ s = wk s := by simp [dWk, h1]
  have e2 : dWk 0 0 wk Δ0 s = wk s := by simp [dWk, h2]
  unfold dAsg sbind gN
  rw [e1, e2]
  cases wk s with
  | none => exact .inl ⟨rfl, rfl⟩
  | some p =>
    obtain ⟨q, s1⟩ := p
    cases q with
    | ok a => exact .inr (.inl ⟨_, _, _, rfl, rfl, hR a s1⟩)
    | error x => exact .inr (.inr ⟨x, s1, rfl, rfl, hC x s1⟩)
theorem asg_two {i j : Nat} {a b : D} {Δ : Dn} {s : Sto} : dAsg (dTup (dCons (dC a) (dCons (dC b) dNil))) (gTp 2 (gsCons (gN i) (gsCons (gN j) gsNil))) Δ s = some (.nx ((Δ.set i (some a)).set j (some b)), s) := by
  have l2 : 2 ≤ sizeLine := by rw [sizeLine_eq]; omega
  simp [dAsg, dTup, dCons, dNil, dC, mbind, mret, sbind, l2, gTp, gsCons, gsNil, gN]
/-! ### runs that do not look at the first name -/
structure Same0 (Δ Δ' : Dn) : Prop where
  len : Δ.length = Δ'.length
  get : ∀ i : Nat, Δ[i + 1]? = Δ'[i + 1]?
theorem Same0.set {Δ Δ' : Dn} (h : Same0 Δ Δ') (i : Nat) (o : Option D) : Same0 (Δ.set (i + 1) o) (Δ'.set (i + 1) o) := ⟨by rw [List.length_set, List.length_set, h.len], fun j => by
  rw [List.getElem?_set, List.getElem?_set, h.len, h.get j]⟩
theorem Same0.wipe {Δ Δ' : Dn} (h : Same0 Δ Δ') : ∀ vs : List Nat, vs.all (fun v => decide (0 < v)) = true → Same0 (wipeD Δ vs) (wipeD Δ' vs)
  | [], _ => h
  | v :: vs, e => by
    rw [List.all_cons, Bool.and_eq_true] at e
    have v0 := of_decide_eq_true e.1
    obtain ⟨u, rfl⟩ : ∃ u, v = u + 1 := ⟨v - 1, by omega⟩
    exact (Same0.wipe h vs e.2).set u none
def Ig {α : Type} (de : Dn → M α) : Prop := ∀ Δ Δ', Same0 Δ Δ' → de Δ = de Δ'
inductive RelG : Option (Dn × Sto) → Option (Dn × Sto) → Prop
  | no : RelG none none
  | yes {Δ Δ' : Dn} (s : Sto) : Same0 Δ Δ' → RelG (some (Δ, s)) (some (Δ', s))
def IgG (g : DGf) : Prop := ∀ d Δ Δ' s, Same0 Δ Δ' → RelG (g d Δ s) (g d Δ' s)
def IgGs (g : List D → Dn → Sto → Option (Dn × Sto)) : Prop := ∀ d Δ Δ' s, Same0 Δ Δ' → RelG (g d Δ s) (g d Δ' s)
inductive RelS : RS → RS → Prop
  | no : RelS none none
  | nx {Δ Δ' : Dn} (s : Sto) : Same0 Δ Δ' → RelS (some (.nx Δ, s)) (some (.nx Δ', s))
  | rt (d : D) (s : Sto) : RelS (some (.rt d, s)) (some (.rt d, s))
  | ex {Δ Δ' : Dn} (x : Xc) (s : Sto) : Same0 Δ Δ' → RelS (some (.ex x Δ, s)) (some (.ex x Δ', s))
  | bk {Δ Δ' : Dn} (s : Sto) : Same0 Δ Δ' → RelS (some (.bk Δ, s)) (some (.bk Δ', s))
  | ct {Δ Δ' : Dn} (s : Sto) : Same0 Δ Δ' → RelS (some (.ct Δ, s)) (some (.ct Δ', s))
def IgS (b : DS) : Prop := ∀ Δ Δ' s, Same0 Δ Δ' → RelS (b Δ s) (b Δ' s)
theorem RelS.fin {a b : RS} (h : RelS a b) : finS a = finS b := by cases h <;> rfl
theorem fin_ig {b : DS} {Δ Δ' : Dn} {s : Sto} (h : IgS b) (e : Same0 Δ Δ') : finS (b Δ s) = finS (b Δ' s) := (h Δ Δ' s e).fin
theorem same0_cons {x y : Option D} {r : Dn} : Same0 (x :: r) (y :: r) := ⟨rfl, fun _ => rfl⟩
theorem Same0.catch_ {Δ Δ' : Dn} (h : Same0 Δ Δ') (i j : Nat) (x : Xc) : Same0 (catchD (i + 1) (j + 1) Δ x) (catchD (i + 1) (j + 1) Δ' x) := (h.set j _).set i _
theorem allL_nil {p : Lm → Prop} : ∀ y ∈ ([] : List Lm), p y := fun y h => nomatch h
theorem allL_cons {p : Lm → Prop} {x : Lm} {L : List Lm} (h : p x) (r : ∀ y ∈ L, p y) : ∀ y ∈ x :: L, p y := fun y hy => by
  rcases List.mem_cons.mp hy with rfl | hy
  · exact h
  · exact r y hy
-- values
theorem ig_var {i : Nat} : Ig (dVar (i + 1)) := fun Δ Δ' h => by
  unfold dVar
  rw [h.get i]
theorem ig_c {d : D} : Ig (dC d) := fun _ _ _ => rfl
theorem ig_nil : Ig dNil := fun _ _ _ => rfl
theorem ig_cons {a : DX} {r : DA} (h : Ig a) (k : Ig r) : Ig (dCons a r) := fun Δ Δ' e => by unfold dCons; rw [h _ _ e, k _ _ e]
theorem ig_tup {a : DA} (h : Ig a) : Ig (dTup a) := fun Δ Δ' e => by unfold dTup; rw [h _ _ e]
theorem ig_lst {a : DA} (h : Ig a) : Ig (dLst a) := fun Δ Δ' e => by unfold dLst; rw [h _ _ e]
theorem ig_cb {f : OpN} {a : DA} (h : Ig a) : Ig (dCB f a) := fun Δ Δ' e => by unfold dCB; rw [h _ _ e]
theorem ig_op {f : Op2} {a b : DX} (h : Ig a) (k : Ig b) : Ig (dOp f a b) := fun Δ Δ' e => by unfold dOp; rw [h _ _ e, k _ _ e]
theorem ig_op1 {f : Op1} {a : DX} (h : Ig a) : Ig (dOp1 f a) := fun Δ Δ' e => by unfold dOp1; rw [h _ _ e]
theorem ig_test {a : DX} (h : Ig a) : Ig (dTest a) := fun Δ Δ' e => by unfold dTest; rw [h _ _ e]
theorem ig_truth {a : DX} (h : Ig a) : Ig (dTruth a) := fun Δ Δ' e => by unfold dTruth; rw [h _ _ e]
theorem ig_and {a b : DT} (h : Ig a) (k : Ig b) : Ig (dAnd a b) := fun Δ Δ' e => by unfold dAnd; rw [h _ _ e, k _ _ e]
theorem ig_or {a b : DT} (h : Ig a) (k : Ig b) : Ig (dOr a b) := fun Δ Δ' e => by unfold dOr; rw [h _ _ e, k _ _ e]
theorem ig_not {a : DT} (h : Ig a) : Ig (dNot a) := fun Δ Δ' e => by unfold dNot; rw [h _ _ e]
theorem ig_andT {a b : DX} (h : Ig a) (k : Ig b) : Ig (dAndT a b) := fun Δ Δ' e => by unfold dAndT; rw [h _ _ e, k _ _ e]
theorem ig_orT {a b : DX} (h : Ig a) (k : Ig b) : Ig (dOrT a b) := fun Δ Δ' e => by unfold dOrT; rw [h _ _ e, k _ _ e]
theorem ig_notT {a : DX} (h : Ig a) : Ig (dNotT a) := fun Δ Δ' e => by unfold dNotT; rw [h _ _ e]
theorem ig_if {t : DT} {a b : DX} (ht : Ig t) (h : Ig a) (k : Ig b) : Ig (dIf t a b) := fun Δ Δ' e => by unfold dIf; rw [ht _ _ e, h _ _ e, k _ _ e]
theorem ig_seqL {a : DX} (h : Ig a) : Ig (iSeqL a) := fun Δ Δ' e => by unfold iSeqL; rw [h _ _ e]
theorem ig_seqT {a : DX} (h : Ig a) : Ig (iSeqT a) := fun Δ Δ' e => by unfold iSeqT; rw [h _ _ e]
theorem ig_yes : Ig dYes := fun _ _ _ => rfl
-- targets
theorem igg_n {i : Nat} : IgG (gN (i + 1)) := fun d Δ Δ' s h => .yes s (h.set i _)
theorem igg_nil : IgGs gsNil := fun ds Δ Δ' s h => by
  unfold gsNil
  split
  · exact .yes s h
  · exact .no
theorem igg_cons {g : DGf} {r : List D → Dn → Sto → Option (Dn × Sto)} (hg : IgG g) (hr : IgGs r) : IgGs (gsCons g r) := fun ds Δ Δ' s h => by
  unfold gsCons
  cases ds with
  | nil => exact .no
  | cons d ds =>
    simp only
    have := hg d Δ Δ' s h
    generalize g d Δ s = p at this ⊢
    generalize g d Δ' s = q at this ⊢
    cases this with
    | no => exact .no
    | yes s1 h1 => exact hr ds _ _ s1 h1
theorem igg_tp {n : Nat} {g : List D → Dn → Sto → Option (Dn × Sto)} (h : IgGs g) : IgG (gTp n g) := fun d Δ Δ' s e => by
  unfold gTp
  split
  · split
    · exact h _ _ _ s e
    · exact .no
  · exact .no
theorem lcRun_ig {I : Itd} {g : DGf} {tt : DT} {de : DX} {n : Nat} (hg : IgG g) (ht : Ig tt) (hd : Ig de) : ∀ (r : List D) (Δ Δ' : Dn) (s : Sto), Same0 Δ Δ' → lcRun I g tt de n r Δ s = lcRun I g tt de n r Δ' s
  | [], _, _, _, _ => rfl
  | d :: r, Δ, Δ', s, h => by
    unfold lcRun
    have q := hg d Δ Δ' s h
    generalize g d Δ s = p at q ⊢
    generalize g d Δ' s = p' at q ⊢
    cases q with
    | no => rfl
    | @yes Δ1 Δ2 s1 h1 =>
      simp only [ht _ _ h1, hd _ _ h1, lcRun_ig hg ht hd r Δ Δ' _ h]
theorem ig_lc {vs : List Nat} {di : DI} {g : DGf} {tt : DT} {de : DX} (hv : vs.all (fun v => decide (0 < v)) = true) (hi : Ig di) (hg : IgG g) (ht : Ig tt) (hd : Ig de) : Ig (dLc vs di g tt de) := fun Δ Δ' e => by
  unfold dLc
  rw [hi _ _ e]
  congr 1
  funext I s
  rw [lcRun_ig hg ht hd _ _ _ _ (e.wipe vs hv)]
-- statements
theorem sb_ig {α : Type} {m : M α} {Δ Δ' : Dn} {k k' : α → Sto → RS} {s : Sto} (e : Same0 Δ Δ') (h : ∀ a s1, RelS (k a s1) (k' a s1)) : RelS (sbind m Δ k s) (sbind m Δ' k' s) := by
  unfold sbind
  cases m s with
  | none => exact .no
  | some p =>
    obtain ⟨q, s1⟩ := p
    cases q with
    | ok a => exact h a s1
    | error x => exact .ex x s1 e
theorem igs_ret {a : DX} (h : Ig a) : IgS (dRet a) := fun Δ Δ' s e => by
  unfold dRet
  rw [h _ _ e]
  exact sb_ig e fun d s1 => .rt d s1
theorem igs_asg {a : DX} {g : DGf} (h : Ig a) (hg : IgG g) : IgS (dAsg a g) := fun Δ Δ' s e => by
  unfold dAsg
  rw [h _ _ e]
  refine sb_ig e fun d s1 => ?_
  have q := hg d Δ Δ' s1 e
  generalize g d Δ s1 = p at q ⊢
  generalize g d Δ' s1 = p' at q ⊢
  cases q with
  | no => exact .no
  | yes s2 h2 => exact .nx s2 h2
theorem igs_drop {a : DX} (h : Ig a) : IgS (dDrop a) := fun Δ Δ' s e => by
  unfold dDrop
  rw [h _ _ e]
  exact sb_ig e fun d s1 => .nx s1 e
theorem igs_stop : IgS dStop := fun _ _ _ _ => .no
theorem igs_nx : IgS dNx := fun Δ Δ' s e => .nx s e
theorem igs_if {t : DT} {a b : DS} (ht : Ig t) (h : IgS a) (k : IgS b) : IgS (dIfS t a b) := fun Δ Δ' s e => by
  unfold dIfS
  rw [ht _ _ e]
  refine sb_ig e fun c s1 => ?_
  cases c
  · exact k _ _ s1 e
  · exact h _ _ s1 e
theorem igs_seq {a b : DS} (h : IgS a) (k : IgS b) : IgS (dSeq a b) := fun Δ Δ' s e => by
  unfold dSeq
  have q := h Δ Δ' s e
  generalize a Δ s = p at q ⊢
  generalize a Δ' s = p' at q ⊢
  cases q with
  | no => exact .no
  | nx s1 h1 => exact k _ _ s1 h1
  | rt d s1 => exact .rt d s1
  | ex x s1 h1 => exact .ex x s1 h1
  | bk s1 h1 => exact .bk s1 h1
  | ct s1 h1 => exact .ct s1 h1
end DV

set_option maxHeartbeats 2000000
namespace DV
open PySem L2 PyProof.Rows
/-! ### slices of lists, texts and tuples; sums of tuples, empty ones too -/
def fSlA : OpS := fun x lo hi s => match x with
  | .tup xs => some (.tup (cutD xs lo hi), s)
  | x => fSl x lo hi s
theorem cut_whole {α : Type} {xs : List α} {i j : Nat} (h : i = 0 ∧ j = xs.length) : (xs.drop i).take (j - i) = xs := by
  obtain ⟨rfl, rfl⟩ := h
  simp
section
variable {X : Cx} {W : WX}
theorem de_slA {e : Expr} {lo hi : Option Expr} {da : DX} {dl dh : DPt} {pos p2 : Pos} (he : DE X W e da) (hl : DPO X W lo dl) (hh : DPO X W hi dh) : DE X W (.Subscript e (.Slice lo hi none p2) pos) (dSl fSlA da dl dh) :=
  pe_imp (pe_slice (sl_tupA.or (sl_list.or sl_str)) he hl hh) fun σ H Q ⟨Δ, φ, s, hσ, hs, h⟩ => upE_bind hσ hs h fun φ1 v H1 x s1 f1 hσ1 hs1 rx h1 =>
    upO_bind hσ1 hs1 h1 fun φ2 H2 l s2 f2 hσ2 hs2 h2 => upO_bind hσ2 hs2 h2 fun φ3 H3 u s3 f3 hσ3 hs3 h3 => by
      have p := PsO.ofS h3
      have rx3 := (rx.fu f2).fu f3
      cases rx3 <;> first | exact p.elim | skip
      · rename_i z
        simp only [fSlA, fSl] at p
        split at p
        · rename_i hz
          exact .inr (.inr ⟨z, rfl, hz, p.ok hs3 (.str _)⟩)
        · exact p.elim
      · rename_i a vs ds hq r
        simp only [fSlA] at p
        refine .inl ⟨a, vs, rfl, hq, fun hw => ?_, fun hw q hq => p.newT hs3 hq (cut_dts r _ _)⟩
        have e : DV.cutD ds l u = ds := by
          unfold DV.cutD
          rw [r.length] at hw
          exact cut_whole hw
        rw [e] at p
        exact p.ok hs3 (.tup hq r)
      · rename_i a n ha
        simp only [fSlA, fSl] at p
        split at p
        · rename_i xs e
          obtain ⟨vs, k, r⟩ := hs3.lst (lstAt_eq e) ha
          exact .inr (.inl ⟨a, vs, rfl, SqL.of k, fun q hq => p.newL hs3 hq (cut_dts r _ _)⟩)
        · exact p.elim
      · rename_i a vs ds h r
        exact .inr (.inl ⟨a, vs, rfl, h.sq, fun q hq => p.newL hs3 hq (cut_dts r _ _)⟩)
/-- t + u, both tuples -/
def fAddTA : Op2 := fun x y s => match x, y with
  | .tup xs, .tup ys => if xs.length + ys.length ≤ sizeLine then some (.tup (xs ++ ys), s) else none
  | _, _ => none
theorem dop_addTA : DOp X (binaryOp .Add) fAddTA := ⟨_, op_catA, fun φ H s x y v u Q so rx ry p => by
  cases rx <;> cases ry <;> first | exact p.elim | skip
  rename_i a vs ds h1 r1 b ws es h2 r2
  simp only [fAddTA] at p
  split at p
  · rename_i z
    refine ⟨a, b, vs, ws, rfl, rfl, h1, h2, by rw [r1.length, r2.length]; exact z, fun e => ?_, fun _ e => ?_, fun _ _ q hq => p.newT so hq (r1.append r2)⟩
    · subst e
      cases r1
      exact p.ok so (.tup h2 r2)
    · subst e
      cases r2
      rw [List.append_nil] at p
      exact p.ok so (.tup h1 r1)
  · exact p.elim⟩
end
end DV

set_option maxHeartbeats 2000000
namespace DV
open PySem L2 PyProof.Rows
/-! ### for x in e, e a list or a tuple -/
def iBoth (K : PySem.W.Frag) (te : TE) : TI := fun σ H R => te σ H fun x H1 => ∃ a, x = .ref a ∧ ((∃ xs, SqL K H1 a xs ∧ R (Itl K a) H1) ∨ ∃ xs, SqT K H1 a xs ∧ R (Itt K a) H1)
theorem pi_both {X : Cx} {tg e : Expr} {te : TE} (he : PE X e te) : PI X tg e (iBoth X.K te) := by
  refine ⟨fun pins s σ H R J ran => thn (he.run pins s σ H _ J ran) fun u t ⟨x, H1, J1, ru, a, ex, two⟩ => ?_⟩
  subst ex
  cases ru
  have fresh : ∀ c ∈ [t.heap.objs.size], FpOk X pins H1 c := fun c hc => by
    obtain rfl := List.mem_singleton.mp hc
    exact J1.fpOk (Nat.le_refl _) (J1.hok.fresh (Nat.le_refl _))
  rcases two with ⟨xs, hq, q⟩ | ⟨xs, hq, q⟩
  · obtain ⟨us, rv, p, _⟩ := J1.list hq
    exact wpAny_pyIter_list p.isList ⟨t.heap.objs.size, _, _, _, H1, rfl, J1.kept (t' := t.toks) fun c o hc => Heap.get?_push_of_some _ hc, turn_list a _, ⟨_, Heap.get?_push_size _ rfl, rfl, rfl⟩, fresh, q⟩
  · obtain ⟨us, rv, p, _⟩ := J1.tuple hq
    exact wpAny_pyIter_tuple (show t.heap.IsTuple a us.toArray from p) ⟨t.heap.objs.size, _, _, _, H1, rfl, J1.kept (t' := t.toks) fun c o hc => Heap.get?_push_of_some _ hc, turn_tuple a _, ⟨_, Heap.get?_push_size _ rfl, rfl, rfl⟩, fresh, q⟩
def iSeqA (da : DX) : DI := fun Δ => mbind (da Δ) fun x s => match x with
  | .obj n => match lstAt s n with
    | some xs => some (.ok ⟨xs, some (n, xs)⟩, s)
    | none => none
  | .tup xs => some (.ok ⟨xs, none⟩, s)
  | _ => none
theorem di_both {X : Cx} {W : WX} {tg e : Expr} {da : DX} (h : DE X W e da) : DIt X W tg e (iSeqA da) := pi_imp (pi_both h) fun σ H R ⟨Δ, φ, s, hσ, hs, h⟩ => upE_bind hσ hs h fun φ1 v H1 x s1 f1 hσ1 hs1 rx h1 => by
  split at h1
  · rename_i n
    cases rx
    rename_i a ha
    split at h1
    · rename_i xs e
      obtain ⟨vs, k, r⟩ := hs1.lst (lstAt_eq e) ha
      exact ⟨a, rfl, .inl ⟨vs, SqL.of k, h1.ok hs1 (yl_list ha)⟩⟩
    · exact h1.elim
  · obtain ⟨a, vs, rfl, hq, r⟩ := rx.tupI
    exact ⟨a, rfl, .inr ⟨vs, hq, h1.ok hs1 (yl_tup hq r)⟩⟩
  · exact h1.elim
end DV

set_option maxHeartbeats 2000000
namespace DV
open PySem L2 PyProof.Rows
/-! ### a op b op c op d, as a test -/
def tCh3 (r1 r2 r3 : R2) (ta tb tc td : TE) : TE := fun σ H Q => ta σ H fun x Ha => tb σ Ha fun y Hb => r1 x y Hb fun z Hz => ∃ k, z = .bl k ∧
  (if k = true then tc σ Hz fun w Hc => r2 y w Hc fun z2 Hy => ∃ k2, z2 = .bl k2 ∧ (if k2 = true then td σ Hy fun v Hd => r3 w v Hd Q else Q (.bl false) Hy) else Q (.bl false) Hz)
theorem pt_ch3 {X : Cx} {a b c d : Expr} {ta tb tc td : TE} {pos : Pos} {o1 o2 o3 : CmpOp} {r1 r2 r3 : R2} (h1 : OpR X (compareOp o1) r1) (h2 : OpR X (compareOp o2) r2) (h3 : OpR X (compareOp o3) r3) (ha : PE X a ta) (hb : PE X b tb) (hc : PE X c tc) (hd : PE X d td)
    (hm : lastMarks [o1, o2, o3] [b, c, d] = false := by with_unfolding_all rfl) : PT X (.Compare a [o1, o2, o3] [b, c, d] pos) (tTest (tCh3 r1 r2 r3 ta tb tc td)) := by
  refine ⟨fun pins s σ H Q J ran => isTrue_chain (thn (ha.run pins s σ H _ J ran) fun va sa ⟨x, Ha, Ja, ra, qa⟩ => test_link (thn (hb.run pins sa σ Ha _ Ja qa) fun vb sb ⟨y, Hb, Jb, rb, qb⟩ =>
    thn (h1 pins sb σ Hb x y va vb _ Jb ra rb qb) fun e1 sz ⟨z, Hz, Jz, rz, k, ez, qz⟩ => ?_)) hm⟩
  subst ez
  cases rz
  cases k with
  | false =>
    obtain ⟨k', e', q'⟩ := qz
    cases e'
    exact wpAny_truthy_bool (ite_ff ⟨Hz, Jz, q'⟩)
  | true =>
    refine wpAny_truthy_bool (ite_tt (test_link (thn (hc.run pins sz σ Hz _ Jz qz) fun vc sc ⟨w, Hc, Jc, rc, qc⟩ => thn (h2 pins sc σ Hc y w vb vc _ Jc rb rc qc) fun e2 sy ⟨z2, Hy, Jy, ry, k2, ey, qy⟩ => ?_)))
    subst ey
    cases ry
    cases k2 with
    | false =>
      obtain ⟨k', e', q'⟩ := qy
      cases e'
      exact wpAny_truthy_bool (ite_ff ⟨Hy, Jy, q'⟩)
    | true =>
      refine wpAny_truthy_bool (ite_tt (test_last (thn (hd.run pins sy σ Hy _ Jy qy) fun vd sd ⟨v, Hd, Jd, rd, qd⟩ => thn (h3 pins sd σ Hd w v vc vd _ Jd rc rd qd) fun e3 sx ⟨z3, Hx, Jx, rx, k3, ex, qx⟩ => ?_)))
      subst ex
      cases rx
      exact wpAny_truthy_bool ⟨Hx, Jx, qx⟩
def dChain3 (f g h : Op2) (da db dc dd : DX) : DX := fun Δ => mbind (da Δ) fun x => mbind (db Δ) fun y => mbind (lift2 f x y) fun z => mbind (dBl z) fun b => if b = true then mbind (dc Δ) fun w => mbind (lift2 g y w) fun z2 => mbind (dBl z2) fun b2 => if b2 = true then mbind (dd Δ) fun v => lift2 h w v else mret (.bl false) else mret (.bl false)
section
variable {X : Cx} {W : WX}
theorem ch3_read {f g h : Op2} {r1 r2 r3 : R2} (h1 : ∀ φ H s x y v u Q, So X.K φ H s → Dt X.K φ H v x → Dt X.K φ H u y → PsO X.K φ H Q (f x y s) → r1 v u H Q)
    (h2 : ∀ φ H s x y v u Q, So X.K φ H s → Dt X.K φ H v x → Dt X.K φ H u y → PsO X.K φ H Q (g x y s) → r2 v u H Q)
    (h3 : ∀ φ H s x y v u Q, So X.K φ H s → Dt X.K φ H v x → Dt X.K φ H u y → PsO X.K φ H Q (h x y s) → r3 v u H Q) (pf : Pure2 f) (pg : Pure2 g) {da db dc dd : DX} {σ : L2.St} {H : Hp} {Q : VK}
    (q : upE X.K W (dChain3 f g h da db dc dd) σ H Q) : tCh3 r1 r2 r3 (upE X.K W da) (upE X.K W db) (upE X.K W dc) (upE X.K W dd) σ H Q := by
  obtain ⟨Δ, φ, s, hσ, hs, q⟩ := q
  refine upE_bind hσ hs q fun φ1 v H1 x s1 f1 hσ1 hs1 rx q1 => upE_bind hσ1 hs1 q1 fun φ2 u H2 y s2 f2 hσ2 hs2 ry q2 => ?_
  refine h1 φ2 H2 s2 x y v u _ hs2 (rx.fu f2) ry ?_
  unfold mbind lift2 at q2
  cases e : f x y s2 with
  | none => rw [e] at q2; exact q2.elim
  | some p =>
    obtain ⟨z, s3⟩ := p
    obtain rfl := pf _ _ _ _ _ e
    rw [e] at q2
    intro φ3 w H3 f3 so3 rz
    have q3 := q2.shift f3
    cases z <;> first | exact q3.elim | skip
    rename_i b
    cases rz
    refine ⟨b, rfl, ?_⟩
    cases b with
    | false => exact iteF (q3.ok so3 (.bl _))
    | true =>
      refine iteT ?_
      refine upE_bind (hσ2.fu f3) so3 q3 fun φ4 w' H4 d s4 f4 hσ4 hs4 rd q4 => ?_
      refine h2 φ4 H4 s4 y d u w' _ hs4 ((ry.fu f3).fu f4) rd ?_
      cases e2 : g y d s4 with
      | none => rw [e2] at q4; exact q4.elim
      | some p2 =>
        obtain ⟨z2, s5⟩ := p2
        obtain rfl := pg _ _ _ _ _ e2
        rw [e2] at q4
        intro φ5 w5 H5 f5 so5 rz2
        have q5 := q4.shift f5
        cases z2 <;> first | exact q5.elim | skip
        rename_i b2
        cases rz2
        refine ⟨b2, rfl, ?_⟩
        cases b2 with
        | false => exact iteF (q5.ok so5 (.bl _))
        | true =>
          refine iteT ?_
          exact upE_bind (hσ4.fu f5) so5 q5 fun φ6 v6 H6 d6 s6 f6 hσ6 hs6 rd6 q6 => h3 φ6 H6 s6 d d6 w' v6 Q hs6 ((rd.fu f5).fu f6) rd6 (PsO.of q6)
theorem dt_chain3 {o1 o2 o3 : CmpOp} {f g h : Op2} {a b c d : Expr} {da db dc dd : DX} {pos : Pos} (p1 : DOp X (compareOp o1) f) (p2 : DOp X (compareOp o2) g) (p3 : DOp X (compareOp o3) h) (pf : Pure2 f) (pg : Pure2 g) (ha : DE X W a da) (hb : DE X W b db) (hc : DE X W c dc) (hd : DE X W d dd)
    (hm : lastMarks [o1, o2, o3] [b, c, d] = false := by with_unfolding_all rfl) : DTe X W (.Compare a [o1, o2, o3] [b, c, d] pos) (dTest (dChain3 f g h da db dc dd)) := by
  obtain ⟨r1, k1, z1⟩ := p1
  obtain ⟨r2, k2, z2⟩ := p2
  obtain ⟨r3, k3, z3⟩ := p3
  exact pt_imp (pt_ch3 k1 k2 k3 ha hb hc hd hm) fun σ H Q q => ch3_read z1 z2 z3 pf pg (bl_read q)
end
end DV

set_option maxHeartbeats 2000000
namespace DV
open PySem L2 PyProof.Rows PySem.W
/-! ### f'{x:b}' -/
def binS (i : Int) : Str := ⟨((Nat.toDigits 2 i.natAbs).map fun c => c.toNat).toArray⟩
theorem fmt_b {i : Int} {t : Tok} (h0 : 0 ≤ i) (hz : (binS i).length ≤ sizeLine) (u : Tok) : Meets (Builtin.«int.__format__» ⟨[.int i t, .str "b" u], []⟩) (fun _ R s => ∀ t' k, R (.ok (.ret (.str (binS i) t'))) { s with toks := k }) := by
  apply KPc.meets_of
  intro P0 W0 A0 s0 Q0 E0 hR
  unfold Builtin.«int.__format__»
  refine wpAny_bind (wpAny_of_eq (a := (_, _)) rfl ?_)
  refine wpAny_bind (wpAny_of_eq (a := _) rfl ?_)
  kxf_if
  refine wpAny_bind (wpAny_typeNameOf (T := "str") (typeIs_str _ _ _) (by decide) fun _ => ?_)
  refine wpAny_bind (wpAny_of_eq (a := some _) rfl ?_)
  kxf_if
  kxf_if
  refine wpAny_bind (wpAny_typeNameOfCut_int ?_)
  obtain ⟨f, hp, hty, hpr, hz0, hal, hw, hgr, hsg, hfi, hag⟩ : ∃ f : Builtin.Float.FormatSpec, Builtin.Float.parseFormatSpec (Str.ofString "b").cps.toList "int" 62 = .ok f ∧ f.type = some 98 ∧ f.precision = none ∧ f.noNeg0 = false ∧ f.alt = false ∧ f.width = none ∧ f.grouping = none ∧ f.sign = none ∧ f.fill = 32 ∧ f.align = 62 := ⟨_, rfl, rfl, rfl, rfl, rfl, rfl, rfl, rfl, rfl, rfl⟩
  simp only [hp, hty, Option.getD_some]
  rw [if_pos (by decide)]
  show wpAny _ _ (if _ then _ else _) _ _ _
  rw [if_neg (by simp [hpr])]
  show wpAny _ _ (if _ then _ else _) _ _ _
  rw [if_neg (by simp [hz0])]
  show wpAny _ _ (if _ then _ else _) _ _ _
  rw [if_neg (by decide)]
  show wpAny _ _ (if _ then _ else _) _ _ _
  rw [if_neg (by decide)]
  show wpAny _ _ (if _ then _ else _) _ _ _
  rw [if_neg (by simp [hw])]
  have neg : decide (i < 0) = false := decide_eq_false (by omega)
  have dg : (Nat.toDigits 2 i.natAbs).isEmpty = false := by
    cases h : Nat.toDigits 2 i.natAbs with
    | nil => exact absurd h (by have := Nat.length_toDigits_pos (b := 2) (n := i.natAbs); intro z; rw [z] at this; simp at this)
    | cons a r => rfl
  have key : ∀ Z : Str, Z = binS i → wpAny (model P0 W0) A0 (retStr Z) Q0 E0 s0 := fun Z e => KXf.ret_text e (by rw [e]; exact hz) hR
  refine key _ ?_
  simp only [neg, hal, Bool.false_eq_true, if_false, show ((98 : Nat) == 88) = false by decide, show ((2 : Nat) == 10) = false by decide]
  conv => lhs; whnf
  have dg2 : (List.map (fun c : Char => c.toNat) (Nat.toDigits 2 i.natAbs)).isEmpty = false := by rw [List.isEmpty_map]; exact dg
  simp [binS, hw, hgr, hsg, hfi, hag, dg2]
  cases instDecidableEqBool (f.align == 60) true <;> simp
section
variable {X : Cx} {W : WX}
def tFmtB (te : TE) : TE := fun σ H Q => te σ H fun x H1 => ∃ i : Int, x = .int i ∧ 0 ≤ i ∧ (binS i).length ≤ sizeLine ∧ Q (.str (binS i)) H1
theorem pe_fmtB {e : Expr} {te : TE} {p1 p2 p3 p4 : Pos} {j : Nat} (he : PE X e te) : PE X (.JoinedStr [.FormattedValue e (-1) (some (.JoinedStr [.Constant (.str "b") j p1] p2)) p3] p4) (tFmtB te) := by
  refine ⟨fun pins s σ H Q J ran => wpAny_JoinedStr_one (wpAny_FormattedValue_spec (thn (he.run pins s σ H _ J ran) fun u s1 ⟨x, H1, J1, ru, i, ex, i0, iz, q⟩ => ?_))⟩
  subst ex
  obtain ⟨t, rfl⟩ := ru
  refine wpAny_JoinedStr_one (Calls.Constant_str ⟨"b", _, rfl, ?_⟩)
  exact KXf.field_int rfl (by decide) (by decide) (fun u => fmt_b i0 iz u) fun t' k => ⟨.str (binS i), H1, (J1.tok _).tok _, ⟨_, rfl⟩, q⟩
def fFmtB : Op1 := fun x s => match x with
  | .int i => if 0 ≤ i ∧ (binS i).length ≤ sizeLine then some (.str (binS i), s) else none
  | _ => none
theorem de_fmtB {e : Expr} {da : DX} {p1 p2 p3 p4 : Pos} {j : Nat} (he : DE X W e da) : DE X W (.JoinedStr [.FormattedValue e (-1) (some (.JoinedStr [.Constant (.str "b") j p1] p2)) p3] p4) (dOp1 fFmtB da) :=
  pe_imp (pe_fmtB he) fun σ H Q ⟨Δ, φ, s, hσ, hs, h⟩ => upE_bind hσ hs h fun φ1 v H1 x s1 f1 hσ1 hs1 rx h1 => by
    have p := PsO.of1 h1
    cases rx <;> first | exact p.elim | skip
    rename_i i
    simp only [fFmtB] at p
    split at p
    · rename_i c
      exact ⟨i, rfl, c.1, c.2, p.ok hs1 (.str _)⟩
    · exact p.elim
end
/-! ### s.zfill(n) -/
def fZfill : OpM := fun x xs s => match x, xs with
  | .str a, [.int i] => if PadOk i = true then some (.str (Txt.zfill a i), s) else none
  | _, _ => none
theorem dm_zfill {X : Cx} : DMt X "str.zfill" fZfill := ⟨_, mt_zfill, fun φ H s v x vs xs Q so rx rs p => by
  unfold fZfill at p
  split at p
  · obtain ⟨u, rfl, r⟩ := dts1 rs
    cases rx
    cases r
    split at p
    · rename_i hz
      exact ⟨_, _, rfl, rfl, hz, p.ok so (.str _)⟩
    · exact p.elim
  · exact p.elim⟩
end DV

set_option maxHeartbeats 4000000
namespace DV
open PySem L2 PyProof.Rows PySem.NumText PySem.Calls
/-! ### int(t, 2), t of the signs 0 and 1 -/
def Bin (c : Nat) : Prop := c = 48 ∨ c = 49
instance (c : Nat) : Decidable (Bin c) := by unfold Bin; exact inferInstance
theorem Bin.hex {c : Nat} (h : Bin c) : Hx.IsHex c := by
  unfold Bin at h
  unfold Hx.IsHex
  omega
theorem Bin.all {cs : List Nat} (h : ∀ c ∈ cs, Bin c) : ∀ c ∈ cs, Hx.IsHex c := fun c m => (h c m).hex
theorem bin_lt {c : Nat} (h : Bin c) : Hx.hv c < 2 := by
  rcases h with rfl | rfl <;> decide
def binNum (l : List Nat) : Nat := l.foldl (fun n c => n * 2 + Hx.hv c) 0
theorem bin_step {ds : Array Nat} {b : Bool} {c : Nat} (h : Bin c) : NumText.step 2 (ds, b) c = some (ds.push (Hx.hv c), true) := by
  have r := Hx.hex_rng h.hex
  unfold NumText.step
  rw [if_neg (fun z => r.2.2 (beq_iff_eq.mp z)), Hx.digit_hex h.hex]
  exact if_pos (bin_lt h)
theorem bin_fold : ∀ (l : List Nat) (ds : Array Nat), (∀ c ∈ l, Bin c) → l.foldlM (NumText.step 2) (ds, true) = some (l.foldl (fun q c => q.push (Hx.hv c)) ds, true)
  | [], _, _ => rfl
  | a :: r, ds, h => by
    rw [List.foldlM_cons, bin_step (h a (by simp))]
    show r.foldlM (NumText.step 2) (ds.push (Hx.hv a), true) = _
    exact bin_fold r _ fun c m => h c (by simp [m])
theorem bin_digits {l : List Nat} (h : ∀ c ∈ l, Bin c) (ne : l ≠ []) : digits? 2 l = some (l.foldl (fun q c => q.push (Hx.hv c)) #[]) := by
  cases l with
  | nil => exact absurd rfl ne
  | cons a r =>
    unfold digits?
    rw [List.foldlM_cons, bin_step (h a (by simp))]
    show (r.foldlM (NumText.step 2) ((#[] : Array Nat).push (Hx.hv a), true)).bind _ = _
    rw [bin_fold r _ fun c m => h c (by simp [m])]
    rfl
theorem bin_push : ∀ (l : List Nat) (ds : Array Nat), (l.foldl (fun q c => q.push (Hx.hv c)) ds).foldl (fun n d => n * 2 + d) 0 = l.foldl (fun n c => n * 2 + Hx.hv c) (ds.foldl (fun n d => n * 2 + d) 0)
  | [], _ => rfl
  | a :: r, ds => by
    rw [List.foldl_cons, bin_push r (ds.push (Hx.hv a)), List.foldl_cons]
    congr 1
    simp
theorem bin_based {l : List Nat} (h : ∀ c ∈ l, Bin c) : based 2 l = (2, false, l) := by
  match l, h with
  | [], _ => rfl
  | [a], h => rcases h a (by simp) with rfl | rfl <;> rfl
  | a :: c :: r, h => rcases h a (by simp) with rfl | rfl <;> rcases h c (by simp) with rfl | rfl <;> rfl
theorem bin_read {l : List Nat} (h : ∀ c ∈ l, Bin c) (ne : l ≠ []) : (int_private% "readNumeral") 0 2 l = (int_private% "Numeral.value") ((binNum l : Nat) : Int) := by
  have hr : ∀ c ∈ l.reverse, Bin c := fun c m => h c (List.mem_reverse.mp m)
  refine (readNumeral_eq 0 2 l).trans ?_
  rw [Hx.dropB (Bin.all h), Hx.signH (Bin.all h)]
  show judge 0 false (based 2 l).1 (based 2 l).2.1 (digits? (based 2 l).1 (((based 2 l).2.2.reverse.dropWhile blank).reverse)) = _
  rw [bin_based h]
  show judge 0 false 2 false (digits? 2 ((l.reverse.dropWhile blank).reverse)) = _
  rw [Hx.dropB (Bin.all hr), List.reverse_reverse, bin_digits h ne]
  show (int_private% "Numeral.value") (((l.foldl (fun q c => q.push (Hx.hv c)) (#[] : Array Nat)).foldl (fun n d => n * 2 + d) 0 : Nat) : Int) = _
  have z : (#[] : Array Nat).foldl (fun n d => n * 2 + d) 0 = 0 := by first | rfl | simp
  rw [bin_push, z]
  rfl
theorem bin_gives {x : Str} {u t : Tok} (hl : x.length ≤ 640) (h : ∀ c ∈ x.cps.toList, Bin c) (ne : x.cps.toList ≠ []) :
    Gives (Builtin.«int.__new__» ⟨[.type "int", .str x u, .int 2 t], []⟩) (.int ((binNum x.cps.toList : Nat) : Int)) :=
  .of_wp fun M A E s Q hQ => by
    obtain ⟨hp, g, d, tk, os⟩ := s
    have q1 := F.conv_sub_int
    have q2 := F.madeHere_int
    have q3 : typeOf (.str x u) = pure (.type "str") := rfl
    obtain ⟨e1, e2⟩ := Hx.seen_hex (Bin.all h)
    have a1 : (numSeenOf x).length ≤ 640 := by rw [e2, Array.length_toList]; exact hl
    have a2 : (int_private% "readNumeral") 0 2 (numSeenOf x) = (int_private% "Numeral.value") ((binNum x.cps.toList : Nat) : Int) := by rw [e2]; exact bin_read h ne
    have a3 : ((numSeenOf x).length == (numTextOf x).length) = true := by rw [e1, e2]; exact beq_self_eq_true _
    have all := Hx.Hid.mk (And.intro a1 (And.intro a2 a3))
    clear a1 a2 a3 e1 e2 hl ne h
    repeat (any_goals (first
      | assumption
      | ((with_reducible show wpAny _ _ ((int_private% "intFromText") _ _ _) _ _ _); refine Hx.wp_textB all.out.1 all.out.2.1 all.out.2.2 ?_)
      | wp_step))
    all_goals first | exact ⟨_, rfl, hQ⟩ | skip
def rBin : List V → Hp → VK → Prop := fun xs H Q => ∃ x : Str, xs = [.str x, .int 2] ∧ x.cps.toList ≠ [] ∧ x.length ≤ 640 ∧ (∀ c ∈ x.cps.toList, Bin c) ∧ Q (.int ((binNum x.cps.toList : Nat) : Int)) H
theorem bin_call {X : Cx} : CallR X (.type "int") rBin := by
  intro pins s σ H xs us Q J r ⟨x, ex, ne, hl, hb, q⟩
  subst ex
  obtain ⟨u, v, rfl, ru, rv⟩ := vals2 r
  obtain ⟨t1, rfl⟩ := ru
  obtain ⟨t2, rfl⟩ := rv
  exact callType_new F.called_int F.newNe_int (Hx.typeCall_int_2 _ _) (Hx.newCall_int_2 _ _) (fun o => F.initArgs_range_2 o _ _) F.entry_int_new (bin_gives hl hb ne).meets (show (Made.int ((binNum x.cps.toList : Nat) : Int)).post _ s from ⟨rfl, .int ((binNum x.cps.toList : Nat) : Int), H, J.tok _, ⟨_, rfl⟩, q⟩)
def allBin (l : List Nat) : Bool := l.all fun c => decide (Bin c)
/-- int(x), int(x, 2) -/
def fIntB : OpN := fun xs s => match xs with
  | [.str x, .int 2] => if (!x.cps.toList.isEmpty && decide (x.length ≤ 640) && allBin x.cps.toList) = true then some (.int ((binNum x.cps.toList : Nat) : Int), s) else none
  | _ => none
theorem dc_intB {X : Cx} : DCall X (.type "int") fIntB := ⟨_, bin_call, fun φ H s vs ds Q so rx p => by
  unfold fIntB at p
  split at p
  · rename_i x
    cases rx with
    | cons r1 r2 => cases r2 with
      | cons r2 r3 =>
        cases r3
        cases r1
        cases r2
        split at p
        · rename_i c
          simp only [Bool.and_eq_true, Bool.not_eq_true', decide_eq_true_eq] at c
          refine ⟨x, rfl, fun z => ?_, c.1.2, fun k hk => ?_, p.ok so (.int _)⟩
          · rw [z] at c
            exact absurd c.1.1 (by simp)
          · exact of_decide_eq_true (List.all_eq_true.mp c.2 k hk)
        · exact p.elim
  · exact p.elim⟩
end DV

set_option maxHeartbeats 2000000
namespace DV
open PySem L2 PyProof.Rows
/-! ### all and any of a list of bools -/
def boolsOf : List D → Option (List Bool)
  | [] => some []
  | .bl b :: r => (boolsOf r).map (b :: ·)
  | _ :: _ => none
theorem boolsOf_dts {K : PySem.W.Frag} {φ : List Addr} {H : Hp} : ∀ {vs : List V} {xs : List D} {bs : List Bool}, Dts K φ H vs xs → boolsOf xs = some bs → vs = bs.map V.bl
  | _, _, _, .nil, e => by cases e; rfl
  | _, x :: r, _, .cons rx rr, e => by
    cases x <;> first | (cases e; done) | skip
    simp only [boolsOf, Option.map_eq_some_iff] at e
    obtain ⟨ms, e, rfl⟩ := e
    cases rx
    rw [boolsOf_dts rr e]
    rfl
def fBs (g : List Bool → Bool) : OpN := fun xs s => match xs with
  | [.obj n] => match lstAt s n with
    | some ys => match boolsOf ys with
      | some bs => some (.bl (g bs), s)
      | none => none
    | none => none
  | _ => none
section
variable {X : Cx}
theorem fbs_read {g : List Bool → Bool} {φ : List Addr} {H : Hp} {s : Sto} {vs : List V} {ds : List D} {Q : VK} (so : So X.K φ H s) (rx : Dts X.K φ H vs ds) (p : PsO X.K φ H Q (fBs g ds s)) :
    ∃ (a : Addr) (bs : List Bool), vs = [V.ref a] ∧ SqL X.K H a (bs.map V.bl) ∧ Q (.bl (g bs)) H := by
  unfold fBs at p
  split at p
  · obtain ⟨v, rfl, r⟩ := dts1 rx
    cases r
    rename_i n a ha
    split at p
    · rename_i ys e
      split at p
      · rename_i bs e2
        obtain ⟨vs, k, r⟩ := so.lst (lstAt_eq e) ha
        have ev := boolsOf_dts r e2
        subst ev
        exact ⟨a, bs, rfl, SqL.of k, p.ok so (.bl _)⟩
      · exact p.elim
    · exact p.elim
  · exact p.elim
def fAll : OpN := fBs fun bs => bs.all id
def fAny : OpN := fBs fun bs => bs.any id
theorem dc_all (hc : X.calm = true) : DCall X (.builtin "all") fAll := ⟨_, cr_all hc, fun φ H s vs ds Q so rx p => fbs_read so rx p⟩
theorem dc_any (hc : X.calm = true) : DCall X (.builtin "any") fAny := ⟨_, cr_any hc, fun φ H s vs ds Q so rx p => fbs_read so rx p⟩
end
end DV

set_option maxHeartbeats 2000000
namespace DV
open PySem L2 PyProof.Rows
/-! ### dict(ps), ps a list of pairs -/
def pairsD : List D → Option (List (Key × D))
  | [] => some []
  | .tup [x, y] :: r => match keyD x, pairsD r with
    | some k, some q => some ((k, y) :: q)
    | _, _ => none
  | _ :: _ => none
def mergeD (acc more : List (Key × D)) : List (Key × D) := more.foldl (fun q kv => putKD q kv.1 kv.2) acc
theorem Prs.mergeD {R : V → D → Prop} : ∀ {ws : List (Key × V)} {es : List (Key × D)} {vs : List (Key × V)} {ds : List (Key × D)}, Prs R ws es → Prs R vs ds → Prs R (mergeK vs ws) (DV.mergeD ds es)
  | _, _, _, _, .nil, r => r
  | _, _, _, _, .cons h t, r => by
    unfold mergeK DV.mergeD
    rw [List.foldl_cons, List.foldl_cons]
    exact Prs.mergeD t (r.put h)
theorem pairs_dts {K : PySem.W.Frag} {φ : List Addr} {H : Hp} : ∀ {vs : List V} {xs : List D} {kvs : List (Key × D)}, Dts K φ H vs xs → pairsD xs = some kvs →
    ∃ (ps : List Addr) (ws : List (Key × V)), vs = ps.map V.ref ∧ Paired (fun p kv => SqT K H p [kV kv.1, kv.2]) ps ws ∧ Prs (Dt K φ H) ws kvs
  | _, _, _, .nil, e => by
    cases e
    exact ⟨[], [], rfl, .nil, .nil⟩
  | _, x :: r, _, .cons rx rr, e => by
    unfold pairsD at e
    split at e
    · rename_i h0
      cases h0
    · rename_i x1 y1 r1 heq
      cases heq
      split at e
      · rename_i k q e1 e2
        cases e
        obtain ⟨ps, ws, rfl, hp, hr⟩ := pairs_dts rr e2
        obtain ⟨a, us, rfl, hq, ru⟩ := rx.tupI
        cases ru with
        | cons r1 ru => cases ru with
          | cons r2 ru =>
            cases ru
            rename_i u1 u2
            have ek := keyD_kV r1 e1
            subst ek
            exact ⟨a :: ps, (k, u2) :: ws, rfl, .cons hq hp, .cons r2 hr⟩
      · cases e
    · cases e
def fDictP : OpN := fun xs s => match xs with
  | [.obj n] => match lstAt s n with
    | some ys => match pairsD ys with
      | some kvs => some (.obj s.length, s ++ [.dK (mergeD [] kvs)])
      | none => none
    | none => none
  | _ => none
theorem dc_dictP {X : Cx} (hc : X.calm = true) : DCall X (.type "dict") fDictP := ⟨_, call_dictP hc, fun φ H s vs ds Q so rx p => by
  unfold fDictP at p
  split at p
  · obtain ⟨v, rfl, r⟩ := dts1 rx
    cases r
    rename_i n a ha
    split at p
    · rename_i ys e
      split at p
      · rename_i kvs e2
        obtain ⟨us, k, r⟩ := so.lst (lstAt_eq e) ha
        obtain ⟨ps, ws, rfl, hp, hr⟩ := pairs_dts r e2
        refine ⟨a, ps, ws, rfl, SqL.of k, hp, fun q hq => ?_⟩
        have m : Prs (Dt X.K φ H) (mergeK [] ws) (mergeD [] kvs) := Prs.mergeD hr .nil
        exact p _ _ _ (fu_newO hq) (so.newO (o := .dK (mergeD [] kvs)) hq ⟨_, upd_same, m.fu (fu_newO hq)⟩) (obj_new so)
      · exact p.elim
    · exact p.elim
  · exact p.elim⟩
end DV

set_option maxHeartbeats 2000000
namespace DV
open PySem L2 PyProof.Rows
section
variable {X : Cx}
/-! ### min of a tuple of ints -/
theorem foldl_min (a : Int) : ∀ r : List Int, r.foldl min a = r.foldl minI a := fun r => by
  have e : (fun a b : Int => min a b) = minI := by
    funext a b
    unfold minI
    by_cases h : b < a
    · rw [if_pos h]; omega
    · rw [if_neg h]; omega
  show r.foldl (fun a b : Int => min a b) a = _
  rw [e]
def fMinT : OpN := fun xs s => match xs with
  | [.tup ys] => match intsOf ys with
    | some ns => if 0 < ns.length then some (.int (minL ns), s) else none
    | none => none
  | _ => none
def rMinT (K : PySem.W.Frag) : List V → Hp → VK → Prop := fun vs H Q => ∃ (a : Addr) (ns : List Int), vs = [V.ref a] ∧ SqT K H a (ns.map V.int) ∧ 0 < ns.length ∧ Q (.int (minL ns)) H
theorem cr_minT (hc : X.calm = true) (hu : X.A.units + 66 < cLine) : CallR X (.builtin "min") (rMinT X.K) := by
  intro pins s σ H vs us Q I r h
  obtain ⟨a, ns, rfl, hs, hne, q⟩ := h
  obtain ⟨its, rv, hl, _⟩ := I.tuple hs
  rw [Vals.ref1 r]
  cases ns with
  | nil => exact absurd hne (Nat.lt_irrefl 0)
  | cons n r =>
    obtain ⟨as, hr⟩ := Dp.readsAll I _ _ its (dpAll_ints (n :: r)) rv
    have al : PySem.W.AlikeAll ((n :: r).map PyData.int) := ⟨fun x hx y hy => by
      obtain ⟨i, _, rfl⟩ := List.mem_map.mp hx
      obtain ⟨j, _, rfl⟩ := List.mem_map.mp hy
      rfl, fun x hx => by
      obtain ⟨i, _, rfl⟩ := List.mem_map.mp hx
      exact fun z => nomatch z⟩
    have dp : PyData.depthAll ((n :: r).map PyData.int) = 0 := PySem.W.depth_ints (n :: r)
    obtain ⟨o, ho, hcl, m, hd⟩ := hl
    refine PySem.W.min_tuple_data (x := .int n) (xs := r.map .int) (I.ok.hd hc) ⟨o, ho, hcl, m, hd⟩ hr al (by rw [List.map_cons] at dp; rw [dp]; omega) fun i v h' tk bs hv rd hk => ?_
    rw [PySem.W.minD_ints, foldl_min] at rd
    cases rd
    exact ⟨.int (minL (n :: r)), H, I.kept hk, ⟨_, rfl⟩, q⟩
theorem dc_minT (hc : X.calm = true) (hu : X.A.units + 66 < cLine) : DCall X (.builtin "min") fMinT := ⟨_, cr_minT hc hu, fun φ H s vs ds Q so rx p => by
  unfold fMinT at p
  split at p
  · obtain ⟨v, rfl, r⟩ := dts1 rx
    obtain ⟨a, ws, rfl, hq, r⟩ := r.tupI
    split at p
    · rename_i ns e
      split at p
      · rename_i hz
        rw [intsOf_eq e] at r
        rw [r.ints] at hq
        exact ⟨a, ns, rfl, hq, hz, p.ok so (.int _)⟩
      · exact p.elim
    · exact p.elim
  · exact p.elim⟩
def fMinA : OpN := orN fMin fMinT
theorem dc_minA (hc : X.calm = true) (hu : X.A.units + 66 < cLine) : DCall X (.builtin "min") fMinA := (dc_min hc).or (dc_minT hc hu)
end
end DV

set_option maxHeartbeats 2000000
namespace PySem
open Sem (wp)
open PySem.W (kdx_alive)
/-! ### list(zip(xs, ys)) of two lists -/
theorem zip_no_len : typeLookup (.type "zip") "__len__" = pure none := by rw [typeLookup_type, builtinLookup_eq_fast]; kernel_rfl
theorem zip_no_hint : typeLookup (.type "zip") "__length_hint__" = pure none := by rw [typeLookup_type, builtinLookup_eq_fast]; kernel_rfl
def refsA (B i : Nat) : Array Value := ((List.range i).map fun j => Value.ref (B + j)).toArray
theorem refsA_push (B i : Nat) : (refsA B i).push (.ref (B + i)) = refsA B (i + 1) := by unfold refsA; simp [List.range_succ]
theorem refsA_size (B i : Nat) : (refsA B i).size = i := by simp [refsA]
structure ZAt (z TI TO i1 i2 l1 l2 S : Addr) (xs ys : Array Value) (B i : Nat) (h : Heap) : Prop where
  ti : IsPair h TI (.ref i1) (.ref i2)
  n1 : h.IsListIter i1 l1 i
  n2 : h.IsListIter i2 l2 i
  li1 : h.IsList l1 xs
  li2 : h.IsList l2 ys
  zi : (IsZip h z TI TO .none ∧ ∃ a b, IsPair h TO a b) ∨ ∃ T f oT, IsZipHeld h z TI TO T f ∧ h.get? T = some oT ∧ T ≠ z ∧ T ≠ i1 ∧ T ≠ i2 ∧ T ≠ S
  sz : h.objs.size = B + i
  prs : ∀ j x y, j < i → xs[j]? = some x → ys[j]? = some y → IsPair h (B + j) x y
  out : ∃ c, h.get? S = some { cls := .type "list", dict := none, data := .seq (refsA B i) c, slots := #[] }
structure ZOff (z TI TO i1 i2 l1 l2 S : Addr) (B : Nat) : Prop where
  sz : S ≠ z
  sTI : S ≠ TI
  sTO : S ≠ TO
  s1 : S ≠ i1
  s2 : S ≠ i2
  sl1 : S ≠ l1
  sl2 : S ≠ l2
  bz : z < B
  bTO : TO < B
  b1 : i1 < B
  b2 : i2 < B
  bS : S < B
section
variable {prog : Program} {w : World} {A : Around} {E : Value → Shared → Prop} {s : Shared} {z TI TO i1 i2 l1 l2 S : Addr} {xs ys : Array Value} {B : Nat}
def ZKeep (z TO i1 i2 S : Addr) (h h' : Heap) : Prop := ∀ b o, b ≠ z → b ≠ TO → b ≠ i1 → b ≠ i2 → b ≠ S → h.get? b = some o → h'.get? b = some o
theorem ZKeep.trans {h h1 h2 : Heap} (a : ZKeep z TO i1 i2 S h h1) (b : ZKeep z TO i1 i2 S h1 h2) : ZKeep z TO i1 i2 S h h2 := fun c o c1 c2 c3 c4 c5 e => b c o c1 c2 c3 c4 c5 (a c o c1 c2 c3 c4 c5 e)
theorem add_lt_ne {b B j : Nat} (h : b < B) : B + j ≠ b := by omega
theorem zip_step (D : ZipApart z TI TO i1 i2 l1 l2) (O : ZOff z TI TO i1 i2 l1 l2 S B) {i : Nat} (st : ZAt z TI TO i1 i2 l1 l2 S xs ys B i s.heap) {x y : Value} (ex : xs[i]? = some x) (ey : ys[i]? = some y) {Q : Option Value → Shared → Prop}
    (hQ : ∀ h', IsPair h' TI (.ref i1) (.ref i2) → h'.IsListIter i1 l1 (i + 1) → h'.IsListIter i2 l2 (i + 1) → h'.IsList l1 xs → h'.IsList l2 ys →
      (∃ T f oT, IsZipHeld h' z TI TO T f ∧ h'.get? T = some oT ∧ T ≠ z ∧ T ≠ i1 ∧ T ≠ i2 ∧ T ≠ S) → h'.objs.size = B + (i + 1) → (∀ j u v, j < i + 1 → xs[j]? = some u → ys[j]? = some v → IsPair h' (B + j) u v) →
      (∃ c, h'.get? S = some { cls := .type "list", dict := none, data := .seq (refsA B i) c, slots := #[] }) → ZKeep z TO i1 i2 S s.heap h' → Q (some (.ref (B + i))) { s with heap := h' }) :
    wpAny (model prog w) A (pyNext (.ref z)) Q E s := by
  obtain ⟨hTI, h1, h2, hl1, hl2, hz, sz, prs, c, hS⟩ := st
  have lt : ∀ {c o}, s.heap.get? c = some o → s.heap.objs.size ≠ c := fun e => Nat.ne_of_gt (Heap.lt_size e)
  have n1 : s.heap.objs.size ≠ i1 := let ⟨_, e, _⟩ := h1; lt e
  have n2 : s.heap.objs.size ≠ i2 := let ⟨_, e, _⟩ := h2; lt e
  have nS := lt hS
  have key : ∀ h' : Heap, (∀ c o, c ≠ z → c ≠ TO → c ≠ i1 → c ≠ i2 → s.heap.get? c = some o → h'.get? c = some o) → h'.IsListIter i1 l1 (i + 1) → h'.IsListIter i2 l2 (i + 1) → IsPair h' s.heap.objs.size x y → h'.objs.size = s.heap.objs.size + 1 →
      (∃ T f oT, IsZipHeld h' z TI TO T f ∧ h'.get? T = some oT ∧ T ≠ z ∧ T ≠ i1 ∧ T ≠ i2 ∧ T ≠ S) → Q (some (.ref s.heap.objs.size)) { s with heap := h' } := fun h' hk a3 a4 a5 a6 zh => by
    have q := hQ h' (hk _ _ D.TIz D.TITO D.TIi1 D.TIi2 hTI) a3 a4 (hl1.at fun o e => hk _ o D.l1z D.l1TO D.l1i1 D.l1i2 e) (hl2.at fun o e => hk _ o D.l2z D.l2TO D.l2i1 D.l2i2 e) zh (by rw [a6, sz, Nat.add_assoc]) (fun j u v hj hu hv => by
      by_cases hji : j = i
      · subst hji
        rw [ex] at hu
        rw [ey] at hv
        cases hu
        cases hv
        rw [← sz]
        exact a5
      · exact hk _ _ (add_lt_ne O.bz) (add_lt_ne O.bTO) (add_lt_ne O.b1) (add_lt_ne O.b2) (prs j u v (by omega) hu hv)) ⟨c, hk _ _ O.sz O.sTO O.s1 O.s2 hS⟩ (fun b o c1 c2 c3 c4 _ e => hk b o c1 c2 c3 c4 e)
    rw [sz]
    exact q
  rcases hz with ⟨hz, a, b, hTO⟩ | ⟨T, f, oT, hz, hT, r1, r2, r3, r4⟩
  · exact wpAny_pyNext_zip_item D hz hTI hTO h1 h2 hl1 hl2 ex ey fun h' a1 a2 a3 a4 a5 a6 hk => key h' hk a3 a4 a5 a6 ⟨s.heap.objs.size, false, _, a1, a5, lt hz, n1, n2, nS⟩
  · exact wpAny_pyNext_zip_item_held D hz hT hTI h1 h2 hl1 hl2 ex ey fun h' a1 a3 a4 a5 a6 hk => key h' (fun c o c1 _ c3 c4 e => hk c o c1 c3 c4 e) a3 a4 a5 a6 ⟨T, true, oT, a1, hk _ _ r1 r2 r3 hT, r1, r2, r3, r4⟩
theorem zip_stop (hh : A.handled = none) (D : ZipApart z TI TO i1 i2 l1 l2) {n : Nat} (st : ZAt z TI TO i1 i2 l1 l2 S xs ys B n s.heap) (hx : xs.size = n) {Q : Option Value → Shared → Prop} (hQ : ∀ h', ZKeep z TO i1 i2 S s.heap h' → (∀ c o, c ≠ z → c ≠ TO → c ≠ i1 → c ≠ i2 → s.heap.get? c = some o → h'.get? c = some o) → Q none { s with heap := h' }) :
    wpAny (model prog w) A (pyNext (.ref z)) Q E s := by
  obtain ⟨hTI, h1, h2, hl1, hl2, hz, sz, prs, c, hS⟩ := st
  have hend : xs[n]? = none ∨ ys[n]? = none := .inl (Array.getElem?_eq_none (by rw [hx]; exact Nat.le_refl _))
  rcases hz with ⟨hz, a, b, hTO⟩ | ⟨T, f, oT, hz, hT, r1, r2, r3, r4⟩
  · exact wpAny_pyNext_zip_end hh D hz hTI hTO h1 h2 hl1 hl2 hend fun h' hk => hQ h' (fun c o c1 c2 c3 c4 _ e => hk c o c1 c2 c3 c4 e) fun c o c1 c2 c3 c4 e => hk c o c1 c2 c3 c4 e
  · exact wpAny_pyNext_zip_end_held hh D hz hT hTI h1 h2 hl1 hl2 hend fun h' hk => hQ h' (fun c o c1 _ c3 c4 _ e => hk c o c1 c3 c4 e) fun c o c1 _ c3 c4 e => hk c o c1 c3 c4 e
theorem zip_drain {n : Nat} {R : Result → Shared → Prop} (hh : A.handled = none) (D : ZipApart z TI TO i1 i2 l1 l2) (O : ZOff z TI TO i1 i2 l1 l2 S B) (hn : n ≤ sizeLine) (hx : xs.size = n) (hy : ys.size = n) (res : Value) (h0 : Heap)
    (hR : ∀ h', ZKeep z TO i1 i2 S h0 h' → (∃ c, h'.get? S = some { cls := .type "list", dict := none, data := .seq (refsA B n) c, slots := #[] }) → (∀ j x y, xs[j]? = some x → ys[j]? = some y → IsPair h' (B + j) x y) → R (.ok (.ret res)) { s with heap := h' }) :
    ∀ (m i : Nat) (h : Heap), i + m = n → ZAt z TI TO i1 i2 l1 l2 S xs ys B i h → ZKeep z TO i1 i2 S h0 h → codeAny (model prog w) A (.builtin "list.extend.loop" ⟨[.ref S, .ref z, res], []⟩) R { s with heap := h } := by
  intro m
  induction m with
  | zero =>
    intro i h him st hk
    have hin : i = n := by omega
    subst hin
    refine codeAny_builtin F.entry_extend_loop ?_
    rw [Around.under_plainId F.plain_extend_loop _]
    show wpAny _ A.in1 (pyNext (.ref z) >>= _) _ _ _
    refine wpAny_bind (zip_stop (A := A.in1) (s := { s with heap := h }) hh D st hx fun h' k1 k2 => ?_)
    obtain ⟨c, hS⟩ := st.out
    exact wpAny_pure (hR h' (hk.trans k1) ⟨c, k2 _ _ O.sz O.sTO O.s1 O.s2 hS⟩ fun j x y ej ek => k2 _ _ (add_lt_ne O.bz) (add_lt_ne O.bTO) (add_lt_ne O.b1) (add_lt_ne O.b2) (st.prs j x y (by rw [← hx]; exact (Array.getElem?_eq_some_iff.mp ej).1) ej ek))
  | succ m ih =>
    intro i h him st hk
    have hix : i < xs.size := by omega
    have hiy : i < ys.size := by omega
    refine codeAny_builtin F.entry_extend_loop ?_
    rw [Around.under_plainId F.plain_extend_loop _]
    show wpAny _ A.in1 (pyNext (.ref z) >>= _) _ _ _
    refine wpAny_bind (zip_step (A := A.in1) (s := { s with heap := h }) D O st (Array.getElem?_eq_getElem hix) (Array.getElem?_eq_getElem hiy) fun h' a1 a2 a3 a4 a5 a6 a7 a8 ⟨c, hS⟩ a10 => ?_)
    show wpAny _ A.in1 (updateSeq S (·.push (.ref (B + i))) >>= _) _ _ _
    refine wpAny_bind ?_
    have oth : ∀ b o, b ≠ S → h'.get? b = some o → (h'.update S (Obj.mapSeq (·.push (.ref (B + i))))).get? b = some o := fun b o hb e => (Heap.get?_update_other _ _ (Ne.symm hb)).trans e
    have hS2 := Heap.get?_update_self (Obj.mapSeq (·.push (.ref (B + i)))) hS rfl
    refine wpAny_updateSeq hS rfl (wpAny_pure ⟨plainId_quiet F.plain_extend_loop _, ih (i + 1) _ (by omega) ⟨oth _ _ (Ne.symm O.sTI) a1, ?_, ?_, ?_, ?_, .inr ?_, by rw [Heap.size_after_update]; exact a7, fun j u v hj hu hv => oth _ _ (add_lt_ne O.bS) (a8 j u v hj hu hv), ?_⟩ ?_⟩)
      (by rw [refsA_size]; omega) (by show ((refsA B i).push _).size ≤ sizeLine + 1; rw [Array.size_push, refsA_size]; omega)
    · exact a2.at fun o e => oth _ o (Ne.symm O.s1) e
    · exact a3.at fun o e => oth _ o (Ne.symm O.s2) e
    · exact a4.at fun o e => oth _ o (Ne.symm O.sl1) e
    · exact a5.at fun o e => oth _ o (Ne.symm O.sl2) e
    · obtain ⟨T, f, oT, z1, z2, z3, z4, z5, z6⟩ := a6
      exact ⟨T, f, oT, oth _ _ (Ne.symm O.sz) z1, oth _ _ z6 z2, z3, z4, z5, z6⟩
    · rw [← refsA_push]
      exact ⟨_, hS2⟩
    · exact (hk.trans a10).trans fun b o _ _ _ _ c5 e => oth b o c5 e
/-- list(z) of a zip that has not begun -/
theorem call_list_zip {n : Nat} {Q : Value → Shared → Prop} (hh : A.handled = none) (D : ZipApart z TI TO i1 i2 l1 l2) (hn : n ≤ sizeLine) (hx : xs.size = n) (hy : ys.size = n)
    (hz : IsZip s.heap z TI TO .none) (hTI : IsPair s.heap TI (.ref i1) (.ref i2)) (hTO : ∃ a b, IsPair s.heap TO a b) (h1 : s.heap.IsListIter i1 l1 0) (h2 : s.heap.IsListIter i2 l2 0) (hl1 : s.heap.IsList l1 xs) (hl2 : s.heap.IsList l2 ys)
    (hQ : ∀ h', (∀ b o, b ≠ z → b ≠ TO → b ≠ i1 → b ≠ i2 → s.heap.get? b = some o → h'.get? b = some o) → (∃ c, h'.get? s.heap.objs.size = some { cls := .type "list", dict := none, data := .seq (refsA (s.heap.objs.size + 1) n) c, slots := #[] }) →
      (∀ j x y, xs[j]? = some x → ys[j]? = some y → IsPair h' (s.heap.objs.size + 1 + j) x y) → Q (.ref s.heap.objs.size) { s with heap := h' }) :
    wpAny (model prog w) A (call (.type "list") [.ref z]) Q E s := by
  have lt : ∀ {c o}, s.heap.get? c = some o → c < s.heap.objs.size := fun e => Heap.lt_size e
  have ltz := lt hz
  have ltTI := lt hTI
  obtain ⟨a0, b0, hTO⟩ := hTO
  have ltTO := lt hTO
  have lt1 : i1 < s.heap.objs.size := let ⟨_, e, _⟩ := h1; lt e
  have lt2 : i2 < s.heap.objs.size := let ⟨_, e, _⟩ := h2; lt e
  have ltl1 : l1 < s.heap.objs.size := let ⟨_, e, _⟩ := hl1; lt e
  have ltl2 : l2 < s.heap.objs.size := let ⟨_, e, _⟩ := hl2; lt e
  have O : ZOff z TI TO i1 i2 l1 l2 s.heap.objs.size (s.heap.objs.size + 1) := ⟨Nat.ne_of_gt ltz, Nat.ne_of_gt ltTI, Nat.ne_of_gt ltTO, Nat.ne_of_gt lt1, Nat.ne_of_gt lt2, Nat.ne_of_gt ltl1, Nat.ne_of_gt ltl2,
    Nat.lt_succ_of_lt ltz, Nat.lt_succ_of_lt ltTO, Nat.lt_succ_of_lt lt1, Nat.lt_succ_of_lt lt2, Nat.lt_succ_self _⟩
  refine callType_codes (Q₁ := fun obj s₁ => obj = .ref s.heap.objs.size ∧ s₁ = { s with heap := s.heap.push { cls := .type "list", data := .seq #[] } }) F.called_list (F.typeCall_list_1 _) F.entry_list_init
    (code_list_new _ ⟨rfl, rfl⟩) fun obj s₁ h₁ => ?_
  obtain ⟨rfl, rfl⟩ := h₁
  have hS : (s.heap.push { cls := .type "list", data := .seq #[] }).get? s.heap.objs.size = some { cls := .type "list", data := .seq #[] } := Heap.get?_push_size _ rfl
  refine ⟨⟨_, hS, rfl⟩, F.args_list_init_2 _ _, ?_⟩
  show wpAny _ A.in1.in1 (do let old ← Builtin.List.listItems (.ref s.heap.objs.size); Builtin.List.listUpdate (.ref s.heap.objs.size) (fun _ => #[]); letGo old.toList.reverse; Builtin.List.listExtendWith (.ref s.heap.objs.size) (.ref z) .none) _ _ _
  refine wpAny_bind ?_
  unfold Builtin.List.listItems
  refine wpAny_bind (wpAny_seqItems hS rfl (wpAny_pure ?_))
  show wpAny _ A.in1.in1 (updateSeq s.heap.objs.size (fun _ => #[]) >>= fun _ => letGo (#[] : Array Value).toList.reverse >>= fun _ => Builtin.List.listExtendWith (.ref s.heap.objs.size) (.ref z) .none) _ _ _
  refine wpAny_bind (wpAny_updateSeq hS rfl ?_)
  have hS2 := Heap.get?_update_self (Obj.mapSeq (fun _ => (#[] : Array Value))) hS rfl
  refine wpAny_bind (wpAny_letGo ?_)
  unfold Builtin.List.listExtendWith
  have up : ∀ (h : Heap) (f : Obj → Obj), (∀ b o, s.heap.get? b = some o → h.get? b = some o) → ∀ b o, s.heap.get? b = some o → (h.update s.heap.objs.size f).get? b = some o := fun h f q b o e =>
    (Heap.get?_update_other _ _ (Ne.symm (Nat.ne_of_lt (Heap.lt_size e)))).trans (q b o e)
  have k1 : ∀ b o, s.heap.get? b = some o → (s.heap.push { cls := .type "list", data := .seq #[] }).get? b = some o := fun b o e => Heap.get?_push_of_some _ e
  have k2 := up _ (Obj.mapSeq (fun _ => (#[] : Array Value))) k1
  have ty : ∀ {h : Heap} {s' : Shared}, s'.heap = h → (∀ b o, s.heap.get? b = some o → h.get? b = some o) → s'.TypeIs (.ref z) "zip" := fun {h s'} e q => ⟨_, by rw [e]; exact q _ _ hz, rfl⟩
  refine wpAny_bind (wpAny_typeOf (ty rfl k2) ?_)
  have q1 : Builtin.List.listSameRef (.ref s.heap.objs.size) (.ref z) = false := by simp [Builtin.List.listSameRef, O.sz]
  have q2 : (Value.type "zip" == Value.type "list") = false := by decide
  have q3 : (Value.type "zip" == Value.type "tuple") = false := by decide
  simp only [q1, q2, q3, Bool.or_false, Bool.false_eq_true, if_false]
  refine wpAny_bind (wpAny_pyIter_zip (f0 := .none) (k2 _ _ hz) ?_)
  refine wpAny_bind (wpAny_holding ?_)
  unfold Builtin.List.listLengthHint
  refine wpAny_bind (wpAny_specialOf (ty rfl k2) zip_no_len ?_)
  show wpAny _ A.in1.in1 (specialOf (Value.ref z) (Str.ofString "__length_hint__") >>= _) _ _ _
  refine wpAny_bind (wpAny_specialOf (ty rfl k2) zip_no_hint ?_)
  refine wpAny_pure ?_
  show wpAny _ A.in1.in1 (rule "list.extend.makes-room" >>= fun _ => Builtin.List.listTouch (.ref s.heap.objs.size) >>= fun _ =>
    again (.builtin "list.extend.loop" ⟨[.ref s.heap.objs.size, .ref z, .none], []⟩)) _ _ _
  refine wpAny_bind (wpAny_rule ?_)
  refine wpAny_bind ?_
  show wpAny _ A.in1.in1 (updateSeq s.heap.objs.size (·.push .none) >>= fun _ => updateSeq s.heap.objs.size (·.pop)) _ _ _
  refine wpAny_bind (wpAny_updateSeq hS2 rfl ?_)
  have hS3 := Heap.get?_update_self (Obj.mapSeq (·.push Value.none)) hS2 rfl
  refine wpAny_updateSeq (hz := by seq_fits) hS3 rfl ?_
  have hS4 := Heap.get?_update_self (Obj.mapSeq (·.pop)) hS3 rfl
  have k4 := up _ (Obj.mapSeq (·.pop)) (up _ (Obj.mapSeq (·.push Value.none)) k2)
  refine wpAny_pure ⟨plainId_quiet F.plain_extend_loop _, ?_⟩
  refine zip_drain (A := A.in1) (s := s) (n := n) hh D O hn hx hy .none s.heap (fun h' kk hl hp => ⟨rfl, ?_⟩) n 0 _ (by omega) ⟨k4 _ _ hTI, h1.at fun o e => k4 _ o e, h2.at fun o e => k4 _ o e, hl1.at fun o e => k4 _ o e, hl2.at fun o e => k4 _ o e,
    .inl ⟨k4 _ _ hz, a0, b0, k4 _ _ hTO⟩, by simp [Heap.size_after_update, Heap.size_push], fun j x y hj => by omega, ⟨_, hS4⟩⟩ fun b o _ _ _ _ _ e => k4 b o e
  exact hQ h' (fun b o c1 c2 c3 c4 e => kk b o c1 c2 c3 c4 (Nat.ne_of_lt (Heap.lt_size e)) e) hl hp
end
end PySem
namespace DV
open PySem L2 PyProof.Rows
section
variable {X : Cx} {pins : List (Addr × Obj)} {σ : L2.St} {H : Hp} {s : Shared}
/-- several new objects are laid at once -/
theorem inv_lay {H' : Hp} {h' : Heap} {t' : Nat} (I : Inv X pins σ H s) (k : ∀ b o, s.heap.get? b = some o → h'.get? b = some o) (old : ∀ b, b < s.heap.objs.size → H' b = H b)
    (new : ∀ b u, s.heap.objs.size ≤ b → H' b = some u → ObjOk X.prog X.w H' h' b u) : Inv X pins σ H' { s with heap := h', toks := t' } := by
  have ext : ∀ b u, H b = some u → H' b = some u := fun b u e => by
    by_cases hb : b < s.heap.objs.size
    · rw [old b hb]; exact e
    · rw [I.hok.fresh (Nat.le_of_not_lt hb)] at e; cases e
  refine I.un (t' := t') ⟨fun b o e n _ _ => k b o e, fun b o e n _ _ => ⟨o.slots, k b o e⟩, fun b o e n _ => (old b (Heap.lt_size e)).trans n, fun b o e _ => ⟨o, k b o e⟩, fun b xs e => ext _ _ e, fun b o u e => ext _ _ e, fun b ps e => ⟨#[], by rw [ext _ _ e]; simp⟩⟩ fun b u e => ?_
  by_cases hb : b < s.heap.objs.size
  · rw [old b hb] at e
    exact (I.hok b u e).stay (fun c v _ q => k c v q) (fun c q => ext _ _ q) fun c xs q => ext _ _ q
  · exact new b u (Nat.le_of_not_lt hb) e
end
theorem ne_lt_add {b n k : Nat} (h : b < n) : b ≠ n + k := by omega
theorem no_in {b n k m : Nat} (h : b < n) : ¬ (n + k ≤ b ∧ b < m) := by omega
theorem at_in {B b n : Nat} (h : B ≤ b ∧ b < B + n) : ∃ j, b = B + j ∧ b - B = j := ⟨b - B, by omega, rfl⟩
/-- the frame's map with the pairs laid from B on -/
def addT (H : Hp) (B : Nat) (xs ys : List V) : Hp := fun b => if B ≤ b ∧ b < B + xs.length then (match xs[b - B]?, ys[b - B]? with
  | some x, some y => some (.tup [x, y])
  | _, _ => none) else H b
theorem addT_old {H : Hp} {B : Nat} {xs ys : List V} {b : Nat} (h : ¬ (B ≤ b ∧ b < B + xs.length)) : addT H B xs ys b = H b := by unfold addT; rw [if_neg h]
theorem addT_at {H : Hp} {B : Nat} {xs ys : List V} {j : Nat} {x y : V} (hx : xs[j]? = some x) (hy : ys[j]? = some y) : addT H B xs ys (B + j) = some (.tup [x, y]) := by
  have hj := (List.getElem?_eq_some_iff.mp hx).1
  have e : B + j - B = j := by omega
  have c : B ≤ B + j ∧ B + j < B + xs.length := ⟨by omega, by omega⟩
  unfold addT
  rw [if_pos c, e, hx, hy]
theorem addT_inv {H : Hp} {B : Nat} {xs ys : List V} {b : Nat} {u : HO} (h : B ≤ b ∧ b < B + xs.length) (e : addT H B xs ys b = some u) : ∃ j x y, b = B + j ∧ xs[j]? = some x ∧ ys[j]? = some y ∧ u = .tup [x, y] := by
  unfold addT at e
  rw [if_pos h] at e
  split at e
  · rename_i x y h1 h2
    obtain ⟨j, hj, ej⟩ := at_in h
    rw [ej] at h1 h2
    exact ⟨j, x, y, hj, h1, h2, by cases e; rfl⟩
  · cases e
def refsV (B n : Nat) : List V := (List.range n).map fun j => V.ref (B + j)
theorem vals_refsV (B n : Nat) : Vals (refsV B n) (refsA B n).toList := by
  have e : (refsA B n).toList = (List.range n).map fun j => Value.ref (B + j) := by simp [refsA]
  rw [e]
  unfold refsV
  generalize List.range n = l
  induction l with
  | nil => exact .nil
  | cons i r ih => exact .cons rfl ih
/-- list(zip(a, b)): the map behind it -/
def tListZip (K : PySem.W.Frag) (ta : TA) : TE := fun σ H Q => ta σ H fun vs H1 => ∃ a b xs ys, vs = [.ref a, .ref b] ∧ SqL K H1 a xs ∧ SqL K H1 b ys ∧ xs.length = ys.length ∧
  ∀ L B, H1 L = none → (∀ j, H1 (B + j) = none) → L < B → Q (.ref L) (upd (addT H1 B xs ys) L (.lst (refsV B xs.length)))
section
variable {X : Cx} {W : WX}
theorem pe_listZip {e e2 : Expr} {ta : TA} {p pos p2 pos2 : Pos} (hc : X.calm = true) (hgz : Gl X "zip") (hmz : X.mg "zip" = none) (hgl : Gl X "list") (hml : X.mg "list" = none) (ha : PA X [e, e2] ta)
    (hs : starEach [e, e2] X.env = (false, eval e X.env) :: starEach [e2] X.env := by rfl) (hpl : (backTo pos2 (starEach [e2] X.env)).any (·.1) = false := by rfl)
    (na : starEach [Expr.Call (.Name "zip" p2) [e, e2] [] pos2] X.env = (false, eval (.Call (.Name "zip" p2) [e, e2] [] pos2) X.env) :: starEach [] X.env := by rfl) :
    PE X (.Call (.Name "list" p) [.Call (.Name "zip" p2) [e, e2] [] pos2] [] pos) (tListZip X.K ta) := by
  refine ⟨fun pins s σ H Q I h => ?_⟩
  refine Call_ (ld_blt I hgl hml boot_list (PyProof.Rows.callWith_type1 (args_cons ?_ na) na))
  refine Call_ (ld_blt I hgz hmz PyProof.Rows.boot_zip (PyProof.Rows.callWith_type1 (thn (ha.run pos2 pins s σ H _ I h) fun us s1 ⟨vs, H1, I1, r1, q1⟩ => ?_) hs hpl))
  obtain ⟨a, b, xs, ys, ex, hqx, hqy, hl, q⟩ := q1
  subst ex
  cases r1 with
  | cons r rr =>
    cases rr with
    | cons r' rr =>
      cases rr
      cases r
      cases r'
      obtain ⟨its, rv, p1, hz1⟩ := I1.list hqx
      obtain ⟨its2, rv2, p2, _⟩ := I1.list hqy
      have l1 := rv.length
      have l2 := rv2.length
      refine call_zip_2 p1.isList p2.isList fun h' hz hTI hTO h1 h2 hsz hk => ?_
      have I2 : Inv X pins σ H1 { s1 with heap := h' } := I1.kept (t' := s1.toks) hk
      refine args_nil ?_
      refine call_list_zip (s := { s1 with heap := h' }) (n := xs.length) (I2.ok.hd hc) (PySem.W.ktu_apart s1.heap.objs.size a b p1.lt p2.lt) hz1 (by simp [l1]) (by rw [hl]; simp [l2]) hz hTI ⟨_, _, hTO⟩ h1 h2 (p1.isList.at fun o e => hk _ o e) (p2.isList.at fun o e => hk _ o e) fun h'' kk hL hp => ?_
      have szE : ({ s1 with heap := h' } : Shared).heap.objs.size = s1.heap.objs.size + 5 := hsz
      rw [szE] at hL hp ⊢
      have big : ∀ j, s1.heap.objs.size ≤ s1.heap.objs.size + 5 + 1 + j := fun j => by omega
      have kk2 : ∀ b o, s1.heap.get? b = some o → h''.get? b = some o := fun b o e => by
        have lt := Heap.lt_size e
        exact kk b o (ne_lt_add lt) (ne_lt_add lt) (ne_lt_add (k := 0) lt) (ne_lt_add lt) (hk b o e)
      have I3 : Inv X pins σ (upd (addT H1 (s1.heap.objs.size + 5 + 1) xs ys) (s1.heap.objs.size + 5) (.lst (refsV (s1.heap.objs.size + 5 + 1) xs.length))) { s1 with heap := h'', toks := s1.toks } := by
        refine inv_lay (s := s1) (h' := h'') (t' := s1.toks) I1 kk2 (fun b hb => ?_) (fun b u hb e => ?_)
        · rw [upd_ne (ne_lt_add hb), addT_old (no_in (k := 6) hb)]
        · by_cases hbL : b = s1.heap.objs.size + 5
          · subst hbL
            rw [upd_same] at e
            cases e
            obtain ⟨c, hL⟩ := hL
            exact ⟨by simp [refsV]; omega, (refsA (s1.heap.objs.size + 5 + 1) xs.length).toList, c, vals_refsV _ _, by rw [Array.toArray_toList]; exact hL⟩
          · rw [upd_ne hbL] at e
            by_cases hin : s1.heap.objs.size + 5 + 1 ≤ b ∧ b < s1.heap.objs.size + 5 + 1 + xs.length
            · obtain ⟨j, x, y, rfl, hx, hy, rfl⟩ := addT_inv hin e
              obtain ⟨u, hu, ru⟩ := rv.get hx
              obtain ⟨v, hv, rv'⟩ := rv2.get hy
              have pr := hp j u v (by simpa using hu) (by simpa using hv)
              exact ⟨by rw [sizeLine_eq]; simp, [u, v], .cons ru (.cons rv' .nil), ⟨_, pr, rfl, _, rfl⟩⟩
            · rw [addT_old hin, I1.hok.fresh hb] at e
              cases e
      refine ⟨.ref (s1.heap.objs.size + 5), _, I3, rfl, q (s1.heap.objs.size + 5) (s1.heap.objs.size + 5 + 1) (I1.hok.fresh (Nat.le_add_right _ _)) (fun j => I1.hok.fresh (big j)) (Nat.lt_succ_self _)⟩
end
/-! ### the frame's map with more in it -/
def ExtH (H H' : Hp) : Prop := ∀ b u, H b = some u → H' b = some u
section
variable {K : PySem.W.Frag} {φ φ' : List Addr} {H H' : Hp} {s : Sto}
theorem fuX (e : ExtH H H') : Fu K φ φ H H' := ⟨⟨[], List.append_nil _⟩, fun a xs q => by
    rcases q with (q | ⟨ob, q⟩) | q
    · exact .inl (.inl (e _ _ q))
    · exact .inl (.inr ⟨ob, e _ _ q⟩)
    · exact .inr q, fun a xs q => by
    rcases q with ⟨ob, q⟩ | q
    · exact .inl ⟨ob, e _ _ q⟩
    · exact .inr q, fun a f q => e _ _ q, fun a f q => e _ _ q⟩
theorem Ob.ext {a : Addr} {o : DO} (x : ExtH H H') (h : Ob K φ H a o) : Ob K φ H' a o := by
  have f := fuX (K := K) (φ := φ) x
  cases o with
  | lst xs => obtain ⟨vs, e, r⟩ := h; exact ⟨vs, x _ _ e, r.fu f⟩
  | ins C fs => obtain ⟨dx, vs, e, r⟩ := h; exact ⟨dx, vs, x _ _ e, r.fu f⟩
  | dK kvs => obtain ⟨vs, e, r⟩ := h; exact ⟨vs, x _ _ e, r.fu f⟩
  | dT kvs => obtain ⟨vs, e, r⟩ := h; exact ⟨vs, x _ _ e, r.fu f⟩
  | tab P q =>
    obtain ⟨rfl, ps, e, ok, named⟩ := h
    exact ⟨rfl, ps, x _ _ e, ok, fun pos cv among => by
      obtain ⟨c, z1, z2⟩ := named pos cv among
      exact ⟨c, z1, x _ _ z2⟩⟩
theorem soX (x : ExtH H H') (h : So K φ H s) : So K φ H' s := ⟨h.len, h.nd, fun n o e => by
  obtain ⟨a, ha, q⟩ := h.ob n o e
  exact ⟨a, ha, q.ext x⟩⟩
end
theorem add_swap (B j : Nat) : B + (j + 1) = B + 1 + j := by omega
/-- the pairs of two lists -/
def zipD (xs ys : List D) : List D := (xs.zip ys).map fun p => .tup [p.1, p.2]
def dZipL (da : DA) : DX := fun Δ => mbind (da Δ) fun xs s => match xs with
  | [.obj n, .obj m] => match lstAt s n, lstAt s m with
    | some xs, some ys => if xs.length = ys.length then some (.ok (.obj s.length), s ++ [.lst (zipD xs ys)]) else none
    | _, _ => none
  | _ => none
theorem addT_ext {H : Hp} {B : Nat} {xs ys : List V} (h : ∀ j, H (B + j) = none) : ExtH H (addT H B xs ys) := fun b u e => by
  by_cases hb : B ≤ b ∧ b < B + xs.length
  · obtain ⟨j, rfl, _⟩ := at_in hb
    rw [h j] at e
    cases e
  · rw [addT_old hb]; exact e
theorem zip_dts {K : PySem.W.Frag} {φ : List Addr} {H : Hp} : ∀ (xs ys : List D) (vs us : List V) (B : Nat), Dts K φ H vs xs → Dts K φ H us ys → (∀ (j : Nat) (x y : V), vs[j]? = some x → us[j]? = some y → SqT K H (B + j) [x, y]) → vs.length = us.length → Dts K φ H (refsV B vs.length) (zipD xs ys)
  | [], _, [], _, B, .nil, _, _, _ => .nil
  | x :: xs, [], v :: vs, [], B, _, _, _, hl => by simp at hl
  | x :: xs, y :: ys, v :: vs, u :: us, B, .cons h1 r1, .cons h2 r2, hp, hl => by
    have e : refsV B (v :: vs).length = .ref (B + 0) :: refsV (B + 1) vs.length := by
      unfold refsV
      rw [List.length_cons, List.range_succ_eq_map, List.map_cons, List.map_map]
      congr 1
      apply List.map_congr_left
      intro j _
      exact congrArg V.ref (add_swap B j)
    rw [e]
    refine .cons (.tup (hp 0 v u rfl rfl) (.cons h1 (.cons h2 .nil))) (zip_dts xs ys vs us (B + 1) r1 r2 (fun j a b ha hb => ?_) (by simpa using hl))
    have q := hp (j + 1) a b (by simpa using ha) (by simpa using hb)
    rw [add_swap B j] at q
    exact q
section
variable {X : Cx} {W : WX}
theorem de_listZip {e e2 : Expr} {da : DA} {p pos p2 pos2 : Pos} (hc : X.calm = true) (hgz : Gl X "zip") (hmz : X.mg "zip" = none) (hgl : Gl X "list") (hml : X.mg "list" = none) (ha : DAs X W [e, e2] da)
    (hs : starEach [e, e2] X.env = (false, eval e X.env) :: starEach [e2] X.env := by rfl) (hpl : (backTo pos2 (starEach [e2] X.env)).any (·.1) = false := by rfl)
    (na : starEach [Expr.Call (.Name "zip" p2) [e, e2] [] pos2] X.env = (false, eval (.Call (.Name "zip" p2) [e, e2] [] pos2) X.env) :: starEach [] X.env := by rfl) :
    DE X W (.Call (.Name "list" p) [.Call (.Name "zip" p2) [e, e2] [] pos2] [] pos) (dZipL da) :=
  pe_imp (pe_listZip hc hgz hmz hgl hml ha hs hpl na) fun σ H Q ⟨Δ, φ, s, hσ, hs, h⟩ => upA_bind hσ hs h fun φ1 vs H1 xs s1 f1 hσ1 hs1 rx h1 => by
    split at h1
    · rename_i n m
      cases rx with
      | cons r1 rx =>
        cases rx with
        | cons r2 rx =>
          cases rx
          cases r1 with
          | obj ha =>
            cases r2 with
            | obj hb =>
              rename_i a b
              split at h1
              · rename_i xs ys e1 e2
                split at h1
                · rename_i hl
                  obtain ⟨vs, k1, d1⟩ := hs1.lst (lstAt_eq e1) ha
                  obtain ⟨us, k2, d2⟩ := hs1.lst (lstAt_eq e2) hb
                  refine ⟨a, b, vs, us, rfl, SqL.of k1, SqL.of k2, by rw [d1.length, d2.length]; exact hl, fun L B hL hB hLB => ?_⟩
                  have x1 := addT_ext (xs := vs) (ys := us) hB
                  have f2 : Fu X.K φ1 φ1 H1 (addT H1 B vs us) := fuX x1
                  have hL2 : addT H1 B vs us L = none := by
                    rw [addT_old (fun z => absurd z.1 (Nat.not_le_of_lt hLB))]
                    exact hL
                  have dz : Dts X.K φ1 (addT H1 B vs us) (refsV B vs.length) (zipD xs ys) := zip_dts xs ys vs us B (d1.fu f2) (d2.fu f2) (fun j x y hx hy => SqT.of (addT_at hx hy)) (by rw [d1.length, d2.length]; exact hl)
                  have so2 := soX x1 hs1
                  exact h1 (φ1 ++ [L]) _ _ (f2.trans (fu_newO hL2)) (Dts.newO so2 hL2 dz) (obj_new so2)
                · exact h1.elim
              · exact h1.elim
    · exact h1.elim
end
end DV

set_option maxHeartbeats 2000000
namespace DV
open PySem L2 PyProof.Rows
/-! ### != of two lists [t, x] with the same x -/
def rNeI (K : PySem.W.Frag) : R2 := fun x y H Q => ∃ (a b k : Addr) (t : Str), x = .ref a ∧ y = .ref b ∧ SqL K H a [.str t, .ref k] ∧ SqL K H b [.str t, .ref k] ∧ Q (.bl false) H
section
variable {X : Cx}
theorem op_neI (hu : X.A.units + 64 < cLine) : OpR X (compareOp .NotEq) (rNeI X.K) := by
  intro pins s σ H x y v u Q I rx ry h
  obtain ⟨a, b, k, t, rfl, rfl, h1, h2, q⟩ := h
  cases rx
  cases ry
  obtain ⟨its, rv, p1, _⟩ := I.list h1
  obtain ⟨its2, rv2, p2, _⟩ := I.list h2
  cases rv with
  | cons r1 rv =>
    cases rv with
    | cons r2 rv =>
      cases rv
      cases rv2 with
      | cons w1 rv2 =>
        cases rv2 with
        | cons w2 rv2 =>
          cases rv2
          obtain ⟨t1, rfl⟩ := r1
          obtain ⟨t2, rfl⟩ := w1
          cases r2
          cases w2
          have lt : X.A.units < cLine := by omega
          have e := SeqAt.RcNeAt.lists (A := X.A) (s := s) (e := fun _ => true) p1.isList p2.isList rfl lt (fun j j1 j2 => by
            have hj : j < 2 := j1
            match j, hj with
            | 0, _ =>
              have := SeqAt.EqAt.str_str (A := X.A.in1) (s := s) t t1 t t2
              rw [beq_self_eq_true] at this
              exact this
            | 1, _ => exact SeqAt.EqAt.same _)
          refine e X.prog X.w X.xe _ ?_
          exact ⟨.bl false, H, I, rfl, q⟩
end
def fNeI : Op2 := fun x y s => match x, y with
  | .obj n, .obj m => match lstAt s n, lstAt s m with
    | some [.str t, .obj k], some [.str t', .obj k'] => if t = t' ∧ k = k' then some (.bl false, s) else none
    | _, _ => none
  | _, _ => none
def fNeO : Op2 := fun x y s => match fNe x y s with
  | some r => some r
  | none => fNeI x y s
section
variable {X : Cx}
theorem dop_neI (hu : X.A.units + 64 < cLine) : DOp X (compareOp .NotEq) fNeI := ⟨_, op_neI hu, fun φ H s x y v u Q so rx ry p => by
  unfold fNeI at p
  split at p
  · rename_i n m
    cases rx with
    | obj ha =>
      cases ry with
      | obj hb =>
        rename_i a b
        split at p
        · rename_i t k t' k' e1 e2
          split at p
          · rename_i c
            obtain ⟨rfl, rfl⟩ := c
            obtain ⟨vs, k1, d1⟩ := so.lst (lstAt_eq e1) ha
            obtain ⟨us, k2, d2⟩ := so.lst (lstAt_eq e2) hb
            cases d1 with
            | cons r1 d1 =>
              cases d1 with
              | cons r2 d1 =>
                cases d1
                cases d2 with
                | cons w1 d2 =>
                  cases d2 with
                  | cons w2 d2 =>
                    cases d2
                    cases r1
                    cases w1
                    cases r2 with
                    | obj g1 =>
                      cases w2 with
                      | obj g2 =>
                        rw [g1] at g2
                        cases g2
                        exact ⟨a, b, _, t, rfl, rfl, SqL.of k1, SqL.of k2, p.ok so (.bl _)⟩
          · exact p.elim
        · exact p.elim
  · exact p.elim⟩
theorem dop_neO (hu : X.A.units + 64 < cLine) : DOp X (compareOp .NotEq) fNeO := by
  obtain ⟨r1, h1, p1⟩ := dop_ne hu
  obtain ⟨r2, h2, p2⟩ := dop_neI (X := X) hu
  refine ⟨fun x y H Q => r1 x y H Q ∨ r2 x y H Q, fun pins s σ H x y v u Q I rx ry h => ?_, fun φ H s x y v u Q so rx ry p => ?_⟩
  · rcases h with h | h
    · exact h1 pins s σ H x y v u Q I rx ry h
    · exact h2 pins s σ H x y v u Q I rx ry h
  · unfold fNeO at p
    split at p
    · rename_i r e
      refine .inl (p1 φ H s x y v u Q so rx ry ?_)
      rw [e]
      exact p
    · exact .inr (p2 φ H s x y v u Q so rx ry p)
end
end DV

set_option maxHeartbeats 4000000
namespace DV
open PySem L2 PyProof.Rows PySem.NumText PySem.Calls
/-! ### int(t, 2) of any length; int of a sign; the law's head where int's limit is the built-in one -/
theorem wp_maxDigits {M : Model} {A : Around} {E : Value → Shared → Prop} {s : Shared} {Q : Nat → Shared → Prop} (hn : s.heap.NoDigits) (h : Q 4300 s) : wpAny M A Builtin.intMaxStrDigits Q E s := by
  obtain ⟨mc, hns, hnone⟩ := hn
  unfold Builtin.intMaxStrDigits
  refine wpAny_bind (wpAny_nsGet hns ?_)
  rw [hnone]
  exact wpAny_pure h
theorem bin_readL {l : List Nat} (h : ∀ c ∈ l, Bin c) (ne : l ≠ []) (lim : Nat) : (int_private% "readNumeral") lim 2 l = (int_private% "Numeral.value") ((binNum l : Nat) : Int) := by
  have hr : ∀ c ∈ l.reverse, Bin c := fun c m => h c (List.mem_reverse.mp m)
  refine (readNumeral_eq lim 2 l).trans ?_
  rw [Hx.dropB (Bin.all h), Hx.signH (Bin.all h)]
  show judge lim false (based 2 l).1 (based 2 l).2.1 (digits? (based 2 l).1 (((based 2 l).2.2.reverse.dropWhile blank).reverse)) = _
  rw [bin_based h]
  show judge lim false 2 false (digits? 2 ((l.reverse.dropWhile blank).reverse)) = _
  rw [Hx.dropB (Bin.all hr), List.reverse_reverse, bin_digits h ne]
  show (int_private% "Numeral.value") (((l.foldl (fun q c => q.push (Hx.hv c)) (#[] : Array Nat)).foldl (fun n d => n * 2 + d) 0 : Nat) : Int) = _
  have z : (#[] : Array Nat).foldl (fun n d => n * 2 + d) 0 = 0 := by first | rfl | simp
  rw [bin_push, z]
  rfl
theorem wp_textL {M : Model} {A : Around} {E : Value → Shared → Prop} {s : Shared} {Q : Value → Shared → Prop} {v : Value} {text : List Nat} {B : Nat} {n : Int} (hd : s.heap.NoDigits)
    (hs : ¬ (text.takeWhile (· != 0)).length ≤ 640) (hr : (int_private% "readNumeral") 4300 B (text.takeWhile (· != 0)) = (int_private% "Numeral.value") n)
    (ha : ((text.takeWhile (· != 0)).length == text.length) = true) (h : Q (.int n s.toks) { s with toks := s.toks + 1 }) :
    wpAny M A ((int_private% "intFromText") v text B) Q E s := by
  obtain ⟨hp, g, d, tk, os⟩ := s
  repeat (any_goals (first
    | assumption
    | (with_reducible refine wpAny_ite_false (decide_eq_false hs) ?_)
    | (with_reducible refine wpAny_ite_true (decide_eq_true ha) ?_)
    | ((with_reducible show wpAny _ _ Builtin.intMaxStrDigits _ _ _); refine wp_maxDigits hd ?_)
    | wp_step))
  all_goals (try rw [hr])
  all_goals (try dsimp only)
  repeat (any_goals (first
    | assumption
    | (with_reducible refine wpAny_ite_true (decide_eq_true ha) ?_)
    | wp_step))
theorem bin_meetsL {x : Str} {u t : Tok} (h : ∀ c ∈ x.cps.toList, Bin c) (ne : x.cps.toList ≠ []) :
    Meets (Builtin.«int.__new__» ⟨[.type "int", .str x u, .int 2 t], []⟩) (fun _ R s => s.heap.NoDigits ∧ R (.ok (.ret (.int ((binNum x.cps.toList : Nat) : Int) s.toks))) { s with toks := s.toks + 1 }) :=
  .of_wp fun prog w A R s ⟨hd, hQ⟩ => by
    obtain ⟨hp, g, d, tk, os⟩ := s
    have q1 := F.conv_sub_int
    have q2 := F.madeHere_int
    have q3 : typeOf (.str x u) = pure (.type "str") := rfl
    obtain ⟨e1, e2⟩ := Hx.seen_hex (Bin.all h)
    have a2 : ∀ lim, (int_private% "readNumeral") lim 2 (numSeenOf x) = (int_private% "Numeral.value") ((binNum x.cps.toList : Nat) : Int) := fun lim => by rw [e2]; exact bin_readL h ne lim
    have a3 : ((numSeenOf x).length == (numTextOf x).length) = true := by rw [e1, e2]; exact beq_self_eq_true _
    by_cases hl : (numSeenOf x).length ≤ 640
    · have all := Hx.Hid.mk (And.intro hl (And.intro (a2 0) a3))
      clear a2 a3 e1 e2 hl ne h
      repeat (any_goals (first
        | assumption
        | ((with_reducible show wpAny _ _ ((int_private% "intFromText") _ _ _) _ _ _); refine Hx.wp_textB all.out.1 all.out.2.1 all.out.2.2 ?_)
        | wp_step))
      all_goals first | exact ⟨_, rfl, hQ⟩ | exact hQ | skip
    · have all := Hx.Hid.mk (And.intro hl (And.intro (a2 4300) a3))
      clear a2 a3 e1 e2 hl ne h
      repeat (any_goals (first
        | assumption
        | ((with_reducible show wpAny _ _ ((int_private% "intFromText") _ _ _) _ _ _); refine wp_textL hd all.out.1 all.out.2.1 all.out.2.2 ?_)
        | wp_step))
      all_goals first | exact ⟨_, rfl, hQ⟩ | exact hQ | skip
def rBinL : List V → Hp → VK → Prop := fun xs H Q => ∃ x : Str, xs = [.str x, .int 2] ∧ x.cps.toList ≠ [] ∧ (∀ c ∈ x.cps.toList, Bin c) ∧ Q (.int ((binNum x.cps.toList : Nat) : Int)) H
theorem bin_callL {X : Cx} (dig : X.base.NoDigits) : CallR X (.type "int") rBinL := by
  intro pins s σ H xs us Q J r ⟨x, ex, ne, hb, q⟩
  subst ex
  obtain ⟨u, v, rfl, ru, rv⟩ := vals2 r
  obtain ⟨t1, rfl⟩ := ru
  obtain ⟨t2, rfl⟩ := rv
  exact callType_new F.called_int F.newNe_int (Hx.typeCall_int_2 _ _) (Hx.newCall_int_2 _ _) (fun o => F.initArgs_range_2 o _ _) F.entry_int_new (bin_meetsL hb ne) ⟨dig.keeps J.bk, rfl, .int ((binNum x.cps.toList : Nat) : Int), H, J.tok _, ⟨_, rfl⟩, q⟩
/-- int(x, 2) of any length -/
def fIntL : OpN := fun xs s => match xs with
  | [.str x, .int 2] => if (!x.cps.toList.isEmpty && allBin x.cps.toList) = true then some (.int ((binNum x.cps.toList : Nat) : Int), s) else none
  | _ => none
theorem dc_intL {X : Cx} (dig : X.base.NoDigits) : DCall X (.type "int") fIntL := ⟨_, bin_callL dig, fun φ H s vs ds Q so rx p => by
  unfold fIntL at p
  split at p
  · rename_i x
    cases rx with
    | cons r1 r2 => cases r2 with
      | cons r2 r3 =>
        cases r3
        cases r1
        cases r2
        split at p
        · rename_i c
          simp only [Bool.and_eq_true, Bool.not_eq_true'] at c
          refine ⟨x, rfl, fun z => ?_, fun k hk => ?_, p.ok so (.int _)⟩
          · rw [z] at c
            exact absurd c.1 (by simp)
          · exact of_decide_eq_true (List.all_eq_true.mp c.2 k hk)
        · exact p.elim
  · exact p.elim⟩
/-- int(x) of a sign 0 or 1 -/
def fIntD : OpN := fun xs s => match xs with
  | [.str x] => if x = ("0" : Str) then some (.int 0, s) else if x = ("1" : Str) then some (.int 1, s) else none
  | _ => none
theorem dc_intD {X : Cx} : DCall X (.type "int") fIntD := ⟨_, call_int_str, fun φ H s vs ds Q so rx p => by
  unfold fIntD at p
  split at p
  · rename_i x
    obtain ⟨v, rfl, r⟩ := dts1 rx
    cases r
    split at p
    · rename_i c
      subst c
      exact ⟨_, 0, rfl, by decide +kernel, by decide, p.ok so (.int _)⟩
    · split at p
      · rename_i c
        subst c
        exact ⟨_, 1, rfl, by decide +kernel, by decide, p.ok so (.int _)⟩
      · exact p.elim
  · exact p.elim⟩
theorem law_topD {P : Program} {w : World} {K : PySem.W.Frag} {mg mb : Str → Option Value} {k : Nat} {fa a : Addr} {fd : FuncData} {x : Str} {fM : FnD} {t : Shared} {vs : List Value} {ns : List Int} (inK : K.In t.heap) (nsM : t.heap.Ns mainGlobals mg) (nsB : t.heap.Ns builtinsNs mb)
    (boot : ∀ y : Str, y ≠ "__name__" → mb y = bootBuiltins y) (lim : t.heap.NoLimit) (dig : t.heap.NoDigits) (noG : t.gens = #[]) (script : t.heap.get? a = some { cls := .type "list", data := .seq vs.toArray }) (hints : IntsAre vs ns) (h63 : ns.length ≤ 63) (hr : RoomG k callerA)
    (F : ∀ base : Heap, K.In base → base.Ns mainGlobals mg → base.NoDigits → FnG P w K mg base k fa fd [x] fM) (bind : ∀ (s : Shared) (u : Value), BindsTo s fd ⟨[u], []⟩ [(x, u)]) (hT : AllTrue fM) :
    codeAny (model P w) callerA (.call (.ref fa) ⟨[.ref a], []⟩) (fun r t2 => r = .ok (.ret (.bool true)) ∧ OldK t.heap t2.heap ∧ t2.os = t.os ∧ AllBare t2.gens) t := by
  have vals := vals_ints hints
  have small : ns.length ≤ sizeLine := Nat.le_of_lt (small1000 (by omega))
  -- H tracks the script at most
  have run : ∀ H : Hp, (∀ b, H b = none ∨ ∃ ob xs, H b = some (.frz ob (.lst xs))) → FzL K H a (ns.map V.int) → HOk P w H t.heap → (∀ b, H b ≠ none → b = a) → (H a ≠ none → K.lookup a = none) →
      codeAny (model P w) callerA (.call (.ref fa) ⟨[.ref a], []⟩) (fun r t2 => r = .ok (.ret (.bool true)) ∧ OldK t.heap t2.heap ∧ t2.os = t.os ∧ AllBare t2.gens) t := fun H only fz hok alone free => by
    have untracked : ∀ {b : Addr} {o : Obj}, t.heap.get? b = some o → (b = a → H a = none) → (hidT t.heap H).get? b = some o := fun {b o} e n => hidT_get e (by
      cases q : H b with
      | none => rfl
      | some u =>
        have z := alone b (by rw [q]; simp)
        rw [z] at q
        rw [n z] at q
        cases q)
    have dicts : ∀ {b : Addr} {m : Str → Option Value}, t.heap.Ns b m → (hidT t.heap H).Ns b m := fun {b m} ⟨o, es, ep, e, d, r⟩ => ⟨o, es, ep, untracked e (fun z => by
      subst z
      rw [script] at e
      cases e
      cases (show Data.seq vs.toArray _ = Data.dict es ep from d)), d, r⟩
    have inB : K.In (hidT t.heap H) := fun b o e => untracked (inK b o e) (fun z => by
      subst z
      cases q : H b with
      | none => rfl
      | some u => rw [free (by rw [q]; simp)] at e; cases e)
    obtain ⟨ml, l1, l2⟩ := lim
    obtain ⟨md0, d1, d2⟩ := dig
    have digB : (hidT t.heap H).NoDigits := ⟨md0, dicts d1, d2⟩
    have md : Mod K mg (hidT t.heap H) := ⟨inB, dicts nsM, ⟨mb, dicts nsB, boot⟩, ⟨ml, dicts l1, l2⟩⟩
    have env0 : Env0 P w K mg (hidT t.heap H) callerA [] t H := ⟨rfl, md, fun b o e => of_hidT e, Nat.le_of_eq (hidT_size _ _), trivial, fun b hb => absurd hb (by simp [frs]), hok, .of_eq noG⟩
    obtain ⟨s', hs⟩ := hT ns h63
    have sp : spD K 1 fM [.ref a] H (fun v _ => v = .bl true) fun _ _ _ => False := by
      refine ⟨rfl, [.fz (ns.map .int)], [], [], .cons (.fz fz (Dts.of_ints ns)) .nil, So.none, ?_⟩
      rw [hs]
      intro φ v H' _ _ rv
      cases rv
      rfl
    refine codeAny_mono ((F _ inB (dicts nsM) digB).run callerA [] t H ⟨[.ref a], []⟩ [.ref a] [.ref a] (fun v _ => v = .bl true) (fun _ _ _ => False) hr env0 (bind t (.ref a)) (.cons rfl .nil) sp) fun r t2 h => ?_
    cases r with
    | error e => exact (no_exc h).elim
    | ok fl => cases fl with
      | next => exact h.elim
      | brk => exact h.elim
      | cont => exact h.elim
      | ret u =>
        obtain ⟨v, H', os, bare, un, hok', rv, ev⟩ := h
        have ev' : v = .bl true := ev
        subst ev'
        obtain rfl : u = Value.bool true := rv
        refine ⟨rfl, OldK.of_keep fun b o e => ?_, os, bare⟩
        rcases only b with z | ⟨ob, xs, z⟩
        · exact un.keep b o e z (fun y => absurd y (by simp [frs])) (by simp)
        · obtain ⟨e1, _⟩ := hok b _ z
          obtain ⟨e2, _⟩ := hok' b _ (un.frzs b ob _ z)
          rw [e] at e1
          cases e1
          exact e2
  cases lk : K.lookup a with
  | some o =>
    have e := inK a o lk
    rw [script] at e
    cases e
    exact run (fun _ => none) (fun _ => .inl rfl) (.inr (.inr ⟨_, vs.toArray, _, lk, rfl, rfl, rfl, by rw [List.size_toArray, hints.length]; exact small, by simpa using vals⟩)) (fun b u z => by cases (show (none : Option HO) = some u from z)) (fun b z => absurd rfl z) fun z => absurd rfl z
  | none =>
    refine run (fun b => if b = a then some (.frz { cls := .type "list", data := .seq vs.toArray } (.lst (ns.map V.int))) else none) (fun b => ?_) (.inl ⟨_, if_pos rfl⟩) (fun b u z => ?_) (fun b z => ?_) fun _ => lk
    · by_cases hb : b = a
      · exact .inr ⟨_, _, if_pos hb⟩
      · exact .inl (if_neg hb)
    · by_cases hb : b = a
      · subst hb
        cases (if_pos rfl).symm.trans z
        exact ⟨script, by rw [List.length_map]; exact small, vs, _, vals, script⟩
      · cases (if_neg hb).symm.trans z
    · by_cases hb : b = a
      · exact hb
      · exact absurd (if_neg hb) z
theorem walk_topD {l : PySem.W.OpenLaw} {k : Nat} {q : Program} {loose : List Str} {XP : (Str → Option Value) → Heap → Prop} {YP : World → Heap → Prop} {d : DefRec} {K : Params → PySem.W.Frag} {x : Str} (hn : l.most = some 63) (hdf : d.params.defaults = []) (hr : RoomG k callerA)
    (hY : ∀ (w : World) (h : Heap), YP w h → (K w.params).In h)
    (F : ∀ (w : World) (mg : Str → Option Value) (fa : Addr) (h : Heap), (K w.params).In h → h.Ns mainGlobals mg → mg d.name = some (.ref fa) →
      ∃ (fd : FuncData) (fM : FnD), AllTrue fM ∧ (∀ (s : Shared) (u : Value), BindsTo s fd ⟨[u], []⟩ [(x, u)]) ∧ ∀ base : Heap, (K w.params).In base → base.Ns mainGlobals mg → base.NoDigits → FnG l.prog w (K w.params) mg base k fa fd [x] fM) :
    PySem.W.WalkO q loose XP YP l.row.toRowW d [] (fun f vs => PySem.call f vs) := by
  refine Att.attach_call hn hdf fun w s₀ t mg mb fa o pm cd doc a vs ns G Y _ _ _ hmg hobj hints hlen noG => ?_
  have inK := hY w _ Y
  obtain ⟨fd, fM, hT, hbd, hF⟩ := F w mg fa _ inK G.T.g hmg
  exact law_topD inK G.T.g G.T.b G.T.builtins G.T.nolimit G.T.nodigits noG hobj hints hlen hr hF hbd hT
end DV

set_option maxHeartbeats 2000000
namespace DV
open PySem L2 PyProof.Rows
/-! ### try: body, except C as n: m = None if n.f == k else e -/
section
variable {X : Cx} {n f : Str} {i : Nat} {c e a : Addr} {oe : Obj} {p pos : Pos}
/-- n.f within the clause -/
theorem pe_fldP (T : XfF X.K c f) (hz : Zc (.ref c) (some a) oe) (hd : ∃ vs, oe.data = .fields vs) (hmem : (e, oe) ∈ X.pn) (hN : X.N[i]? = some n) (hv : Vis X.env.scope n) (hdb : (n == ("__debug__" : Str)) = false := by decide) (hcd : (n == ("__classdict__" : Str)) = false := by decide)
    (hb : attributeBase (.Name n p) f X.env (eval (.Name n p) X.env) = eval (.Name n p) X.env := by rfl) :
    PE X (.Attribute (.Name n p) f pos) (fun σ H Q => σ[i]? = some (some (.ref e)) ∧ ∃ (vs : List (Str × V)) (v : V), H a = some (.xd vs) ∧ vs.lookup f = some v ∧ Q v H) := by
  constructor
  intro pins s σ H Q I h
  obtain ⟨h0, vs, v, h1, hl, q⟩ := h
  have rv := (pe_var (X := X) (pos := p) hN hv hdb hcd).run pins s σ H (fun x H1 => x = .ref e ∧ H1 = H) I ⟨.ref e, h0, rfl, rfl⟩
  refine attr_of hb (thn rv ?_)
  intro u s1 told
  obtain ⟨x, H1, I1, rx, ex, eH⟩ := told
  subst ex eH
  obtain rfl : u = Value.ref e := rx
  have pe := I1.pin (e, oe) (List.mem_append_left _ hmem)
  obtain ⟨vd, hdat⟩ := hd
  obtain ⟨mA, hns, hr⟩ := (show ObjOk X.prog X.w H1 s1.heap a (.xd vs) from I1.hok a _ h1)
  obtain ⟨od, ho, look⟩ := lookIn_ns hns
  obtain ⟨w, hw, rw'⟩ := RelO.some_of (v := v) (o := mA f) (by rw [← hl]; exact hr f)
  have J : PySem.W.InstAt s1.heap e oe c (some od) := by
    refine ⟨pe.1, hz.1, ?_, ?_⟩
    · unfold PySem.W.notCls
      rw [hdat]
    · rw [hz.2]
      exact ho
  have own := PySem.W.findObj_own (K := X.K) (od := od) T.xf.hdC T.no rfl (by rw [look, hw])
  exact PySem.HandSPX.exc_get I1.kIn J T.xf.ga T.xf.gg T.xf.exC own (handed_of rw') ⟨v, H1, I1.tok _, rw', q⟩
end
def dTryN (L : List Addr) (f : Str) (k : Int) (i j : Nat) (db : DS) : DS := fun Δ s => match db Δ s with
  | some (.ex x Δ1, s1) => if x.cls ∈ L ∧ i < Δ1.length ∧ j < Δ1.length ∧ (x.fs.lookup f).any (fun d => match d with | .int k' => decide (k' = k) | _ => false) = true then some (.nx ((Δ1.set j (some .non)).set i none), s1) else none
  | r => r
theorem prs_look {R : V → D → Prop} {f : Str} {d : D} : ∀ {vs : List (Str × V)} {fs : List (Str × D)}, Prs R vs fs → fs.lookup f = some d → ∃ v, vs.lookup f = some v ∧ R v d
  | _, _, .nil, e => by cases e
  | _, _, .cons (k := k) (v := v) (d := d0) h r, e => by
    rw [List.lookup_cons] at e ⊢
    split at e
    · cases e
      exact ⟨v, rfl, h⟩
    · exact prs_look r e
section
variable {X : Cx} {W0 : WX} {x n m f : Str} {cv : Value} {i j : Nat} {k : Int} {body : List Stmt} {rest kc none_ : Expr} {p1 p2 p3 p4 p5 p6 p7 np pos pos' : Pos} {db : DS} {L : List Addr}
theorem ds_tryN (stk : X.stack = X.env :: X.outer) (frm : X.env.frame = some X.env.locals) (nd : X.N.Nodup) (ij : i ≠ j) (hL : ∀ c ∈ L, PySem.W.exmOne X.K (.ref c) cv = some true) (hF : ∀ c ∈ L, XfF X.K c f) (nc : Names X x cv)
    (hb : ∀ (W : WX) (pn : List (Addr × Obj)) (xe : Value → Shared → Prop), Takes (X.tr pn xe) W → PassesOwn (model X.prog X.w) X.A X.env xe → DSs (X.tr pn xe) W body db)
    (hrest : ∀ (e : Addr) (pn : List (Addr × Obj)), ∃ te, PE (X.suite e pn) rest te) (hk : ∀ (e : Addr) (pn : List (Addr × Obj)), PE (X.suite e pn) kc (tC (.int k))) (hnone : ∀ (e : Addr) (pn : List (Addr × Obj)), PE (X.suite e pn) none_ (tC .non))
    (hg : ∀ (e : Addr) (pn : List (Addr × Obj)), PG (X.suite e pn) (.Name m p1) (gName j))
    (hv : Vis X.env.scope n) (ni : X.N[i]? = some n := by rfl) (nl : X.env.kindOf n = some .local := by rfl) (hex : X.ex = [] := by rfl) (hdb : (n == ("__debug__" : Str)) = false := by decide) (hcd : (n == ("__classdict__" : Str)) = false := by decide)
    (hat : attributeBase (.Name n p2) f X.env (eval (.Name n p2) X.env) = eval (.Name n p2) X.env := by rfl)
    (hs : swapsWithSole [.Name m p1] (.IfExp (.Compare (.Attribute (.Name n p2) f p4) [.Eq] [kc] p5) none_ rest p6) p3.line X.env = pure false := by rfl) (hw : swappedStores [.Name m p1] (.IfExp (.Compare (.Attribute (.Name n p2) f p4) [.Eq] [kc] p5) none_ rest p6) X.env = pure none := by rfl)
    (h1 : (assignEach [.Name m p1] X.env).map (·.2) = [assign (.Name m p1) X.env] := by rfl) (hm : behindInMarks .Eq kc = false := by first | exact nobehind _ (by decide) (by decide) | rfl) :
    DSt X W0 (.Try body [.ExceptHandler (some (.Name x np)) (some n) [.Assign [.Name m p1] (.IfExp (.Compare (.Attribute (.Name n p2) f p4) [.Eq] [kc] p5) none_ rest p6) p3] pos'] [] [] pos) (dTryN L f k i j db) := by
  let ts : Addr → Value → Option Addr → TS := fun e cls d => fun Q σ H => ∃ (c a : Addr) (vs : List (Str × V)), cls = .ref c ∧ d = some a ∧ XfF X.K c f ∧ σ[i]? = some (some (.ref e)) ∧ H a = some (.xd vs) ∧ vs.lookup f = some (.int k) ∧ Q.nx (σ.set j (some .non)) H
  refine ps_imp (ps_try_kept (tb := fun W => upS X.K W db) (ts := ts) stk frm nd ni nl nc hex hb (fun e oe cls d pn hz hd => ?_)) ?_
  · refine pss_one ⟨fun pins s σ H Q I h => ?_⟩
    obtain ⟨c, a, vs, rfl, rfl, T, h0, h2, hl, q⟩ := h
    obtain ⟨te, hr⟩ := hrest e ((e, oe) :: pn)
    have pf := pe_fldP (X := X.suite e ((e, oe) :: pn)) (p := p2) (pos := p4) T hz hd (show (e, oe) ∈ (X.suite e ((e, oe) :: pn)).pn from List.mem_cons_self) ni hv hdb hcd hat
    refine (ps_asg (pe_ifExp (pt_cmp (pc_eqI pf (hk e ((e, oe) :: pn))) hm) (hnone e ((e, oe) :: pn)) hr) (hg e ((e, oe) :: pn)) hs hw h1).run pins s σ H Q I ?_
    refine ⟨h0, vs, .int k, h2, hl, k, k, rfl, rfl, true, congrArg V.bl (decide_eq_true rfl), ?_⟩
    show (if true = true then (tC V.non σ H fun x H1 => gName j x σ H1 Q.nx) else _)
    rw [if_pos rfl]
    exact q
  · intro D σ H ⟨Δ, φ, s, hσ, hs, h⟩
    refine ⟨Δ, φ, s, hσ, hs, ?_⟩
    unfold dTryN at h
    cases r : db Δ s with
    | none => rw [r] at h; exact h.elim
    | some q =>
      obtain ⟨r1, s1⟩ := q
      rw [r] at h
      cases r1 with
      | nx Δ1 => exact h
      | rt d => exact h
      | bk Δ1 => exact h
      | ct Δ1 => exact h
      | ex xx Δ1 =>
        simp only at h
        split at h
        · rename_i hc
          obtain ⟨hc1, hi, hj, hk2⟩ := hc
          intro φ1 σ1 H1 c dd f1 so1 sg1 xr
          have hcl := xr.1
          subst hcl
          refine ⟨hL _ hc1, fun e na => ?_⟩
          obtain ⟨d0, hd0, hd1⟩ : ∃ d0, xx.fs.lookup f = some d0 ∧ d0 = .int k := by
            cases ql : xx.fs.lookup f with
            | none => rw [ql] at hk2; cases hk2
            | some d0 =>
              rw [ql] at hk2
              refine ⟨d0, rfl, ?_⟩
              cases d0 with
              | int k' => simpa using hk2
              | non => simp at hk2
              | bl b => simp at hk2
              | str y => simp at hk2
              | tup ys => simp at hk2
              | obj y => simp at hk2
              | adr y => simp at hk2
              | ty y => simp at hk2
              | fz y => simp at hk2
              | exc y z w => simp at hk2
          subst hd1
          rcases xr.2 with ⟨_, he⟩ | ⟨a, vs, rfl, h2, h3⟩
          · rw [he] at hd0
            cases hd0
          · obtain ⟨v, hv1, hv2⟩ := prs_look h3 hd0
            cases hv2
            refine ⟨xx.cls, a, vs, rfl, rfl, hF _ hc1, ?_, h2, hv1, fun na2 => ?_⟩
            · have l := sg1.len
              rw [List.getElem?_set_self (by omega)]
            · have f3 : Fu X.K φ1 φ1 H1 (upd H1 e (ExK (.ref xx.cls) (some a) e)) := fu_new na2
              refine h φ1 _ _ (f1.trans f3) (so1.new na2) ⟨?_, fun q d hq => ?_⟩
              · simp only [List.length_set]
                exact sg1.len
              · by_cases qi : q = i
                · subst qi
                  rw [List.getElem?_set_self (by simp; exact hi)] at hq
                  cases hq
                · rw [List.getElem?_set_ne (fun z => qi z.symm)] at hq ⊢
                  by_cases qj : q = j
                  · subst qj
                    rw [List.getElem?_set_self hj] at hq
                    cases hq
                    refine ⟨.non, ?_, .non⟩
                    rw [List.getElem?_set_self (by simp; have := sg1.len; omega)]
                  · rw [List.getElem?_set_ne (fun z => qj z.symm)] at hq ⊢
                    rw [List.getElem?_set_ne (fun z => qi z.symm)]
                    obtain ⟨v, w1, w2⟩ := sg1.get q d hq
                    exact ⟨v, w1, w2.fu f3⟩
        · exact h.elim
end
end DV

set_option maxHeartbeats 2000000
namespace DV
open PySem L2 PyProof.Rows
/-! ### abs of an int -/
def fAbs : OpN := fun xs s => match xs with
  | [.int i] => some (.int (if i < 0 then -i else i), s)
  | _ => none
theorem dc_abs {X : Cx} : DCall X (.builtin "abs") fAbs := ⟨_, call_abs, fun φ H s vs ds Q so rx p => by
  unfold fAbs at p
  split at p
  · obtain ⟨v, rfl, r⟩ := dts1 rx
    cases r
    exact ⟨_, rfl, p.ok so (.int _)⟩
  · exact p.elim⟩
end DV

set_option maxHeartbeats 2000000
namespace DV
open PySem L2 PyProof.Rows
/-! ### a comprehension whose step may raise -/
/-- a heap with another thing at C, if there is one -/
theorem swapAt (h : Heap) (C : Addr) (o3 : Obj) (hf : o3.isFreed = false) : ∃ h' : Heap, (∀ b, b ≠ C → h'.get? b = h.get? b) ∧ ((h.get? C = none ∧ h'.get? C = none) ∨ ((∃ o, h.get? C = some o) ∧ h'.get? C = some o3)) := by
  cases e : h.get? C with
  | none => exact ⟨h, fun _ _ => rfl, .inl ⟨rfl, e⟩⟩
  | some o => exact ⟨h.update C fun _ => o3, fun b hb => Heap.get?_update_ne h b C _ hb, .inr ⟨⟨o, rfl⟩, Heap.get?_update_self (fun _ => o3) e hf⟩⟩
theorem ff_base {B B' h : Heap} : ∀ {l : List Env}, (∀ b ∈ frs l, B'.get? b = B.get? b) → h.FunFrames B l → h.FunFrames B' l
  | [], _, _ => trivial
  | v :: l, e, q => by
    obtain ⟨hk, ⟨L, o, hf, hb, ho, hd⟩, hr⟩ := q
    refine ⟨hk, ⟨L, o, hf, ?_, ho, hd⟩, ff_base (fun b hb => e b ?_) hr⟩
    · rw [e L (List.mem_filterMap.mpr ⟨v, by simp, hf⟩)]
      exact hb
    · obtain ⟨w, hw, e⟩ := List.mem_filterMap.mp hb
      exact List.mem_filterMap.mpr ⟨w, by simp [hw], e⟩
theorem ns_ut {h h' : Heap} {C : Addr} {m : Str → Option Value} (q : h.Ns C m) (u : h.UpToSlots h') : h'.Ns C m := by
  obtain ⟨o, es, ep, ho, hd, hs, hn⟩ := q
  obtain ⟨sl, e⟩ := u C o ho fun vs z => by rw [hd] at z; cases z
  exact ⟨_, es, ep, e, hd, hs, hn⟩
theorem utr {h h' h'' : Heap} (a : h.UpToSlots h') (b : h'.UpToSlots h'') : h.UpToSlots h'' := fun c o e n => by
  obtain ⟨sl, e1⟩ := a c o e n
  obtain ⟨sl2, e2⟩ := b c _ e1 n
  exact ⟨sl2, e2⟩
theorem urfl (h : Heap) : h.UpToSlots h := fun c o e n => ⟨o.slots, by rw [e]⟩
section
variable {X : Cx} {W : WX} {pins : List (Addr × Obj)} {σ : L2.St} {H : Hp} {s : Shared} {scope : Scope} {own : List (Str × Nat)} {fp : List Addr} {C : Addr} {cl : List (Str × Addr)}
def W1 (W : WX) (C : Addr) : WX := fun c d σ H => W c d σ H ∧ H C = none
def xeB (X : Cx) (W : WX) (C : Addr) : Value → Shared → Prop := fun u s' => XE X (W1 W C) u s' ∧ ∃ m, s'.heap.Ns C m
/-- the outer's reading, out of the block's -/
theorem unblk {pins1 : List (Addr × Obj)} {σ1 : L2.St} {H1 : Hp} {s1 : Shared} {cenv : Env} (I : Inv X pins σ H s) (hfp : ∀ b ∈ fp, FpOk X pins H b) (I1 : Inv (X.blk s H scope cenv fp) pins1 σ1 H1 s1) : Inv X pins σ H1 s1 := by
  have q := I.call (ch := fp) (h' := s1.heap) (g' := s1.gens) (t' := s1.toks) (d' := s1.drawn) I1.base I1.hok I1.bare (fun b hb => by
    have f := hfp b hb
    exact ⟨f.2.2.2.1, f.2.1, f.2.2.2.2.1, f.2.2.2.2.2⟩)
  have eo : s1.os = s.os := I1.os
  rw [← eo] at q
  exact q
theorem pass_blk (I : Inv X pins σ H s) (hfp : ∀ b ∈ fp, FpOk X pins H b) (hC : C ∉ frs X.stack) (σ1 : L2.St) : PassesAt (CX X.prog X.w) ((X.blk s H scope (compEnvC scope cl C X.env) fp).wish (xeB X W C)) σ1 (fun c d H' => W c d σ H') := by
  intro pins1 H1 s1 e s' I1 hcx
  have I1' := I1.unwish
  have Io := unblk I hfp I1'
  obtain ⟨a, B, H', cls, d, rfl, fl, ho, ub, na, os, ab, w⟩ := hcx
  obtain ⟨m, hns, _⟩ := I1'.loc
  have hns' : s1.heap.Ns C m := hns
  obtain ⟨o, es, ep, hgo, hd, hs, hn⟩ := hns'
  have hf : H1 C = none := I1'.free
  have hB := ub.keep C o hgo hf hC
  refine ⟨XE.of_call (E := fun c d H' => W c d σ H' ∧ H' C = none) Io (fun _ _ _ h => h) ⟨a, B, H', cls, d, rfl, fl, ho, ub, na, os, ab, w, ub.free C o hgo hf⟩, m, o, es, ep, fl.1 C o hB, hd, hs, hn⟩
theorem look_any {B : Heap} {a : Addr} {cls : Value} {d : Option Addr} {s' : Shared} {Q : Unit → Shared → Prop} {E : Value → Shared → Prop} (allF : X.A.frames = some (X.env :: X.outer)) (frm : X.env.frame = some X.env.locals) (sky : Sky B (X.env :: X.outer) a (Zc cls d) X.env.locals s'.heap)
    (q : ∀ h', HandSPX.HeldZ B (X.env :: X.outer) a (Zc cls d) X.env.locals h' → s'.heap.UpToSlots h' → Q () { s' with heap := h' }) : wpAny (model X.prog X.w) X.A (noteFrame (.ref a) X.env) Q E s' := by
  rcases sky with ⟨st, na, ff, oe, vs, ge, z, hd, h1⟩ | fly | held
  · exact HandSPX.look_newZ Zc.steady allF ff frm ge st na hd h1 z q
  · exact HandSPX.looks_onZ Zc.steady allF frm fly q
  · exact HandSPX.againZ frm held.2.2.2 (q s'.heap held (urfl _))
theorem fails_out (tk : Takes X W) (stk : X.stack = X.env :: X.outer) (frm : X.env.frame = some X.env.locals) (I : Inv X pins σ H s) (hC : s.heap.objs.size ≤ C) (hCs : C ∉ frs X.stack) {u : Value} {s' : Shared} (x : xeB X W C u s') :
    notedBy (model X.prog X.w) X.A (compEnvC scope cl C X.env) (fun e t => CompFails (model X.prog X.w) X.A X.xe (compEnvC scope cl C X.env) e t) u s' := by
  obtain ⟨⟨a, B, sI, pins1, σ1, H1, cls, d, rfl, I1, inB, upTo, sky, na, sameOs, allB, w, hC1⟩, m, hns⟩ := x
  have allF : X.A.frames = some (X.env :: X.outer) := I.ok.frames.trans (congrArg some stk)
  rw [stk] at sky
  show wpAny _ _ (noteFrame (.ref a) X.env) _ _ _
  refine look_any allF frm sky fun h2 held up2 => ?_
  have ns2 : h2.Ns C m := ns_ut hns up2
  refine ⟨m, ns2, fun h3 m3 ns3 same => ?_⟩
  obtain ⟨o3, es3, ep3, go3, hd3, hs3, hn3⟩ := ns3
  have nf3 : o3.isFreed = false := by
    obtain ⟨c1, c2, c3, c4⟩ := o3
    have : c3 = Data.dict es3 ep3 := hd3
    subst this
    rfl
  obtain ⟨o2, es2, ep2, go2, hd2, hs2, hn2⟩ := ns2
  obtain ⟨hst, hna, hff, oe, vs, T, oT, ts, ge, hz, hde, h1v, hbT, hTe, gT, hdT, hts⟩ := held
  have aC : a ≠ C := fun z => by
    rw [z, go2] at ge
    cases ge
    rw [hd2] at hde
    cases hde
  have TC : T ≠ C := fun z => by
    rw [z, go2] at gT
    cases gT
    rw [hd2] at hdT
    cases hdT
  obtain ⟨B3, bo, bc⟩ := swapAt B C o3 nf3
  obtain ⟨hI, io, ic⟩ := swapAt sI.heap C o3 nf3
  rw [stk] at hCs
  have held3 : HandSPX.HeldZ B3 (X.env :: X.outer) a (Zc cls d) X.env.locals h3 := by
    refine ⟨fun b o e => ?_, ?_, ?_, oe, vs, T, oT, ts, ?_, hz, hde, h1v, ?_, hTe, ?_, hdT, hts⟩
    · by_cases hb : b = C
      · subst hb
        rcases bc with ⟨_, z⟩ | ⟨_, z⟩
        · rw [z] at e; cases e
        · rw [z] at e; cases e; exact go3
      · rw [bo b hb] at e
        rw [same.2 b hb]
        exact hst b o e
    · rw [bo a aC]; exact hna
    · refine ff_base (B := B) (fun b hb => bo b fun z => hCs (z ▸ hb)) (Heap.FunFrames.sameBut same ⟨o3, es3, ep3, go3, hd3, hs3, hn3⟩ hff)
    · rw [same.2 a aC]; exact ge
    · rw [bo T TC]; exact hbT
    · rw [same.2 T TC]; exact gT
  show wpAny _ _ (PySem.passOn _ (.ref a) X.env) _ _ _
  unfold PySem.passOn
  refine wpAny_bind (wpAny_field (by show h3.get? a = some oe; rw [same.2 a aC]; exact ge) hde h1v ?_)
  have ne : ((Value.ref T == Value.none) = true) = False := by simp
  simp only [ne, if_false]
  rw [frm]
  refine wpAny_bind (HandSPX.setFlight_onZ held3 fun h4 held4 up4 => ?_)
  refine wpAny_throw (tk _ _ ?_)
  have I0 : Inv X [] σ1 H1 sI := Inv.unpinned (pl := pins1) (by rw [List.nil_append]; exact I1)
  have f0 : FpOk X pins H1 C := I.fpOk hC hC1
  have fC : FpOk X [] H1 C := ⟨f0.1, f0.2.1, f0.2.2.1, f0.2.2.2.1, f0.2.2.2.2.1, fun p hp => f0.2.2.2.2.2 p (by simp at hp; simp [hp])⟩
  have I3 := I0.turnedL (h' := hI) (t' := sI.toks) (ch := [C]) (fun b o hb e => by rw [io b (by simpa using hb)]; exact e) (fun b hb => by
    have : b = C := by simpa using hb
    subst this
    exact fC)
  have inC : ∀ o, sI.heap.get? C = some o → B.get? C = some o := fun o e => inB C o e (by rw [stk]; exact hCs)
  refine ⟨a, B3, { sI with heap := hI }, [], σ1, H1, cls, d, rfl, I3, fun b o e hb => ?_, fun b o e nfl => ?_, ?_, na, sameOs, allB, w⟩
  · by_cases h : b = C
    · subst h
      rcases ic with ⟨_, z⟩ | ⟨⟨oi, zi⟩, z⟩
      · have e' : hI.get? b = some o := e
        rw [z] at e'; cases e'
      · have e' : hI.get? b = some o := e
        rw [z] at e'
        rcases bc with ⟨y, _⟩ | ⟨_, y⟩
        · rw [inC oi zi] at y; cases y
        · rw [y]; exact e'
    · have e' : hI.get? b = some o := e
      rw [io b h] at e'
      rw [bo b h]
      exact inB b o e' hb
  · by_cases h : b = C
    · subst h
      have e' : hI.get? b = some o := e
      rcases ic with ⟨_, z⟩ | ⟨_, z⟩
      · rw [z] at e'; cases e'
      · rw [z] at e'
        cases e'
        exact up4 b o3 go3 nfl
    · have e' : hI.get? b = some o := e
      rw [io b h] at e'
      obtain ⟨sl1, e1⟩ := upTo b o e' nfl
      obtain ⟨sl2, e2⟩ := up2 b _ e1 nfl
      rw [← same.2 b h] at e2
      obtain ⟨sl3, e3⟩ := up4 b { cls := o.cls, dict := o.dict, data := o.data, slots := sl2 } e2 nfl
      exact ⟨sl3, e3⟩
  · rw [stk]
    exact .inr (.inr held4)
end
section
variable {X : Cx} {W : WX}
theorem get_lt {h : Heap} {b : Addr} {o : Obj} (e : h.get? b = some o) : b < h.objs.size := Classical.byContradiction fun z => by
  unfold Heap.get? at e
  rw [Array.getElem?_eq_none (Nat.le_of_not_lt z)] at e
  cases e
theorem wish_fp {Y : Cx} {E : Value → Shared → Prop} {pins : List (Addr × Obj)} {H : Hp} {b : Addr} (h : FpOk Y pins H b) : FpOk (Y.wish E) pins H b := h
theorem pe_lcX {elt tg iter : Expr} {ifs : List Expr} {scope : Scope} {own : List (Str × Nat)} {pos : Pos} {wi : TI} {g : TG} {tt : TT} {te : L2.St → TE} (hc : X.calm = true) (hN : X.N.Nodup) (hi : PI X tg iter wi) (ok : BlkOk X.N X.env.scope scope own)
    (tk : Takes X W) (stk : X.stack = X.env :: X.outer) (frm : X.env.frame = some X.env.locals)
    (hg : ∀ s H C cl fp, PG (X.blk s H scope (compEnvC scope cl C X.env) fp) tg g) (ht : ∀ s H C cl fp, PTs (X.blk s H scope (compEnvC scope cl C X.env) fp) ifs tt)
    (he : ∀ s H C cl fp xe σ, (∀ σ1, PassesAt (CX X.prog X.w) ((X.blk s H scope (compEnvC scope cl C X.env) fp).wish xe) σ1 (fun c d H' => W c d σ H')) → PE ((X.blk s H scope (compEnvC scope cl C X.env) fp).wish xe) elt (te σ))
    (hs : ∀ x, foldedSetIterable iter X.env x = pure x) : PE X (.ListComp elt [⟨tg, iter, ifs, 0⟩] scope pos) (fun σ H Q => tLc wi g tt (te σ) (own.map (·.2)) σ H Q) := by
  constructor
  intro pins s σ H Q I h
  rw [eval_ListComp]
  refine comprehension_at (g := ⟨tg, iter, ifs, 0⟩) (gs := []) (use := none) rfl hs (closure_ok fun y hy hk => ?_) ok.kind (fun y hy hk => ?_) ?_
  · refine I.ok.has y.1 ?_
    rcases ok.free y hy hk with z | z
    · exact .inl z
    · exact .inr z
  · rw [ok.uniq y hy, hk]
  refine thn (hi.run pins s σ H _ I h) fun v s1 hv => thn hv fun itv s2 ⟨it, fp, tn, J, H1, e, I2, tu, tn0, fpk, k⟩ => ?_
  subst e
  refine wpAny_newList ?_ (Nat.zero_le _)
  have I3 := I2.lnew (ys := []) (its := []) (t' := s2.toks) .nil (Nat.zero_le _)
  obtain ⟨Wv, ⟨m0, w0⟩, step⟩ := k s2.heap.objs.size (I2.hok.fresh (Nat.le_refl _))
  generalize eD : s2.heap.objs.size = D at I3 w0 step ⊢
  generalize es3 : ({ heap := s2.heap.push { cls := Value.type "list", data := Data.seq ([] : List Value).toArray }, gens := s2.gens, drawn := s2.drawn, toks := s2.toks, os := s2.os } : Shared) = s3 at I3 ⊢
  have old : ∀ b o, s2.heap.get? b = some o → s3.heap.get? b = some o := fun b o e => by
    rw [← es3]
    rw [Heap.get?_push_ne _ _ _ (Nat.ne_of_lt (get_lt e))]
    exact e
  have lt3 : ∀ b ∈ fp, b < D := fun b hb => by
    obtain ⟨o, ho, _⟩ := tu.obj 0 s2.heap tn0 b hb
    rw [← eD]
    exact get_lt ho
  have fp3 : ∀ b ∈ fp, FpOk X pins (upd H1 D (.lst [])) b ∧ b < s3.heap.objs.size := fun b hb => by
    have f := fpk b hb
    have l := lt3 b hb
    refine ⟨⟨by rw [upd_ne (Nat.ne_of_lt l)]; exact f.1, f.2⟩, ?_⟩
    rw [← es3]
    show b < (s2.heap.objs.push _).size
    rw [Array.size_push, eD]
    exact Nat.lt_succ_of_lt l
  refine newEnv_comp ?_
  have IB := block_start (own := own) (scope := scope) I3 ok hN fp3
  generalize eC : s3.heap.objs.size = C at IB ⊢
  generalize ecl : cellsFrom (C + 1) scope.names (cloFrom X.env.cells scope.names []) = cl at IB ⊢
  have s4old : ∀ b o, s3.heap.get? b = some o → (pushCells (s3.heap.push { cls := Value.type "dict", data := Data.dict #[] }) scope.names).get? b = some o := fun b o e => by
    refine pushCells_keeps _ _ _ _ ?_
    rw [Heap.get?_push_ne _ _ _ (Nat.ne_of_lt (get_lt e))]
    exact e
  generalize es4 : ({ heap := pushCells (s3.heap.push { cls := Value.type "dict", data := Data.dict #[] }) scope.names, gens := s3.gens, drawn := s3.drawn, toks := s3.toks, os := s3.os } : Shared) = s4 at IB ⊢
  have tn4 : tn 0 s4.heap := tu.keep 0 s2.heap s4.heap tn0 fun b hb o e => by
    rw [← es4]
    exact s4old b o (old b o e)
  show codeAny _ _ (Code.compStart _ 0 (.ref it) (.ref D) (compEnvC scope cl C X.env)) (compEnds _ _ _ _ _ (.ref D) (compEnvC scope cl C X.env)) s4
  have loop : codeAny (model X.prog X.w) X.A (Code.compLoop (.ListComp elt [⟨tg, iter, ifs, 0⟩] scope pos) 0 (.ref it) (.ref D) (compEnvC scope cl C X.env)) (compEnds (model X.prog X.w) X.A X.xe none (EP X pins σ Q) (.ref D) (compEnvC scope cl C X.env)) s4 := by
    have hCs : C ∉ frs X.stack := fun z => by
      have f0 : FpOk X pins (upd H1 D (.lst [])) C := I3.fpOk (Nat.le_of_eq eC) IB.free
      rcases List.mem_cons.mp (I3.stkSub C z) with e | e
      · exact f0.2.1 e
      · exact f0.2.2.1 e
    have fpY : ∀ H', (∀ b ∈ fp, H' b = none) → ∀ b ∈ fp, FpOk (X.blk s3 (upd H1 D (.lst [])) scope (compEnvC scope cl C X.env) fp) [] H' b := fun H' hH b hb => ⟨hH b hb, (IB.ok.exf b hb).1, IB.ok.exfs b hb, .inl hb, (IB.ok.exf b hb).2, fun p hp => by cases hp⟩
    have back : ∀ pl σ3 H' t, wipe σ3 (own.map (·.2)) = wipe σ (own.map (·.2)) → Inv (X.blk s3 (upd H1 D (.lst [])) scope (compEnvC scope cl C X.env) fp) ([] ++ pl) σ3 H' t → Inv (X.blk s3 (upd H1 D (.lst [])) scope (compEnvC scope cl C X.env) fp) [] (wipe σ (own.map (·.2))) H' t := fun pl σ3 H' t e z => by
      refine (Inv.unpinned z).weak ?_ fun i v h => ?_
      · rw [← e, wipe_length]
      · rw [← e] at h
        exact (wipe_some h).1
    refine compLoop_any (fun n s' => ∃ i H', Inv (X.blk s3 (upd H1 D (.lst [])) scope (compEnvC scope cl C X.env) fp) [] (wipe σ (own.map (·.2))) H' s' ∧ tn i s'.heap ∧ Wv i n H' ∧ ∀ b ∈ fp, H' b = none) ?_ m0 ⟨0, _, IB, tn4, w0, fun b hb => (fp3 b hb).1.1⟩
    rintro n s' ⟨i, H', IH, tni, wv, fpn⟩
    rcases step i n H' wv with ⟨stop, q⟩ | ⟨go, Nx, nx, y⟩
    · refine thnF (tu.done (X.blk s3 (upd H1 D (.lst [])) scope (compEnvC scope cl C X.env) fp) rfl rfl rfl hc i [] s' _ H' (fun _ _ => False) IH (fpY H' fpn) tni stop) fun r t ⟨hr, It⟩ => ?_
      subst hr
      obtain ⟨m, hns, _⟩ := It.loc
      refine ⟨m, hns, fun h' same => ?_⟩
      have Io := unblk I3 (fun b hb => (fp3 b hb).1) It
      have fC : FpOk X pins H' C := I3.fpOk (Nat.le_of_eq eC) It.free
      have I5 := Io.turnedL (h' := h') (t' := t.toks) (ch := [C]) (fun b o hb e => by rw [same.2 b (fun z => hb (List.mem_singleton.mpr z))]; exact e) (fun b hb => by
        have : b = C := by simpa using hb
        subst this
        exact fC)
      exact ⟨.ref D, H', I5, rfl, q⟩
    · refine thn (tu.item (X.blk s3 (upd H1 D (.lst [])) scope (compEnvC scope cl C X.env) fp) rfl rfl rfl hc i [] s' _ H' _ IH (fpY H' fpn) tni go) fun r t ⟨u, hr, q1⟩ => ?_
      subst hr
      refine thn q1 fun _ t2 ⟨x, H2, Iq, rx, yl, tn2, fpn2⟩ => ?_
      have P2 := Iq.pinned (fpY H2 fpn2) (tu.obj (i + 1) _ tn2)
      have keepP : ∀ σ' H' t', Inv (X.blk s3 (upd H1 D (.lst [])) scope (compEnvC scope cl C X.env) fp) ([] ++ pinsAt fp t2.heap) σ' H' t' → tn (i + 1) t'.heap ∧ ∀ b ∈ fp, H' b = none := fun σ' H' t' Iz => by
        have gg : ∀ b ∈ fp, ∀ o, t2.heap.get? b = some o → t'.heap.get? b = some o ∧ H' b = none := fun b hb o e => by
          have mem : (b, o) ∈ ([] : List (Addr × Obj)) ++ ([] ++ pinsAt fp t2.heap) := by
            simp only [List.nil_append]
            exact List.mem_filterMap.mpr ⟨b, hb, by simp [e]⟩
          have := Iz.pin (b, o) mem
          exact ⟨this.1, this.2.1⟩
        refine ⟨tu.keep _ _ _ tn2 fun b hb o e => (gg b hb o e).1, fun b hb => ?_⟩
        obtain ⟨o, ho, _⟩ := tu.obj _ _ tn2 b hb
        exact (gg b hb o ho).2
      refine thnF ((hg s3 _ C cl fp).run _ t2 _ H2 x u _ P2 rx (y x H2 yl)) fun _ t3 ⟨σ3, H3, P3, w3, z3⟩ => ?_
      refine thnF ((ht s3 _ C cl fp).run _ t3 σ3 H3 _ P3 z3) fun b t4 ⟨H4, P4, z4⟩ => ?_
      cases b with
      | false =>
        rw [if_neg (by simp)] at z4 ⊢
        obtain ⟨m', lt, wv'⟩ := nx H4 z4
        obtain ⟨k1, k2⟩ := keepP _ _ _ P4
        exact ⟨m', lt, i + 1, H4, back _ _ _ _ w3 P4, k1, wv', k2⟩
      | true =>
        rw [if_pos rfl] at z4 ⊢
        have pe := (he s3 (upd H1 D (.lst [])) C cl fp (xeB X W C) σ (fun σ1 => pass_blk I3 (fun b hb => (fp3 b hb).1) hCs σ1)).run _ t4 σ3 H4 _ (P4.wish _) z4
        refine wpAny_mono pe (fun yv t5 ⟨yv', H5, P5, ry, acc, ea, hz, hnx⟩ => ?_) (fun e t z => fails_out tk stk frm I3 (Nat.le_of_eq eC) hCs z)
        refine app_ok (X := X.blk s3 (upd H1 D (.lst [])) scope (compEnvC scope cl C X.env) fp) P5.unwish ea hz ry fun t6 P6 => ?_
        obtain ⟨m', lt, wv'⟩ := nx _ hnx
        obtain ⟨k1, k2⟩ := keepP _ _ _ P6
        exact ⟨m', lt, i + 1, _, back _ _ _ _ w3 P6, k1, wv', k2⟩
  exact codeAny_compStart_list loop (tu.self X.A 0 s4 _ _ tn4 loop)
end
/-- the turns of a comprehension whose step may raise: the new list stands at n -/
def lcRunX (I : Itd) (g : DGf) (tt : DT) (de : DX) (n : Nat) : List D → Dn → Sto → Rs Unit
  | [], _, s => if I.still s = true then some (.ok (), s) else none
  | d :: r, Δ, s => if I.still s = true then (match g d Δ s with
    | some (Δ1, s1) => match tt Δ1 s1 with
      | some (.ok true, s2) => match de Δ1 s2 with
        | some (.ok y, s3) => match lstAt s3 n with
          | some acc => if acc.length < sizeLine then lcRunX I g tt de n r Δ (s3.set n (.lst (acc ++ [y]))) else none
          | none => none
        | some (.error x, s3) => some (.error x, s3)
        | none => none
      | some (.ok false, s2) => lcRunX I g tt de n r Δ s2
      | _ => none
    | none => none) else none
def dLcX (vs : List Nat) (di : DI) (g : DGf) (tt : DT) (de : DX) : DX := fun Δ => mbind (di Δ) fun I s => match lcRunX I g tt de s.length I.its (wipeD Δ vs) (s ++ [.lst []]) with
  | some (.ok _, s') => some (.ok (.obj s.length), s')
  | some (.error x, s') => some (.error x, s')
  | none => none
section
variable {X : Cx} {W : WX}
/-- what is wished of the end of the turns -/
def EndX (K : PySem.W.Frag) (W : WK) (φ1 : List Addr) (H1 : Hp) (n : Nat) (Q : VK) : Rs Unit → Prop
  | some (.ok _, sf) => ∀ ψ b H', Fu K φ1 ψ H1 H' → So K ψ H' sf → Dt K ψ H' b (.obj n) → Q b H'
  | some (.error x, sf) => ∀ ψ H' cls dd, Fu K φ1 ψ H1 H' → So K ψ H' sf → Xr K ψ H' cls dd x → W cls dd H'
  | none => False
theorem lc_readX {K : PySem.W.Frag} {vs : List Nat} {t : TG} {g : DGf} {di : DI} {tt : DT} {de : DX} {σ : L2.St} {H : Hp} {Q : VK} (ng : NgOk K vs t g) (h : upE K W (dLcX vs di g tt de) σ H Q) :
    tLc (upI K W di) t (upT K W0 tt) (upE K (fun c d _ H' => W c d σ H') de) vs σ H Q := by
  obtain ⟨Δ, φ, s, hσ, hs, h⟩ := h
  refine ⟨Δ, φ, s, hσ, hs, Ps.mono (fun φ1 J H1 I s1 z => ?_) (Ps.bind (R := Yl K) h)⟩
  obtain ⟨f1, so1, yl, h1⟩ := z
  have hσ1 := hσ.fu f1
  intro Dd hD
  have h1' : EndX K (wAt W σ) φ1 H1 s1.length Q (lcRunX I g tt de s1.length I.its (wipeD Δ vs) (s1 ++ [.lst []])) := by
    cases e : lcRunX I g tt de s1.length I.its (wipeD Δ vs) (s1 ++ [.lst []]) with
    | none => rw [e] at h1; exact h1.elim
    | some p =>
      obtain ⟨r, sf⟩ := p
      rw [e] at h1
      cases r with
      | ok _ => exact fun ψ b H' f so rd => h1 ψ b H' f so rd
      | error x => exact h1
  generalize ef : lcRunX I g tt de s1.length I.its (wipeD Δ vs) (s1 ++ [.lst []]) = res at h1'
  have fD : Fu K φ1 (φ1 ++ [Dd]) H1 (upd H1 Dd (.lst [])) := fu_newO hD
  have soD : So K (φ1 ++ [Dd]) (upd H1 Dd (.lst [])) (s1 ++ [.lst []]) := Dts.newO so1 hD .nil
  have gD : (φ1 ++ [Dd])[s1.length]? = some Dd := by rw [so1.len, List.getElem?_append_right (Nat.le_refl _)]; simp
  refine ⟨fun i m H' => m = I.its.length - i ∧ i ≤ I.its.length ∧ ∃ ψ s', Fu K φ1 ψ H1 H' ∧ So K ψ H' s' ∧ ψ[s1.length]? = some Dd ∧ lcRunX I g tt de s1.length (I.its.drop i) (wipeD Δ vs) s' = res,
    ⟨_, rfl, Nat.zero_le _, _, _, fD, soD, gD, ef⟩, ?_⟩
  rintro i m H' ⟨rfl, hi, ψ, s', f, so, gd, e⟩
  by_cases hl : i < I.its.length
  · rw [List.drop_eq_getElem_cons hl] at e
    unfold lcRunX at e
    by_cases st : I.still s' = true
    · rw [if_pos st] at e
      obtain ⟨y1, _⟩ := yl ψ H' s' f so (Itd.still_at st) i
      obtain ⟨go, yld⟩ := y1 _ (List.getElem?_eq_getElem hl)
      refine .inr ⟨go, fun H2 => i + 1 ≤ I.its.length ∧ ∃ ψ s', Fu K φ1 ψ H1 H2 ∧ So K ψ H2 s' ∧ ψ[s1.length]? = some Dd ∧ lcRunX I g tt de s1.length (I.its.drop (i + 1)) (wipeD Δ vs) s' = res, fun H2 z => ⟨_, by omega, rfl, z.1, z.2⟩, fun x H2 y => ?_⟩
      obtain ⟨f2, so2, rx⟩ := yld x H2 y
      have ff := f.trans f2
      cases eg : g I.its[i] (wipeD Δ vs) s' with
      | none => rw [eg] at e; subst e; exact h1'.elim
      | some p =>
        obtain ⟨Δ1, s2⟩ := p
        simp only [eg] at e
        refine ng x _ (wipe σ vs) (wipeD Δ vs) ψ H2 s' Δ1 s2 _ rx (wipe_sg (hσ1.fu ff) vs) eg fun es σ2 w2 hσ2 => ⟨w2.trans wipe_wipe, ?_⟩
        subst es
        cases et : tt Δ1 s2 with
        | none => rw [et] at e; subst e; exact h1'.elim
        | some p =>
          obtain ⟨r, s3⟩ := p
          cases r with
          | error _ => simp only [et] at e; subst e; exact h1'.elim
          | ok b =>
            refine ⟨Δ1, ψ, s2, hσ2, so2, ?_⟩
            rw [et]
            intro ψ3 b' H3 f3 so3 eb
            subst eb
            have ff3 := ff.trans f3
            cases b' with
            | false =>
              simp only [et] at e
              exact iteF ⟨hl, ψ3, s3, ff3, so3, f3.get (f2.get gd), e⟩
            | true =>
              simp only [et] at e
              refine iteT ?_
              cases ee : de Δ1 s3 with
              | none => rw [ee] at e; subst e; exact h1'.elim
              | some p =>
                obtain ⟨r, s4⟩ := p
                cases r with
                | error x =>
                  simp only [ee] at e
                  subst e
                  refine ⟨Δ1, ψ3, s3, hσ2.fu f3, so3, ?_⟩
                  rw [ee]
                  exact fun ψ4 H4 cls dd f4 so4 xr => h1' ψ4 H4 cls dd (ff3.trans f4) so4 xr
                | ok yd =>
                  refine ⟨Δ1, ψ3, s3, hσ2.fu f3, so3, ?_⟩
                  rw [ee]
                  intro ψ4 yv H4 f4 so4 ry
                  simp only [ee] at e
                  have gd4 : ψ4[s1.length]? = some Dd := f4.get (f3.get (f2.get gd))
                  split at e
                  · rename_i acc ea
                    split at e
                    · rename_i hz
                      obtain ⟨ws, k, r⟩ := so4.lst (lstAt_eq ea) gd4
                      have fs : Fu K ψ4 ψ4 H4 (upd H4 Dd (.lst (ws ++ [yv]))) := fu_set so4 gd4
                      refine ⟨ws, k, by rw [r.length]; exact hz, hl, ψ4, _, (ff3.trans f4).trans fs, so4.set (o := .lst (acc ++ [yd])) gd4 ⟨_, upd_same, (r.append (.cons ry .nil)).fu fs⟩, gd4, e⟩
                    · subst e; exact h1'.elim
                  · subst e; exact h1'.elim
    · rw [if_neg st] at e
      subst e
      exact h1'.elim
  · have e2 : i = I.its.length := by omega
    subst e2
    rw [List.drop_length] at e
    unfold lcRunX at e
    by_cases st : I.still s' = true
    · rw [if_pos st] at e
      subst e
      obtain ⟨_, y2⟩ := yl ψ H' _ f so (Itd.still_at st) I.its.length
      exact .inl ⟨y2 (Nat.le_refl _), h1' ψ _ H' f so (.obj gd)⟩
    · rw [if_neg st] at e
      subst e
      exact h1'.elim
/-- a call where what flies out of a call is taken (in a comprehension's block) -/
theorem run_fnP {pins : List (Addr × Obj)} {σ : L2.St} {H : Hp} {s : Shared} {Q : VK} {us : List Value} {vs : List V} {k : Nat} {f : Addr} {fd : FuncData} {ps : List Str} {fM : FnD} (F : FnX X k f fd ps fM) (hr : RoomG k X.A) (hb : Binds X.K fd ps []) (pa : ∀ σ, PassesAt (CX X.prog X.w) X σ (WE W σ)) (I : Inv X pins σ H s) (r : Vals vs us) (h : spD X.K ps.length fM (vs ++ []) H Q (WE W σ)) :
    wpAny (model X.prog X.w) X.A (call (.ref f) us) (EP X pins σ Q) X.xe s := by
  rw [List.append_nil] at h
  have hl : us.length = ps.length := r.length.symm.trans h.1
  have bb := hb s us I.kIn (by rw [List.append_nil]; exact hl)
  rw [List.append_nil] at bb
  refine wpAny_call (codeAny_mono (F.run X.A X.stack s H ⟨us, []⟩ us vs Q (WE W σ) hr I.env0 bb r h) fun q s' hq => ?_)
  cases q with
  | error e => exact pa σ pins H s e s' I hq
  | ok fl => cases fl with
    | ret u => exact I.after hq
    | next => exact hq.elim
    | brk => exact hq.elim
    | cont => exact hq.elim
theorem de_callP {n k : Nat} {x : Str} {f : Addr} {fd : FuncData} {ps : List Str} {fM : FnD} {e : Expr} {es : List Expr} {da : DA} {p pos : Pos} (F : FnX X k f fd ps fM) (hr : RoomG k X.A) (hm : X.mg x = some (.ref f)) (hk : PySem.W.keepIn X.K (.ref f) = true) (hb : Binds X.K fd ps []) (pa : ∀ σ, PassesAt (CX X.prog X.w) X σ (WE W σ)) (ha : DAs X W (e :: es) da) (hn : ps.length = n := by rfl) (hg : Gl X x := by rfl)
    (hdb : (x == ("__debug__" : Str)) = false := by decide) (he : starEach (e :: es) X.env = (false, eval e X.env) :: starEach es X.env := by rfl) (hpl : (backTo pos (starEach es X.env)).any (·.1) = false := by rfl) :
    DE X W (.Call (.Name x p) (e :: es) [] pos) (dCl (argN n fM) da) := by
  subst hn
  refine ⟨fun pins s σ H Q I ⟨Δ, φ, st, hσ, hs, h⟩ => wpAny_Call_Name_kw (ld_glob I hg hm ?_ hdb)⟩
  have hA : upA X.K W da σ H fun vs H2 => ∃ φ2 xs s2, So X.K φ2 H2 s2 ∧ Dts X.K φ2 H2 vs xs ∧ Ps X.K (wAt W σ) (Dt X.K) φ2 H2 (fun _ v H' _ _ => Q v H') (argN ps.length fM xs s2) :=
    upA_bind hσ hs h fun φ2 vs H2 xs s2 f2 hσ2 hs2 rs h3 => ⟨φ2, xs, s2, hs2, rs, h3⟩
  refine PySem.W.callWith_K (h₀ := X.base) I.ok.mod.kin hk (thn (ha.run pos pins s σ H _ I hA) fun us t1 ⟨vs, H1, I1, r, φ2, xs, s2, hs2, rs, h3⟩ => ⟨I1.kIn, ?_⟩) he hpl
  obtain ⟨hl, h4⟩ := argN_len h3
  exact run_fnP F hr hb pa I1 r (call_sp F hb (by rw [rs.length]; exact hl) hs2 rs h4)
/-- the comprehension's context, with its way out -/
abbrev BkX (X : Cx) (scope : Scope) (s : Shared) (H : Hp) (C : Addr) (cl : List (Str × Addr)) (fp : List Addr) (xe : Value → Shared → Prop) : Cx := (X.blk s H scope (compEnvC scope cl C X.env) fp).wish xe
theorem de_lcX {elt tg iter : Expr} {ifs : List Expr} {scope : Scope} {own : List (Str × Nat)} {pos : Pos} {di : DI} {t : TG} {g : DGf} {tt : DT} {de : DX} (hc : X.calm = true) (hN : X.N.Nodup) (tk : Takes X W) (stk : X.stack = X.env :: X.outer) (frm : X.env.frame = some X.env.locals) (hi : DIt X W tg iter di) (ok : BlkOk X.N X.env.scope scope own)
    (ng : NgOk X.K (own.map (·.2)) t g) (hg : ∀ s H C cl fp, PG (Bk X scope s H C cl fp) tg t) (ht : ∀ s H C cl fp, DTs (Bk X scope s H C cl fp) W0 ifs tt)
    (he : ∀ s H C cl fp xe (W' : WX), (∀ σ1, PassesAt (CX X.prog X.w) (BkX X scope s H C cl fp xe) σ1 (WE W' σ1)) → DE (BkX X scope s H C cl fp xe) W' elt de)
    (hs : ∀ x, foldedSetIterable iter X.env x = pure x := by intro _; rfl) : DE X W (.ListComp elt [⟨tg, iter, ifs, 0⟩] scope pos) (dLcX (own.map (·.2)) di g tt de) :=
  pe_imp (pe_lcX (tt := upT X.K W0 tt) (te := fun σ => upE X.K (fun c d _ H' => W c d σ H') de) hc hN hi ok tk stk frm hg ht (fun s H C cl fp xe σ pa => he s H C cl fp xe (fun c d _ H' => W c d σ H') pa) hs) fun σ H Q h => lc_readX ng h
end
end DV

namespace DV
open PySem L2 PyProof.Rows
/-! ### // by a divisor above 0, of any length -/
def divWOk (_ j : Int) : Bool := decide (0 < j) && decide (j.natAbs.log2 < 9000)
def fDivW : Op2 := fI divWOk fun i j => .int (i / j)
theorem dop_divW {X : Cx} : DOp X (binaryOp .FloorDiv) fDivW := dop_I op_fdivW (fun i j h => by
  unfold divWOk at h
  simp only [Bool.and_eq_true, decide_eq_true_eq] at h
  exact h) fun _ _ _ _ => .int _
end DV

namespace DV
open PySem L2 PyProof.Rows
/-! ### for x, y in zip(a, b): two lists, or two tuples -/
def iZipB (da : DA) : DI := fun Δ => mbind (da Δ) fun xs s => match xs with
  | [.tup x, .tup y] => some (.ok ⟨zipD x y, none⟩, s)
  | _ => none
theorem zipD_get {xs ys : List D} {i : Nat} {d : D} (h : (zipD xs ys)[i]? = some d) : ∃ x y, xs[i]? = some x ∧ ys[i]? = some y ∧ d = .tup [x, y] := by
  unfold zipD at h
  rw [List.getElem?_map] at h
  cases e : (xs.zip ys)[i]? with
  | none => rw [e] at h; cases h
  | some p =>
    rw [e] at h
    have q := List.getElem?_zip_eq_some.mp e
    exact ⟨p.1, p.2, q.1, q.2, (Option.some.inj h).symm⟩
theorem zipD_len (xs ys : List D) : (zipD xs ys).length = min xs.length ys.length := by
  unfold zipD
  rw [List.length_map, List.length_zip]
theorem yl_zT {K : PySem.W.Frag} {φ : List Addr} {H : Hp} {a b : Addr} {vs us : List V} {xs ys : List D} (h1 : SqT K H a vs) (h2 : SqT K H b us) (r1 : Dts K φ H vs xs) (r2 : Dts K φ H us ys) : Yl K φ H (RZ.ItzT K a b) ⟨zipD xs ys, none⟩ := fun φ' H' s' f so st i => by
  have k1 := f.go _ _ h1
  have k2 := f.go _ _ h2
  refine ⟨fun d e => ?_, fun h => ⟨vs, us, k1, k2, by
    have l1 := r1.length
    have l2 := r2.length
    rw [zipD_len] at h
    rcases Nat.le_total xs.length ys.length with z | z
    · rw [Nat.min_eq_left z] at h
      exact .inl (by rw [l1]; exact h)
    · rw [Nat.min_eq_right z] at h
      exact .inr (by rw [l2]; exact h)⟩⟩
  obtain ⟨x, y, hx, hy, rfl⟩ := zipD_get e
  obtain ⟨v, hv, rv⟩ := r1.get hx
  obtain ⟨u, hu, ru⟩ := r2.get hy
  refine ⟨⟨vs, us, v, u, k1, k2, hv, hu⟩, fun w H'' y => ?_⟩
  obtain ⟨T, z1, z2, rfl, hT, rfl, y1, y2⟩ := y
  have e1 := y1 vs k1
  have e2 := y2 us k2
  rw [hv] at e1
  rw [hu] at e2
  cases e1
  cases e2
  have fT : Fu K φ' φ' H' (upd H' T (.tup [v, u])) := fu_new hT
  exact ⟨fT, so.new hT, .tup (SqT.of upd_same) (.cons ((rv.fu f).fu fT) (.cons ((ru.fu f).fu fT) .nil))⟩
theorem di_zipB {X : Cx} {W : WX} {elts : List Expr} {kk : Nat} {tpos : Pos} {e e2 : Expr} {da : DA} {p pos : Pos} (hg : Gl X "zip") (hm : X.mg "zip" = none) (ha : DAs X W [e, e2] da) (hs : starEach [e, e2] X.env = (false, eval e X.env) :: starEach [e2] X.env := by rfl)
    (hs2 : ((backTo pos (starEach [e2] X.env)).any fun x => x.fst) = false := by rfl) : DIt X W (.Tuple elts kk tpos) (.Call (.Name "zip" p) [e, e2] [] pos) (iZipB da) :=
  pi_imp (RZ.pi_zipA hg hm ha hs hs2) fun σ H R ⟨Δ, φ, s, hσ, hs, h⟩ => upA_bind hσ hs h fun φ1 v H1 x s1 f1 hσ1 hs1 rx h1 => by
    split at h1
    · obtain ⟨u, w, rfl, r, r'⟩ := dts2 rx
      obtain ⟨a, vs, rfl, q1, t1⟩ := r.tupI
      obtain ⟨b, us, rfl, q2, t2⟩ := r'.tupI
      exact ⟨a, b, vs, us, rfl, .inr ⟨q1, q2, h1.ok hs1 (yl_zT q1 q2 t1 t2)⟩⟩
    · exact h1.elim
end DV

set_option maxHeartbeats 2000000
namespace DV
open PySem L2 PyProof.Rows
/-! ### zip of two things, each a list or a tuple -/
def ItK (k : Bool) (h : Heap) (it a : Addr) (i : Nat) : Prop := if k = true then h.IsTupleIter it a i else h.IsListIter it a i
def SqK (k : Bool) (K : PySem.W.Frag) (H : Hp) (a : Addr) (xs : List V) : Prop := if k = true then SqT K H a xs else SqL K H a xs
def SK (k : Bool) (h : Heap) (a : Addr) (its : Array Value) : Prop := if k = true then h.IsTuple a its else h.IsList a its
section
variable {prog : Program} {w : World} {A : Around}
theorem ItK.at {k : Bool} {h h' : Heap} {it a : Addr} {i : Nat} (s : ItK k h it a i) (q : ∀ o, h.get? it = some o → h'.get? it = some o) : ItK k h' it a i := by
  cases k with
  | true =>
    obtain ⟨o, h1, h2⟩ : h.IsTupleIter it a i := s
    exact ⟨o, q o h1, h2⟩
  | false =>
    obtain ⟨o, h1, h2⟩ : h.IsListIter it a i := s
    exact ⟨o, q o h1, h2⟩
theorem SK.at {k : Bool} {h h' : Heap} {a : Addr} {its : Array Value} (s : SK k h a its) (q : ∀ o, h.get? a = some o → h'.get? a = some o) : SK k h' a its := by
  cases k with
  | true =>
    obtain ⟨o, h1, h2⟩ : h.IsTuple a its := s
    exact ⟨o, q o h1, h2⟩
  | false =>
    obtain ⟨o, h1, h2⟩ : h.IsList a its := s
    exact ⟨o, q o h1, h2⟩
theorem drawsK (hh : A.handled = none) (k : Bool) (it a : Addr) (ne : a ≠ it) (its : Array Value) : Draws prog w A it [it, a] its.size (fun i v => its[i]? = some v) (fun i h => ItK k h it a i ∧ SK k h a its) := by
  cases k with
  | true => exact Draws.tuple hh it a ne its
  | false => exact Draws.list hh it a ne its
/-- behind the last one, at whatever place -/
theorem drawsEnd (hh : A.handled = none) (k : Bool) (it a : Addr) (ne : a ≠ it) (its : Array Value) (n : Nat) (hn : its.size ≤ n) : Draws prog w A it [it, a] n (fun i v => its[i]? = some v) (fun i h => i = n ∧ ItK k h it a i ∧ SK k h a its) := by
  refine ⟨fun i h s => ?_, fun i h h' s q => ⟨s.1, s.2.1.at (q it (by simp)), s.2.2.at (q a (by simp))⟩, fun i s Q E hi st hQ => ?_, fun s Q E st hE => ?_⟩
  · obtain ⟨_, s, _⟩ := s
    cases k with
    | true =>
      obtain ⟨o, h1, _⟩ : h.IsTupleIter it a i := s
      exact ⟨o, h1⟩
    | false =>
      obtain ⟨o, h1, _⟩ : h.IsListIter it a i := s
      exact ⟨o, h1⟩
  · have := st.1
    omega
  · obtain ⟨_, s1, s2⟩ := st
    have e : its[n]? = none := Array.getElem?_eq_none hn
    cases k with
    | true => exact RZ.nextOf_tuple_end hh s1 s2 e hE
    | false => exact PySem.wpAny_nextOf_list_end hh s1 s2 e hE
theorem beginsK (k : Bool) (a : Addr) (its : Array Value) : ∃ o, Begins (.ref a) o (fun h => SK k h a its) ∧ ∀ (h : Heap) it, h.get? it = some o → ItK k h it a 0 := by
  cases k with
  | true => exact ⟨_, begins_tuple a its, fun h it e => ⟨_, e, rfl, rfl⟩⟩
  | false => exact ⟨_, begins_list a its, fun h it e => ⟨_, e, rfl, rfl⟩⟩
end
theorem inv_sq {X : Cx} {k : Bool} {pins : List (Addr × Obj)} {σ : L2.St} {H : Hp} {s : Shared} {a : Addr} {xs : List V} (I : Inv X pins σ H s) (h : SqK k X.K H a xs) : ∃ its, Vals xs its ∧ SK k s.heap a its.toArray ∧ xs.length ≤ sizeLine := by
  cases k with
  | true =>
    obtain ⟨its, h1, h2, h3⟩ := I.tuple (a := a) (xs := xs) h
    exact ⟨its, h1, h2, h3⟩
  | false =>
    obtain ⟨its, h1, h2, h3⟩ := I.list (a := a) (xs := xs) h
    exact ⟨its, h1, h2.isList, h3⟩
def Itm (K : PySem.W.Frag) (k1 k2 : Bool) (a b : Addr) : It :=
  { go := fun i H => ∃ xs ys x y, SqK k1 K H a xs ∧ SqK k2 K H b ys ∧ xs[i]? = some x ∧ ys[i]? = some y,
    yld := fun i H v H' => ∃ T x y, v = V.ref T ∧ H T = none ∧ H' = upd H T (.tup [x, y]) ∧ (∀ xs, SqK k1 K H a xs → xs[i]? = some x) ∧ ∀ ys, SqK k2 K H b ys → ys[i]? = some y,
    stop := fun i H => ∃ xs ys, SqK k1 K H a xs ∧ SqK k2 K H b ys ∧ (xs.length ≤ i ∨ ys.length ≤ i) }
/-- apart from each other -/
structure Apt (z TI TO i1 i2 a b : Addr) : Prop where
  s : ZipSep2 z TI TO i1 i2 [i1, a] [i2, b]
  a1 : a ≠ i1
  b2 : b ≠ i2
def tnM (k1 k2 : Bool) (z TI TO i1 i2 a b : Addr) (i : Nat) (h : Heap) : Prop := IsZip h z TI TO Value.none ∧ IsPair h TI (Value.ref i1) (Value.ref i2) ∧ (∃ x y, IsPair h TO x y) ∧ ItK k1 h i1 a i ∧ ItK k2 h i2 b i
theorem sq_inj {X : Cx} {k : Bool} {pins : List (Addr × Obj)} {σ : L2.St} {H : Hp} {s : Shared} {a : Addr} {xs ys : List V} (I : Inv X pins σ H s) (h1 : SqK k X.K H a xs) (h2 : SqK k X.K H a ys) : xs = ys := by
  cases k with
  | true => exact I.tuple_inj (a := a) h1 h2
  | false => exact I.list_inj (a := a) h1 h2
theorem turn_zipM {P : Program} {w : World} {K : PySem.W.Frag} {elts : List Expr} {kk : Nat} {tpos : Pos} {k1 k2 : Bool} {z TI TO i1 i2 a b : Addr} (ap : Apt z TI TO i1 i2 a b) : Turn P w K (.Tuple elts kk tpos) (Itm K k1 k2 a b) [z, TI, TO, i1, i2] z (tnM k1 k2 z TI TO i1 i2 a b) where
  mem := by simp
  obj := by
    intro i h st c hc
    obtain ⟨h1, h2, ⟨x, y, h3⟩, h4, h5⟩ := st
    have itk : ∀ (k : Bool) it a, ItK k h it a i → ∃ o, h.get? it = some o ∧ ∀ v : Option Value, o.data ≠ Data.cell v := fun k it a s => by
      cases k with
      | true =>
        obtain ⟨o, q1, _, q2⟩ : h.IsTupleIter it a i := s
        exact ⟨o, q1, fun v e => by rw [q2] at e; cases e⟩
      | false =>
        obtain ⟨o, q1, _, q2⟩ : h.IsListIter it a i := s
        exact ⟨o, q1, fun v e => by rw [q2] at e; cases e⟩
    simp only [List.mem_cons, List.not_mem_nil, or_false] at hc
    rcases hc with rfl | rfl | rfl | rfl | rfl
    · exact ⟨_, h1, fun v e => by cases e⟩
    · exact ⟨_, h2, fun v e => by cases e⟩
    · exact ⟨_, h3, fun v e => by cases e⟩
    · exact itk _ _ _ h4
    · exact itk _ _ _ h5
  keep := by
    intro i h h' st q
    obtain ⟨h1, h2, ⟨x, y, h3⟩, h4, h5⟩ := st
    exact ⟨q z (by simp) _ h1, q TI (by simp) _ h2, ⟨x, y, q TO (by simp) _ h3⟩, h4.at (q i1 (by simp)), h5.at (q i2 (by simp))⟩
  item := by
    intro X hP hw hK hc i pins s σ H E I hf st go
    subst hP hw hK
    obtain ⟨xs, ys, x, y, q1, q2, hx, hy⟩ := go
    obtain ⟨its1, r1, p1, z1⟩ := inv_sq I q1
    obtain ⟨its2, r2, p2, z2⟩ := inv_sq I q2
    have hh := I.ok.hd hc
    have Wk := WalksT.zipD2 (A := X.A) ap.s (drawsK (prog := X.prog) (w := X.w) (A := X.A.in1) hh k1 i1 a ap.a1 its1.toArray) (drawsK (prog := X.prog) (w := X.w) (A := X.A.in1) hh k2 i2 b ap.b2 its2.toArray)
    obtain ⟨u1, hu1, ru1⟩ := r1.get hx
    obtain ⟨u2, hu2, ru2⟩ := r2.get hy
    have l1 : i < its1.length := (List.getElem?_eq_some_iff.mp hu1).1
    have l2 : i < its2.length := (List.getElem?_eq_some_iff.mp hu2).1
    refine Wk.item i s _ E (by simp; omega) ⟨st.1, st.2.1, st.2.2.1, ⟨st.2.2.2.1, p1⟩, ⟨st.2.2.2.2, p2⟩⟩ fun T vals h' tk pt le ht mid keep => ?_
    obtain ⟨v1, v2, e1, e2, rfl⟩ := pt
    have w1 : v1 = u1 := by
      have : its1.toArray[i]? = its1[i]? := by simp
      rw [this, hu1] at e1
      exact (Option.some.inj e1).symm
    have w2 : v2 = u2 := by
      have : its2.toArray[i]? = its2[i]? := by simp
      rw [this, hu2] at e2
      exact (Option.some.inj e2).symm
    subst w1 w2
    refine ⟨_, rfl, Wk.go elts kk tpos i T _ _ E mid fun h'' st'' keep2 => ?_⟩
    obtain ⟨oT, gT, cT, n, dT⟩ := ht
    have gT2 := keep2 T oT (Wk.apart _ _ _ mid) gT
    have new : ObjOk X.prog X.w (upd H T (.tup [x, y])) h'' T (.tup [x, y]) := ⟨by show 2 ≤ sizeLine; decide, [v1, v2], .cons ru1 (.cons ru2 .nil), ⟨oT, gT2, cT, n, dT⟩⟩
    have I1 : Inv X pins σ (upd H T (.tup [x, y])) { s with heap := h'', toks := tk } :=
      I.turnedNew (ch := [z, TO, i1, i2]) (fun c o hc q => keep2 c o hc (keep c o hc q)) (fun c hc => hf c (by
        simp only [List.mem_cons, List.not_mem_nil, or_false] at hc ⊢
        rcases hc with h | h | h | h
        · exact .inl h
        · exact .inr (.inr (.inl h))
        · exact .inr (.inr (.inr (.inl h)))
        · exact .inr (.inr (.inr (.inr h))))) le new
    refine ⟨.ref T, _, I1, rfl, ⟨T, x, y, rfl, I.hok.fresh le, rfl, fun zs hz => by rw [sq_inj I hz q1]; exact hx, fun zs hz => by rw [sq_inj I hz q2]; exact hy⟩, ⟨st''.1, st''.2.1, st''.2.2.1, st''.2.2.2.1.1, st''.2.2.2.2.1⟩, fun c hc => ?_⟩
    have lt : c < s.heap.objs.size := by
      have itk : ∀ (k : Bool) it a, ItK k s.heap it a i → it < s.heap.objs.size := fun k it a s' => by
        cases k with
        | true =>
          obtain ⟨o, q1, _⟩ : s.heap.IsTupleIter it a i := s'
          exact get_lt q1
        | false =>
          obtain ⟨o, q1, _⟩ : s.heap.IsListIter it a i := s'
          exact get_lt q1
      obtain ⟨h1, h2, ⟨_, _, h3⟩, h4, h5⟩ := st
      simp only [List.mem_cons, List.not_mem_nil, or_false] at hc
      rcases hc with rfl | rfl | rfl | rfl | rfl
      · exact get_lt h1
      · exact get_lt h2
      · exact get_lt h3
      · exact itk _ _ _ h4
      · exact itk _ _ _ h5
    rw [upd_ne (Nat.ne_of_lt (Nat.lt_of_lt_of_le lt le))]
    exact (hf c hc).1
  done := by
    intro X hP hw hK hc i pins s σ H E I hf st hg
    subst hP hw hK
    obtain ⟨xs, ys, q1, q2, hle⟩ := hg
    obtain ⟨its1, r1, p1, z1⟩ := inv_sq I q1
    obtain ⟨its2, r2, p2, z2⟩ := inv_sq I q2
    have hh := I.ok.hd hc
    have n1 := r1.length
    have n2 := r2.length
    have fin : ∀ (h' : Heap) (tk : Nat), (∀ (c : Addr) (o : Obj), c ≠ z → c ≠ TO → c ≠ i1 → c ≠ i2 → s.heap.get? c = some o → h'.get? c = some o) → (none : Option Value) = none ∧ Inv X pins σ H { s with heap := h', toks := tk } := fun h' tk q => ⟨rfl, I.turnedL (ch := [z, TO, i1, i2]) (fun c o hc e => by
        simp only [List.mem_cons, List.not_mem_nil, or_false, not_or] at hc
        exact q c o hc.1 hc.2.1 hc.2.2.1 hc.2.2.2 e) (fun c hc => hf c (by
        simp only [List.mem_cons, List.not_mem_nil, or_false] at hc ⊢
        rcases hc with h | h | h | h
        · exact .inl h
        · exact .inr (.inr (.inl h))
        · exact .inr (.inr (.inr (.inl h)))
        · exact .inr (.inr (.inr (.inr h)))))⟩
    obtain ⟨x0, y0, h3⟩ := st.2.2.1
    have de1 := fun h => drawsEnd (prog := X.prog) (w := X.w) (A := X.A.in1) hh k1 i1 a ap.a1 its1.toArray i h
    have de2 := fun h => drawsEnd (prog := X.prog) (w := X.w) (A := X.A.in1) hh k2 i2 b ap.b2 its2.toArray i h
    have dk1 := drawsK (prog := X.prog) (w := X.w) (A := X.A.in1) hh k1 i1 a ap.a1 its1.toArray
    have dk2 := drawsK (prog := X.prog) (w := X.w) (A := X.A.in1) hh k2 i2 b ap.b2 its2.toArray
    have s1 : its1.toArray.size = its1.length := by simp
    have s2 : its2.toArray.size = its2.length := by simp
    by_cases c1 : its1.length ≤ i
    · by_cases c2 : its2.length ≤ i
      · exact wpAny_pyNext_zipD2_end (A := X.A) ap.s (de1 (by omega)) (de2 (by omega)) st.1 st.2.1 h3 ⟨rfl, st.2.2.2.1, p1⟩ ⟨rfl, st.2.2.2.2, p2⟩ (Nat.le_refl _) (Nat.le_refl _) (.inl rfl) fin
      · exact wpAny_pyNext_zipD2_end (A := X.A) ap.s (de1 (by omega)) dk2 st.1 st.2.1 h3 ⟨rfl, st.2.2.2.1, p1⟩ ⟨st.2.2.2.2, p2⟩ (Nat.le_refl _) (by omega) (.inl rfl) fin
    · have c2 : its2.length ≤ i := by omega
      exact wpAny_pyNext_zipD2_end (A := X.A) ap.s dk1 (de2 (by omega)) st.1 st.2.1 h3 ⟨st.2.2.2.1, p1⟩ ⟨rfl, st.2.2.2.2, p2⟩ (by omega) (Nat.le_refl _) (.inr rfl) fin
  self := fun A i s Q E st h => wpAny_pyIter_zip st.1 h
def iZipK (K : PySem.W.Frag) (ta : TA) : TI := fun σ H R => ta σ H fun vs H1 => ∃ a b xs ys k1 k2, vs = [V.ref a, V.ref b] ∧ SqK k1 K H1 a xs ∧ SqK k2 K H1 b ys ∧ R (Itm K k1 k2 a b) H1
theorem sk_lt {k : Bool} {h : Heap} {a : Addr} {its : Array Value} (s : SK k h a its) : a < h.objs.size := by
  cases k with
  | true =>
    obtain ⟨o, q, _⟩ : h.IsTuple a its := s
    exact get_lt q
  | false =>
    obtain ⟨o, q, _⟩ : h.IsList a its := s
    exact get_lt q
theorem off2 {x y z : Nat} (h1 : x ≠ y) (h2 : x ≠ z) : ¬ x ∈ [y, z] := fun h => by
  rcases List.mem_cons.mp h with h | h
  · exact h1 h
  · exact h2 (List.mem_singleton.mp h)
theorem apt_nat {n a b : Nat} (ha : a < n) (hb : b < n) : (n + 2 ≠ n + 4 ∧ n + 3 ≠ n + 4 ∧ n + 2 ≠ n + 3 ∧ n + 2 ≠ n ∧ n + 2 ≠ n + 1) ∧ (n + 4 ≠ n ∧ n + 4 ≠ a ∧ n + 3 ≠ n ∧ n + 3 ≠ a) ∧ (n + 4 ≠ n + 1 ∧ n + 4 ≠ b ∧ n + 3 ≠ n + 1 ∧ n + 3 ≠ b) ∧ n ≠ n + 1 ∧ n ≠ b ∧ n + 1 ≠ n ∧ n + 1 ≠ a ∧ a ≠ n ∧ b ≠ n + 1 := by omega
theorem apt_of {n a b : Nat} (ha : a < n) (hb : b < n) : Apt (n + 4) (n + 2) (n + 3) n (n + 1) a b := by
  obtain ⟨⟨c1, c2, c3, c4, c5⟩, ⟨d1, d2, d3, d4⟩, ⟨e1, e2, e3, e4⟩, f1, f2, f3, f4, f5, f6⟩ := apt_nat ha hb
  exact ⟨⟨c1, c2, c3, c4, by simp, off2 d1 d2, off2 d3 d4, c5, by simp, off2 e1 e2, off2 e3 e4, off2 f1 f2, off2 f3 f4⟩, f5, f6⟩
theorem pi_zipM {X : Cx} {e e2 : Expr} {ta : TA} {p pos tpos : Pos} {elts : List Expr} {kk : Nat} (hg : Gl X "zip") (hm : X.mg "zip" = none) (ha : PA X [e, e2] ta) (hs : starEach [e, e2] X.env = (false, eval e X.env) :: starEach [e2] X.env := by rfl)
    (hpl : (backTo pos (starEach [e2] X.env)).any (·.1) = false := by rfl) : PI X (.Tuple elts kk tpos) (.Call (.Name "zip" p) [e, e2] [] pos) (iZipK X.K ta) := by
  refine ⟨fun pins s σ H R I h => Call_ (ld_blt I hg hm PyProof.Rows.boot_zip (PyProof.Rows.callWith_type1 (thn (ha.run pos pins s σ H _ I h) fun us s1 ⟨vs, H1, I1, r1, a, b, xs, ys, k1, k2, ex, q1, q2, q⟩ => ?_) hs hpl))⟩
  subst ex
  cases r1 with
  | cons r rr =>
    cases rr with
    | cons r' rr =>
      cases rr
      cases r
      cases r'
      obtain ⟨its1, v1, p1, z1⟩ := inv_sq I1 q1
      obtain ⟨its2, v2, p2, z2⟩ := inv_sq I1 q2
      obtain ⟨o1, b1, i1⟩ := beginsK k1 a its1.toArray
      obtain ⟨o2, b2, i2⟩ := beginsK k2 b its2.toArray
      refine zip_begins2 b1 b2 p1 p2 fun h' hz hTI hTO g1 g2 hsz hk => ?_
      have I2 : Inv X pins σ H1 { s1 with heap := h' } := I1.kept (t' := s1.toks) hk
      refine wpAny_pyIter_zip hz ⟨_, _, _, _, H1, rfl, I2, turn_zipM (k1 := k1) (k2 := k2) (apt_of (sk_lt p1) (sk_lt p2)), ⟨hz, hTI, ⟨_, _, hTO⟩, i1 h' _ g1, i2 h' _ g2⟩, fun c hc => ?_, q⟩
      have le : s1.heap.objs.size ≤ c := by
        simp only [List.mem_cons, List.not_mem_nil, or_false] at hc
        rcases hc with h | h | h | h | h <;> rw [h]
        · exact Nat.le_add_right _ _
        · exact Nat.le_add_right _ _
        · exact Nat.le_add_right _ _
        · exact Nat.le_refl _
        · exact Nat.le_add_right _ _
      exact I1.fpOk le (I1.hok.fresh le)
theorem yl_zM {K : PySem.W.Frag} {φ : List Addr} {H : Hp} {a b : Addr} {k1 k2 : Bool} {xs ys : List D} {src : Option (Nat × List D)}
    (g : ∀ φ' H' s', Fu K φ φ' H H' → So K φ' H' s' → (∀ n zs, src = some (n, zs) → lstAt s' n = some zs) → ∃ vs us, SqK k1 K H' a vs ∧ SqK k2 K H' b us ∧ Dts K φ' H' vs xs ∧ Dts K φ' H' us ys) : Yl K φ H (Itm K k1 k2 a b) ⟨zipD xs ys, src⟩ := fun φ' H' s' f so st i => by
  obtain ⟨vs, us, q1, q2, r1, r2⟩ := g φ' H' s' f so st
  refine ⟨fun d e => ?_, fun h => ⟨vs, us, q1, q2, by
    have l1 := r1.length
    have l2 := r2.length
    rw [zipD_len] at h
    rcases Nat.le_total xs.length ys.length with z | z
    · rw [Nat.min_eq_left z] at h
      exact .inl (by rw [l1]; exact h)
    · rw [Nat.min_eq_right z] at h
      exact .inr (by rw [l2]; exact h)⟩⟩
  obtain ⟨x, y, hx, hy, rfl⟩ := zipD_get e
  obtain ⟨v, hv, rv⟩ := r1.get hx
  obtain ⟨u, hu, ru⟩ := r2.get hy
  refine ⟨⟨vs, us, v, u, q1, q2, hv, hu⟩, fun w H'' y => ?_⟩
  obtain ⟨T, z1, z2, rfl, hT, rfl, y1, y2⟩ := y
  have e1 := y1 vs q1
  have e2 := y2 us q2
  rw [hv] at e1
  rw [hu] at e2
  cases e1
  cases e2
  have fT : Fu K φ' φ' H' (upd H' T (.tup [v, u])) := fu_new hT
  exact ⟨fT, so.new hT, .tup (SqT.of upd_same) (.cons (rv.fu fT) (.cons (ru.fu fT) .nil))⟩
/-- zip(a, b): two tuples, or a tuple and a list -/
def iZipM (da : DA) : DI := fun Δ => mbind (da Δ) fun xs s => match xs with
  | [.tup x, .tup y] => some (.ok ⟨zipD x y, none⟩, s)
  | [.obj m, .tup y] => match lstAt s m with
    | some x => some (.ok ⟨zipD x y, some (m, x)⟩, s)
    | none => none
  | [.tup x, .obj m] => match lstAt s m with
    | some y => some (.ok ⟨zipD x y, some (m, y)⟩, s)
    | none => none
  | _ => none
theorem di_zipM {X : Cx} {W : WX} {elts : List Expr} {kk : Nat} {tpos : Pos} {e e2 : Expr} {da : DA} {p pos : Pos} (hg : Gl X "zip") (hm : X.mg "zip" = none) (ha : DAs X W [e, e2] da) (hs : starEach [e, e2] X.env = (false, eval e X.env) :: starEach [e2] X.env := by rfl)
    (hs2 : ((backTo pos (starEach [e2] X.env)).any fun x => x.fst) = false := by rfl) : DIt X W (.Tuple elts kk tpos) (.Call (.Name "zip" p) [e, e2] [] pos) (iZipM da) :=
  pi_imp (pi_zipM hg hm ha hs hs2) fun σ H R ⟨Δ, φ, s, hσ, hs, h⟩ => upA_bind hσ hs h fun φ1 v H1 x s1 f1 hσ1 hs1 rx h1 => by
    split at h1
    · obtain ⟨u, w, rfl, r, r'⟩ := dts2 rx
      obtain ⟨a, vs, rfl, q1, t1⟩ := r.tupI
      obtain ⟨b, us, rfl, q2, t2⟩ := r'.tupI
      exact ⟨a, b, vs, us, true, true, rfl, q1, q2, h1.ok hs1 (yl_zM (k1 := true) (k2 := true) fun φ' H' s' f so st => ⟨vs, us, f.go _ _ q1, f.go _ _ q2, t1.fu f, t2.fu f⟩)⟩
    · obtain ⟨u, w, rfl, r, r'⟩ := dts2 rx
      cases r
      rename_i a hga
      obtain ⟨b, us, rfl, q2, t2⟩ := r'.tupI
      split at h1
      · rename_i xs e
        obtain ⟨vs, k, r⟩ := hs1.lst (lstAt_eq e) hga
        exact ⟨a, b, vs, us, false, true, rfl, SqL.of k, q2, h1.ok hs1 (yl_zM (k1 := false) (k2 := true) fun φ' H' s' f so st => by
          obtain ⟨vs', k', r'⟩ := so.lst (lstAt_eq (st _ _ rfl)) (f.get hga)
          exact ⟨vs', us, SqL.of k', f.go _ _ q2, r', t2.fu f⟩)⟩
      · exact h1.elim
    · obtain ⟨u, w, rfl, r, r'⟩ := dts2 rx
      obtain ⟨a, vs, rfl, q1, t1⟩ := r.tupI
      cases r'
      rename_i b hgb
      split at h1
      · rename_i ys e
        obtain ⟨us, k, r⟩ := hs1.lst (lstAt_eq e) hgb
        exact ⟨a, b, vs, us, true, false, rfl, q1, SqL.of k, h1.ok hs1 (yl_zM (k1 := true) (k2 := false) fun φ' H' s' f so st => by
          obtain ⟨us', k', r'⟩ := so.lst (lstAt_eq (st _ _ rfl)) (f.get hgb)
          exact ⟨vs, us', f.go _ _ q1, SqL.of k', t1.fu f, r'⟩)⟩
      · exact h1.elim
    · exact h1.elim
end DV

set_option maxHeartbeats 2000000
namespace DV
open PySem L2 PyProof.Rows
/-! ### sorted(d), a dict whose keys are ints, fewer than 64 -/
def sortI (l : List Int) : List Int := l.mergeSort fun a b => decide (a ≤ b)
theorem sortI_perm (l : List Int) : (sortI l).Perm l := List.mergeSort_perm _ _
theorem sortI_le (l : List Int) : (sortI l).Pairwise (· ≤ ·) := by
  have h := List.pairwise_mergeSort (le := fun a b : Int => decide (a ≤ b)) (fun a b c h1 h2 => by simp at h1 h2 ⊢; omega) (fun a b => by simp; omega) l
  exact h.imp fun z => of_decide_eq_true z
theorem sorted_one {l r : List Int} (hp : l.Perm r) (h1 : l.Pairwise (· ≤ ·)) (h2 : r.Pairwise (· ≤ ·)) : l = r :=
  hp.eq_of_pairwise (le := (· ≤ ·)) (fun a b _ _ u v => by omega) h1 h2
def keyI : Key × D → Option Int
  | (.inl i, _) => some i
  | _ => none
theorem keysI : ∀ {kvs : List (Key × D)} {ks : List Int}, omap keyI kvs = some ks → kvs.map (·.1) = ks.map Sum.inl
  | [], _, e => by cases e; rfl
  | kv :: r, _, e => by
    simp only [omap] at e
    split at e
    · rename_i k kr e1 e2
      cases e
      obtain ⟨k1, d⟩ := kv
      cases k1 with
      | inl i =>
        cases e1
        simp [keysI e2]
      | inr x => cases e1
    · cases e
def fSortedK : OpN := fun xs s => match xs with
  | [.obj n] => match dctAt s n with
    | some kvs => match omap keyI kvs with
      | some ks => if ks.length < 64 then some (.obj s.length, s ++ [.lst ((sortI ks).map D.int)]) else none
      | none => none
    | none => none
  | _ => none
theorem ints_dts {K : PySem.W.Frag} {φ : List Addr} {H : Hp} : ∀ l : List Int, Dts K φ H (l.map V.int) (l.map D.int)
  | [] => .nil
  | i :: r => .cons (.int i) (ints_dts r)
theorem dc_sortK {X : Cx} (hc : X.calm = true) : DCall X (.builtin "sorted") fSortedK := ⟨_, call_sortedDI hc, fun φ H s vs ds Q so rx p => by
  unfold fSortedK at p
  split at p
  · obtain ⟨u, rfl, r⟩ := dts1 rx
    cases r
    rename_i n a ha
    split at p
    · rename_i kvs e
      split at p
      · rename_i ks ek
        split at p
        · rename_i z
          obtain ⟨kv, k1, r0⟩ := so.dct e ha
          refine ⟨a, kv, ks, rfl, .inl k1, r0.keys.trans (keysI ek), z, fun ys q hp hs hq => ?_⟩
          have e2 : ys = sortI ks := sorted_one (hp.trans (sortI_perm ks).symm) hs (sortI_le ks)
          subst e2
          exact p.newL so hq (ints_dts _)
        · exact p.elim
      · exact p.elim
    · exact p.elim
  · exact p.elim⟩
end DV

namespace My
open PySem L2 PyProof.Rows DV
abbrev topS (i : Nat) : Stmt := PySem.Challenge.pw_barscribe_k51_hearings_judged.main.body.getD i (.Pass ⟨0, 0, 0, 0⟩)
structure Ax where
  (fx_TooMany : Addr) (dx_TooMany : FuncData)
  (f_is_number f_dots_of f_u_pulses f_is_tree f_u_nodes f_u_borders f_Metre_uu_init_ f_is_bits f_Metre_is_point f_Metre_level f_point_of f_u_is_fraction f_u_near f_u_allowed_rows f_is_hearing f_u_law_begin f_u_law_draw f_u_law_pick f_u_law_tree f_u_law_size f_u_law_point f_u_law_near f_u_law_onsets f_u_law_row f_u_law_right f_u_law_told f_law c_Metre c_TooMany c_RhythmError o_DOTS : Addr)
  (d_is_number d_dots_of d_u_pulses d_is_tree d_u_nodes d_u_borders d_Metre_uu_init_ d_is_bits d_Metre_is_point d_Metre_level d_point_of d_u_is_fraction d_u_near d_u_allowed_rows d_is_hearing d_u_law_begin d_u_law_draw d_u_law_pick d_u_law_tree d_u_law_size d_u_law_point d_u_law_near d_u_law_onsets d_u_law_row d_u_law_right d_u_law_told d_law : FuncData)
def lmsA (A : Ax) : List Lm := []
def kv_DOTS : List (Int × Int) := [(1, 0), (3, 1), (7, 2)]
abbrev s_is_number : Stmt := topS 12
theorem sc_is_number : FnScope ["thing"] ["thing"] (defScope s_is_number) := ⟨rfl, rfl, rfl, by decide +kernel, rfl, by decide +kernel, by decide +kernel⟩
abbrev s_dots_of : Stmt := topS 13
theorem sc_dots_of : FnScope ["length", "odd"] ["length"] (defScope s_dots_of) := ⟨rfl, rfl, rfl, by decide +kernel, rfl, by decide +kernel, by decide +kernel⟩
abbrev s_u_pulses : Stmt := topS 15
theorem sc_u_pulses : FnScope ["thing", "depth", "parts", "total", "child"] ["thing", "depth"] (defScope s_u_pulses) := ⟨rfl, rfl, rfl, by decide +kernel, rfl, by decide +kernel, by decide +kernel⟩
abbrev s_is_tree : Stmt := topS 14
theorem sc_is_tree : FnScope ["thing"] ["thing"] (defScope s_is_tree) := ⟨rfl, rfl, rfl, by decide +kernel, rfl, by decide +kernel, by decide +kernel⟩
abbrev s_u_nodes : Stmt := topS 16
theorem sc_u_nodes : FnScope ["tree", "begin", "depth", "inner", "end", "child", "below"] ["tree", "begin", "depth"] (defScope s_u_nodes) := ⟨rfl, rfl, rfl, by decide +kernel, rfl, by decide +kernel, by decide +kernel⟩
abbrev s_u_borders : Stmt := topS 17
theorem sc_u_borders : FnScope ["tree", "nodes", "levels", "begin", "_", "depth", "pulse"] ["tree"] (defScope s_u_borders) := ⟨rfl, rfl, rfl, by decide +kernel, rfl, by decide +kernel, by decide +kernel⟩
abbrev s_Metre_uu_init_ : Stmt := inClass (topS 18) 0
theorem sc_Metre_uu_init_ : FnScope ["self", "tree"] ["self", "tree"] (defScope s_Metre_uu_init_) := ⟨rfl, rfl, rfl, by decide +kernel, rfl, by decide +kernel, by decide +kernel⟩
abbrev s_is_bits : Stmt := topS 19
theorem sc_is_bits : FnScope ["thing"] ["thing"] (defScope s_is_bits) := ⟨rfl, rfl, rfl, by decide +kernel, rfl, by decide +kernel, by decide +kernel⟩
abbrev s_Metre_is_point : Stmt := inClass (topS 18) 2
theorem sc_Metre_is_point : FnScope ["self", "thing", "pulse", "bits"] ["self", "thing"] (defScope s_Metre_is_point) := ⟨rfl, rfl, rfl, by decide +kernel, rfl, by decide +kernel, by decide +kernel⟩
abbrev s_Metre_level : Stmt := inClass (topS 18) 3
theorem sc_Metre_level : FnScope ["self", "point", "pulse", "bits"] ["self", "point"] (defScope s_Metre_level) := ⟨rfl, rfl, rfl, by decide +kernel, rfl, by decide +kernel, by decide +kernel⟩
abbrev s_point_of : Stmt := topS 20
theorem sc_point_of : FnScope ["place", "depth", "pulse", "rest", "digits"] ["place", "depth"] (defScope s_point_of) := ⟨rfl, rfl, rfl, by decide +kernel, rfl, by decide +kernel, by decide +kernel⟩
abbrev s_u_is_fraction : Stmt := topS 25
theorem sc_u_is_fraction : FnScope ["thing"] ["thing"] (defScope s_u_is_fraction) := ⟨rfl, rfl, rfl, by decide +kernel, rfl, by decide +kernel, by decide +kernel⟩
abbrev s_u_near : Stmt := topS 27
theorem sc_u_near : FnScope ["metre", "onset", "slip", "depth", "middle", "away", "whole", "first", "last", "place"] ["metre", "onset", "slip", "depth"] (defScope s_u_near) := ⟨rfl, rfl, rfl, by decide +kernel, rfl, by decide +kernel, by decide +kernel⟩
abbrev s_u_allowed_rows : Stmt := topS 26
theorem sc_u_allowed_rows : FnScope ["metre", "onsets", "slip", "depth", "index", "onset"] ["metre", "onsets", "slip", "depth"] (defScope s_u_allowed_rows) := ⟨rfl, rfl, rfl, by decide +kernel, rfl, by decide +kernel, by decide +kernel⟩
abbrev s_is_hearing : Stmt := topS 28
theorem sc_is_hearing : FnScope ["metre", "onsets", "slip", "depth", "thing", "rows", "point", "later", "row"] ["metre", "onsets", "slip", "depth", "thing"] (defScope s_is_hearing) := ⟨rfl, rfl, rfl, by decide +kernel, rfl, by decide +kernel, by decide +kernel⟩
abbrev s_u_law_begin : Stmt := topS 30
theorem sc_u_law_begin : FnScope ["_law_cell", "_law_turn"] ["_law_cell", "_law_turn"] (defScope s_u_law_begin) := ⟨rfl, rfl, rfl, by decide +kernel, rfl, by decide +kernel, by decide +kernel⟩
abbrev s_u_law_draw : Stmt := topS 31
theorem sc_u_law_draw : FnScope ["_law_state", "_law_size_here", "_law_found"] ["_law_state", "_law_size_here"] (defScope s_u_law_draw) := ⟨rfl, rfl, rfl, by decide +kernel, rfl, by decide +kernel, by decide +kernel⟩
abbrev s_u_law_pick : Stmt := topS 32
theorem sc_u_law_pick : FnScope ["_law_state", "_law_items"] ["_law_state", "_law_items"] (defScope s_u_law_pick) := ⟨rfl, rfl, rfl, by decide +kernel, rfl, by decide +kernel, by decide +kernel⟩
abbrev s_u_law_tree : Stmt := topS 33
theorem sc_u_law_tree : FnScope ["_law_state", "_law_some", "_law_pair", "_law_three"] ["_law_state"] (defScope s_u_law_tree) := ⟨rfl, rfl, rfl, by decide +kernel, rfl, by decide +kernel, by decide +kernel⟩
abbrev s_u_law_size : Stmt := topS 34
theorem sc_u_law_size : FnScope ["_law_tree_here", "_law_child"] ["_law_tree_here"] (defScope s_u_law_size) := ⟨rfl, rfl, rfl, by decide +kernel, rfl, by decide +kernel, by decide +kernel⟩
abbrev s_u_law_point : Stmt := topS 35
theorem sc_u_law_point : FnScope ["_law_spot", "_law_depth", "_law_turn", "_law_bits", "_law_rest"] ["_law_spot", "_law_depth"] (defScope s_u_law_point) := ⟨rfl, rfl, rfl, by decide +kernel, rfl, by decide +kernel, by decide +kernel⟩
abbrev s_u_law_near : Stmt := topS 36
theorem sc_u_law_near : FnScope ["_law_size_here", "_law_onset", "_law_slip", "_law_depth", "_law_turn", "_law_spot", "_law_cell", "_law_found", "_law_far"] ["_law_size_here", "_law_onset", "_law_slip", "_law_depth"] (defScope s_u_law_near) := ⟨rfl, rfl, rfl, by decide +kernel, rfl, by decide +kernel, by decide +kernel⟩
abbrev s_u_law_onsets : Stmt := topS 37
theorem sc_u_law_onsets : FnScope ["_law_state", "_law_size_here", "_law_count", "_law_found", "_law_k", "_law_slip", "_law_keys", "_law_below", "_law_key", "_law_one"] ["_law_state", "_law_size_here", "_law_count"] (defScope s_u_law_onsets) := ⟨rfl, rfl, rfl, by decide +kernel, rfl, by decide +kernel, by decide +kernel⟩
abbrev s_u_law_row : Stmt := topS 38
theorem sc_u_law_row : FnScope ["_law_state", "_law_layers", "_law_size_here", "_law_depth", "_law_row_here", "_law_layer", "_law_spot", "_law_way", "_law_at"] ["_law_state", "_law_layers", "_law_size_here", "_law_depth"] (defScope s_u_law_row) := ⟨rfl, rfl, rfl, by decide +kernel, rfl, by decide +kernel, by decide +kernel⟩
abbrev s_u_law_right : Stmt := topS 39
theorem sc_u_law_right : FnScope ["_law_layers", "_law_row_here", "_law_depth", "_law_spots", "_law_rising", "_law_layer", "_law_point_here", "_law_some", "_law_spot"] ["_law_layers", "_law_row_here", "_law_depth"] (defScope s_u_law_right) := ⟨rfl, rfl, rfl, by decide +kernel, rfl, by decide +kernel, by decide +kernel⟩
abbrev s_u_law_told : Stmt := topS 40
theorem sc_u_law_told : FnScope ["_law_metre", "_law_asked", "_law_row_here", "_law_found", "error", "_law_onsets_here", "_law_slip", "_law_depth"] ["_law_metre", "_law_asked", "_law_row_here"] (defScope s_u_law_told) := ⟨rfl, rfl, rfl, by decide +kernel, rfl, by decide +kernel, by decide +kernel⟩
abbrev s_law : Stmt := topS 41
theorem sc_law : FnScope ["_law_script", "_law_turn", "_law_cell", "_law_state", "_law_tree_here", "_law_depth", "_law_layers", "_law_is_wide", "_law_k", "_law_metre", "_law_size_here", "_law_onsets_here", "_law_slip", "_law_row_here", "_law_due", "_law_found", "_law_onset", "_law_layer"] ["_law_script"] (defScope s_law) := ⟨rfl, rfl, rfl, by decide +kernel, rfl, by decide +kernel, by decide +kernel⟩
abbrev s_x_TooMany : Stmt := inClass (topS 4) 0
theorem sc_x_TooMany : FnScope ["self", "most"] ["self", "most"] (defScope s_x_TooMany) := ⟨rfl, rfl, rfl, by decide +kernel, rfl, by decide +kernel, by decide +kernel⟩
structure Tx (K : PySem.W.Frag) (mg : Str → Option Value) (A : Ax) : Prop where
  F_is_number : Fun K "is_number" "is_number" s_is_number A.f_is_number A.d_is_number
  b_is_number : Binds K A.d_is_number ["thing"] []
  m_is_number : mg "is_number" = some (.ref A.f_is_number)
  F_dots_of : Fun K "dots_of" "dots_of" s_dots_of A.f_dots_of A.d_dots_of
  b_dots_of : Binds K A.d_dots_of ["length"] []
  m_dots_of : mg "dots_of" = some (.ref A.f_dots_of)
  F_u_pulses : Fun K "_pulses" "_pulses" s_u_pulses A.f_u_pulses A.d_u_pulses
  b_u_pulses : Binds K A.d_u_pulses ["thing", "depth"] []
  m_u_pulses : mg "_pulses" = some (.ref A.f_u_pulses)
  F_is_tree : Fun K "is_tree" "is_tree" s_is_tree A.f_is_tree A.d_is_tree
  b_is_tree : Binds K A.d_is_tree ["thing"] []
  m_is_tree : mg "is_tree" = some (.ref A.f_is_tree)
  F_u_nodes : Fun K "_nodes" "_nodes" s_u_nodes A.f_u_nodes A.d_u_nodes
  b_u_nodes : Binds K A.d_u_nodes ["tree", "begin", "depth"] []
  m_u_nodes : mg "_nodes" = some (.ref A.f_u_nodes)
  F_u_borders : Fun K "_borders" "_borders" s_u_borders A.f_u_borders A.d_u_borders
  b_u_borders : Binds K A.d_u_borders ["tree"] []
  m_u_borders : mg "_borders" = some (.ref A.f_u_borders)
  F_Metre_uu_init_ : Fun K "__init__" "Metre.__init__" s_Metre_uu_init_ A.f_Metre_uu_init_ A.d_Metre_uu_init_
  b_Metre_uu_init_ : Binds K A.d_Metre_uu_init_ ["self", "tree"] []
  F_is_bits : Fun K "is_bits" "is_bits" s_is_bits A.f_is_bits A.d_is_bits
  b_is_bits : Binds K A.d_is_bits ["thing"] []
  m_is_bits : mg "is_bits" = some (.ref A.f_is_bits)
  F_Metre_is_point : Fun K "is_point" "Metre.is_point" s_Metre_is_point A.f_Metre_is_point A.d_Metre_is_point
  b_Metre_is_point : Binds K A.d_Metre_is_point ["self", "thing"] []
  me_Metre_is_point : Meth K A.c_Metre "is_point" A.f_Metre_is_point
  F_Metre_level : Fun K "level" "Metre.level" s_Metre_level A.f_Metre_level A.d_Metre_level
  b_Metre_level : Binds K A.d_Metre_level ["self", "point"] []
  me_Metre_level : Meth K A.c_Metre "level" A.f_Metre_level
  F_point_of : Fun K "point_of" "point_of" s_point_of A.f_point_of A.d_point_of
  b_point_of : Binds K A.d_point_of ["place", "depth"] []
  m_point_of : mg "point_of" = some (.ref A.f_point_of)
  F_u_is_fraction : Fun K "_is_fraction" "_is_fraction" s_u_is_fraction A.f_u_is_fraction A.d_u_is_fraction
  b_u_is_fraction : Binds K A.d_u_is_fraction ["thing"] []
  m_u_is_fraction : mg "_is_fraction" = some (.ref A.f_u_is_fraction)
  F_u_near : Fun K "_near" "_near" s_u_near A.f_u_near A.d_u_near
  b_u_near : Binds K A.d_u_near ["metre", "onset", "slip", "depth"] []
  m_u_near : mg "_near" = some (.ref A.f_u_near)
  F_u_allowed_rows : Fun K "_allowed_rows" "_allowed_rows" s_u_allowed_rows A.f_u_allowed_rows A.d_u_allowed_rows
  b_u_allowed_rows : Binds K A.d_u_allowed_rows ["metre", "onsets", "slip", "depth"] []
  m_u_allowed_rows : mg "_allowed_rows" = some (.ref A.f_u_allowed_rows)
  F_is_hearing : Fun K "is_hearing" "is_hearing" s_is_hearing A.f_is_hearing A.d_is_hearing
  b_is_hearing : Binds K A.d_is_hearing ["metre", "onsets", "slip", "depth", "thing"] []
  m_is_hearing : mg "is_hearing" = some (.ref A.f_is_hearing)
  F_u_law_begin : Fun K "_law_begin" "_law_begin" s_u_law_begin A.f_u_law_begin A.d_u_law_begin
  b_u_law_begin : Binds K A.d_u_law_begin ["_law_cell", "_law_turn"] []
  m_u_law_begin : mg "_law_begin" = some (.ref A.f_u_law_begin)
  F_u_law_draw : Fun K "_law_draw" "_law_draw" s_u_law_draw A.f_u_law_draw A.d_u_law_draw
  b_u_law_draw : Binds K A.d_u_law_draw ["_law_state", "_law_size_here"] []
  m_u_law_draw : mg "_law_draw" = some (.ref A.f_u_law_draw)
  F_u_law_pick : Fun K "_law_pick" "_law_pick" s_u_law_pick A.f_u_law_pick A.d_u_law_pick
  b_u_law_pick : Binds K A.d_u_law_pick ["_law_state", "_law_items"] []
  m_u_law_pick : mg "_law_pick" = some (.ref A.f_u_law_pick)
  F_u_law_tree : Fun K "_law_tree" "_law_tree" s_u_law_tree A.f_u_law_tree A.d_u_law_tree
  b_u_law_tree : Binds K A.d_u_law_tree ["_law_state"] []
  m_u_law_tree : mg "_law_tree" = some (.ref A.f_u_law_tree)
  F_u_law_size : Fun K "_law_size" "_law_size" s_u_law_size A.f_u_law_size A.d_u_law_size
  b_u_law_size : Binds K A.d_u_law_size ["_law_tree_here"] []
  m_u_law_size : mg "_law_size" = some (.ref A.f_u_law_size)
  F_u_law_point : Fun K "_law_point" "_law_point" s_u_law_point A.f_u_law_point A.d_u_law_point
  b_u_law_point : Binds K A.d_u_law_point ["_law_spot", "_law_depth"] []
  m_u_law_point : mg "_law_point" = some (.ref A.f_u_law_point)
  F_u_law_near : Fun K "_law_near" "_law_near" s_u_law_near A.f_u_law_near A.d_u_law_near
  b_u_law_near : Binds K A.d_u_law_near ["_law_size_here", "_law_onset", "_law_slip", "_law_depth"] []
  m_u_law_near : mg "_law_near" = some (.ref A.f_u_law_near)
  F_u_law_onsets : Fun K "_law_onsets" "_law_onsets" s_u_law_onsets A.f_u_law_onsets A.d_u_law_onsets
  b_u_law_onsets : Binds K A.d_u_law_onsets ["_law_state", "_law_size_here", "_law_count"] []
  m_u_law_onsets : mg "_law_onsets" = some (.ref A.f_u_law_onsets)
  F_u_law_row : Fun K "_law_row" "_law_row" s_u_law_row A.f_u_law_row A.d_u_law_row
  b_u_law_row : Binds K A.d_u_law_row ["_law_state", "_law_layers", "_law_size_here", "_law_depth"] []
  m_u_law_row : mg "_law_row" = some (.ref A.f_u_law_row)
  F_u_law_right : Fun K "_law_right" "_law_right" s_u_law_right A.f_u_law_right A.d_u_law_right
  b_u_law_right : Binds K A.d_u_law_right ["_law_layers", "_law_row_here", "_law_depth"] []
  m_u_law_right : mg "_law_right" = some (.ref A.f_u_law_right)
  F_u_law_told : Fun K "_law_told" "_law_told" s_u_law_told A.f_u_law_told A.d_u_law_told
  b_u_law_told : Binds K A.d_u_law_told ["_law_metre", "_law_asked", "_law_row_here"] []
  m_u_law_told : mg "_law_told" = some (.ref A.f_u_law_told)
  F_law : Fun K "law" "law" s_law A.f_law A.d_law
  b_law : Binds K A.d_law ["_law_script"] []
  m_law : mg "law" = some (.ref A.f_law)
  cl_Metre : Cls K A.c_Metre
  mc_Metre : mg "Metre" = some (.ref A.c_Metre)
  mk_Metre : Mk K A.c_Metre A.f_Metre_uu_init_
  n_Metre_tree : NoAttr K A.c_Metre "tree"
  n_Metre_borders : NoAttr K A.c_Metre "borders"
  n_Metre_pulses : NoAttr K A.c_Metre "pulses"
  n_Metre_depth : NoAttr K A.c_Metre "depth"
  xi_TooMany : PySem.W.isClsIn K A.c_TooMany = true
  xt_TooMany : PySem.W.typeIn K (.ref A.c_TooMany) = some (.type "type")
  xm_RhythmError : mg "RhythmError" = some (.ref A.c_RhythmError)
  xm_TooMany : mg "TooMany" = some (.ref A.c_TooMany)
  oc_TooMany : OexC K A.c_TooMany
  xa_TooMany : PySem.W.findIn K (.ref A.c_TooMany) "__init__" = some (some (.ref A.fx_TooMany))
  xt2_TooMany : PySem.W.typeIn K (.ref A.fx_TooMany) = some (.type "function")
  xb_TooMany : Binds K A.dx_TooMany ["self", "most"] []
  xF_TooMany : Fun K "__init__" "TooMany.__init__" s_x_TooMany A.fx_TooMany A.dx_TooMany
  xn_TooMany : PySem.W.findIn K (.ref A.c_TooMany) "most" = some none
  bi_RhythmError : BaseI K A.c_RhythmError
  xf_TooMany_most : XfF K A.c_TooMany "most"
  ix_TooMany_TooMany : IsX K A.c_TooMany A.c_TooMany true
  xx_TooMany_TooMany : PySem.W.exmOne K (.ref A.c_TooMany) (.ref A.c_TooMany) = some true
  z_abs : mg "abs" = none
  z_all : mg "all" = none
  z_bool : mg "bool" = none
  z_dict : mg "dict" = none
  z_enumerate : mg "enumerate" = none
  z_int : mg "int" = none
  z_isinstance : mg "isinstance" = none
  z_len : mg "len" = none
  z_list : mg "list" = none
  z_max : mg "max" = none
  z_min : mg "min" = none
  z_range : mg "range" = none
  z_repr : mg "repr" = none
  z_sorted : mg "sorted" = none
  z_str : mg "str" = none
  z_sum : mg "sum" = none
  z_tuple : mg "tuple" = none
  z_zip : mg "zip" = none
  g_DOTS : mg "DOTS" = some (.ref A.o_DOTS)
  k_DOTS : KdI K A.o_DOTS kv_DOTS
  g_MOST_DEEP : (∃ t, mg "MOST_DEEP" = some (.int 4 t))
  g_MOST_PULSES : (∃ t, mg "MOST_PULSES" = some (.int 16 t))
  g_MOST_ALLOWED : (∃ t, mg "MOST_ALLOWED" = some (.int 40 t))
  g_MOST_ONSETS : (∃ t, mg "MOST_ONSETS" = some (.int 16 t))
  g_MOST_DEPTH : (∃ t, mg "MOST_DEPTH" = some (.int 8 t))
def ds_is_number (A : Ax) : DS := (dRet (dAndT (dCB fIsi (dCons (dVar 0) (dCons (dC (.ty "int")) dNil))) (dNotT (dCB fIsi (dCons (dVar 0) (dCons (dC (.ty "bool")) dNil))))))
def M_is_number (A : Ax) : FnD := runFn 1 (ds_is_number A)
def ds_dots_of (A : Ax) : DS := (dSeq (dAsg (dOp fShr (dVar 0) (dOp fSub (dOp1 fBits (dOp fAnd (dVar 0) (dOp1 fNeg (dVar 0)))) (dC (.int 1)))) (gN 1))
  (dRet (dKGet kv_DOTS (dVar 1))))
def M_dots_of (A : Ax) : FnD := runFn 2 (ds_dots_of A)
def ds_u_pulses (A : Ax) (go : FnD) : DS := (dSeq (dIfS (dAnd (dTruth (dCl (argN 1 (M_is_number A)) (dCons (dVar 0) dNil))) (dTest (dOp fEq (dVar 0) (dC (.int 1))))) (dRet (dC (.int 1))) dNx)
  (dSeq (dIfS (dOr (dTest (dOp fEq (dVar 1) (dC (.int 4)))) (dOr (dNot (dTruth (dCB fIsi (dCons (dVar 0) (dCons (dC (.ty "tuple")) dNil))))) (dTest (dOp fNotIn (dCB fLen (dCons (dVar 0) dNil)) (dTup (dCons (dC (.int 2)) (dCons (dC (.int 3)) dNil))))))) (dRet (dC (.int 0))) dNx)
  (dSeq (dAsg (dLc [4] (iSeqT (dVar 0)) (gN 4) dYes (dCl (argN 2 go) (dCons (dVar 4) (dCons (dOp fAdd (dVar 1) (dC (.int 1))) dNil)))) (gN 2))
  (dSeq (dAsg (dCB fSum (dCons (dVar 2) dNil)) (gN 3))
  (dSeq (dIfS (dOr (dTest (dOp fIn (dC (.int 0)) (dVar 2))) (dAnd (dTest (dOp fGt (dVar 1) (dC (.int 0)))) (dTest (dOp fIsN (dCl (argN 1 (M_dots_of A)) (dCons (dVar 3) dNil)) (dC .non))))) (dRet (dC (.int 0))) dNx)
  (dRet (dVar 3)))))))
def M_u_pulses (A : Ax) : Nat → FnD
  | 0 => fun _ _ => none
  | n + 1 => runFn 5 (ds_u_pulses A (M_u_pulses A n))
def ds_is_tree (A : Ax) : DS := (dRet (dChain fLe fLe (dC (.int 1)) (dCl (argN 2 (M_u_pulses A 6)) (dCons (dVar 0) (dCons (dC (.int 0)) dNil))) (dC (.int 16))))
def M_is_tree (A : Ax) : FnD := runFn 1 (ds_is_tree A)
def ds_u_nodes (A : Ax) (go : FnD) : DS := (dSeq (dIfS (dTest (dOp fEq (dVar 0) (dC (.int 1)))) (dRet (dLst (dCons (dTup (dCons (dVar 1) (dCons (dOp fAdd (dVar 1) (dC (.int 1))) (dCons (dVar 2) dNil)))) dNil))) dNx)
  (dSeq (dAsg (dLst dNil) (gN 3))
  (dSeq (dAsg (dVar 1) (gN 4))
  (dSeq (dFor (iSeqT (dVar 0)) (gN 5) (dSeq (dAsg (dCl (argN 3 go) (dCons (dVar 5) (dCons (dVar 4) (dCons (dOp fAdd (dVar 2) (dC (.int 1))) dNil)))) (gN 6))
  (dSeq (dDrop (dBM "list" fExtend (dVar 3) (dCons (dVar 6) dNil)))
  (dAsg (dOp fIx (dOp fIx (dVar 6) (dC (.int 0))) (dC (.int 1))) (gN 4)))))
  (dRet (dOp fAdd (dLst (dCons (dTup (dCons (dVar 1) (dCons (dVar 4) (dCons (dVar 2) dNil)))) dNil)) (dVar 3)))))))
def M_u_nodes (A : Ax) : Nat → FnD
  | 0 => fun _ _ => none
  | n + 1 => runFn 7 (ds_u_nodes A (M_u_nodes A n))
def ds_u_borders (A : Ax) : DS := (dSeq (dAsg (dCl (argN 3 (M_u_nodes A 6)) (dCons (dVar 0) (dCons (dC (.int 0)) (dCons (dC (.int 0)) dNil)))) (gN 1))
  (dSeq (dAsg dDNew (gN 2))
  (dSeq (dFor (iSeqL (dVar 1)) (gTp 3 (gsCons (gN 3) (gsCons (gN 4) (gsCons (gN 5) gsNil)))) (dDrop (dDSetd (dVar 2) (dVar 3) (dVar 5))))
  (dRet (dCB fTuple (dCons (dOp fAdd (dLc [6] (iRange1 (dCons (dOp fIx (dOp fIx (dVar 1) (dC (.int 0))) (dC (.int 1))) dNil)) (gN 6) dYes (dDIx (dVar 2) (dVar 6))) (dLst (dCons (dC (.int 0)) dNil))) dNil))))))
def M_u_borders (A : Ax) : FnD := runFn 7 (ds_u_borders A)
def ds_Metre_uu_init_ (A : Ax) : DS := (dSeq (dIfS (dNot (dTruth (dCl (argN 1 (M_is_tree A)) (dCons (dVar 1) dNil)))) dStop dNx)
  (dSeq (dStF A.c_Metre "tree" (dVar 0) (dVar 1))
  (dSeq (dStF A.c_Metre "borders" (dVar 0) (dCl (argN 1 (M_u_borders A)) (dCons (dVar 1) dNil)))
  (dSeq (dStF A.c_Metre "pulses" (dVar 0) (dOp fSub (dCB fLen (dCons (dOp1 (fFld A.c_Metre "borders") (dVar 0)) dNil)) (dC (.int 1))))
  (dStF A.c_Metre "depth" (dVar 0) (dCB fMaxA (dCons (dOp1 (fFld A.c_Metre "borders") (dVar 0)) dNil)))))))
def M_Metre_uu_init_ (A : Ax) : FnD := runFn 2 (ds_Metre_uu_init_ A)
def ds_is_bits (A : Ax) : DS := (dSeq (dIfS (dOr (dNot (dTruth (dCB fIsi (dCons (dVar 0) (dCons (dC (.ty "str")) dNil))))) (dTest (dOp fNe (dBM "str" fStrip (dVar 0) (dCons (dC (.str "01")) dNil)) (dC (.str ""))))) (dRet (dC (.bl false))) dNx)
  (dRet (dOrT (dOp fEq (dVar 0) (dC (.str ""))) (dBM "str" fEndswith (dVar 0) (dCons (dC (.str "1")) dNil)))))
def M_is_bits (A : Ax) : FnD := runFn 1 (ds_is_bits A)
def ds_Metre_is_point (A : Ax) : DS := (dSeq (dIfS (dOr (dNot (dTruth (dCB fIsi (dCons (dVar 1) (dCons (dC (.ty "tuple")) dNil))))) (dTest (dOp fNe (dCB fLen (dCons (dVar 1) dNil)) (dC (.int 2))))) (dRet (dC (.bl false))) dNx)
  (dSeq (dAsg (dVar 1) (gTp 2 (gsCons (gN 2) (gsCons (gN 3) gsNil))))
  (dSeq (dIfS (dOr (dNot (dTruth (dCl (argN 1 (M_is_number A)) (dCons (dVar 2) dNil)))) (dNot (dTruth (dCl (argN 1 (M_is_bits A)) (dCons (dVar 3) dNil))))) (dRet (dC (.bl false))) dNx)
  (dRet (dOrT (dChain fLe fLt (dC (.int 0)) (dVar 2) (dOp1 (fFld A.c_Metre "pulses") (dVar 0))) (dAndT (dOp fEq (dVar 2) (dOp1 (fFld A.c_Metre "pulses") (dVar 0))) (dOp fEq (dVar 3) (dC (.str "")))))))))
def M_Metre_is_point (A : Ax) : FnD := runFn 4 (ds_Metre_is_point A)
def ds_Metre_level (A : Ax) : DS := (dSeq (dIfS (dNot (dTruth (dMe A.c_Metre "is_point" (argN 2 (M_Metre_is_point A)) (dVar 0) (dCons (dVar 1) dNil)))) dStop dNx)
  (dSeq (dAsg (dVar 1) (gTp 2 (gsCons (gN 2) (gsCons (gN 3) gsNil))))
  (dSeq (dIfS (dTest (dOp fEq (dVar 3) (dC (.str "")))) (dRet (dOp fIx (dOp1 (fFld A.c_Metre "borders") (dVar 0)) (dVar 2))) dNx)
  (dRet (dOp fAdd (dOp1 (fFld A.c_Metre "depth") (dVar 0)) (dCB fLen (dCons (dVar 3) dNil)))))))
def M_Metre_level (A : Ax) : FnD := runFn 4 (ds_Metre_level A)
def ds_point_of (A : Ax) : DS := (dSeq (dAsg (dOp fShr (dVar 0) (dVar 1)) (gN 2))
  (dSeq (dAsg (dOp fSub (dVar 0) (dOp fShl (dVar 2) (dVar 1))) (gN 3))
  (dSeq (dAsg (dOp1 fFmtB (dVar 3)) (gN 4))
  (dRet (dTup (dCons (dVar 2) (dCons (dBM "str" fRstrip (dBM "str" fZfill (dVar 4) (dCons (dVar 1) dNil)) (dCons (dC (.str "0")) dNil)) dNil)))))))
def M_point_of (A : Ax) : FnD := runFn 5 (ds_point_of A)
def ds_u_is_fraction (A : Ax) : DS := (dSeq (dIfS (dOr (dNot (dTruth (dCB fIsi (dCons (dVar 0) (dCons (dC (.ty "tuple")) dNil))))) (dTest (dOp fNe (dCB fLen (dCons (dVar 0) dNil)) (dC (.int 2))))) (dRet (dC (.bl false))) dNx)
  (dRet (dAndT (dCl (argN 1 (M_is_number A)) (dCons (dOp fIx (dVar 0) (dC (.int 0))) dNil)) (dAndT (dCl (argN 1 (M_is_number A)) (dCons (dOp fIx (dVar 0) (dC (.int 1))) dNil)) (dAndT (dOp fGe (dOp fIx (dVar 0) (dC (.int 0))) (dC (.int 0))) (dOp fGe (dOp fIx (dVar 0) (dC (.int 1))) (dC (.int 1))))))))
def M_u_is_fraction (A : Ax) : FnD := runFn 1 (ds_u_is_fraction A)
def ds_u_near (A : Ax) : DS := (dSeq (dAsg (dOp fShl (dOp fMul (dOp fIx (dVar 1) (dC (.int 0))) (dOp fIx (dVar 2) (dC (.int 1)))) (dVar 3)) (gN 4))
  (dSeq (dAsg (dOp fShl (dOp fMul (dOp fIx (dVar 2) (dC (.int 0))) (dOp fIx (dVar 1) (dC (.int 1)))) (dVar 3)) (gN 5))
  (dSeq (dAsg (dOp fMul (dOp fIx (dVar 1) (dC (.int 1))) (dOp fIx (dVar 2) (dC (.int 1)))) (gN 6))
  (dSeq (dAsg (dCB fMaxA (dCons (dOp1 fNeg (dOp fDivW (dOp fSub (dVar 5) (dVar 4)) (dVar 6))) (dCons (dC (.int 0)) dNil))) (gN 7))
  (dSeq (dAsg (dCB fMinA (dCons (dOp fDivW (dOp fAdd (dVar 4) (dVar 5)) (dVar 6)) (dCons (dOp fSub (dOp fShl (dOp1 (fFld A.c_Metre "pulses") (dVar 0)) (dVar 3)) (dC (.int 1))) dNil))) (gN 8))
  (dSeq (dIfS (dTest (dOp fGe (dOp fSub (dVar 8) (dVar 7)) (dC (.int 40)))) (dRaiseF A.c_TooMany "most" (dC (.int 40))) dNx)
  (dRet (dLc [9] (iRange2 (dCons (dVar 7) (dCons (dOp fAdd (dVar 8) (dC (.int 1))) dNil))) (gN 9) dYes (dCl (argN 2 (M_point_of A)) (dCons (dVar 9) (dCons (dVar 3) dNil)))))))))))
def M_u_near (A : Ax) : FnD := runFn 10 (ds_u_near A)
def ds_u_allowed_rows (A : Ax) : DS := (dSeq (dIfS (dOr (dNot (dTruth (dCB fIsiT (dCons (dVar 1) (dCons (dTup (dCons (dC (.ty "list")) (dCons (dC (.ty "tuple")) dNil))) dNil))))) (dNot (dTest (dChain fLe fLe (dC (.int 1)) (dCB fLen (dCons (dVar 1) dNil)) (dC (.int 16)))))) dStop dNx)
  (dSeq (dFor (iEnum (dCons (dVar 1) dNil)) (gTp 2 (gsCons (gN 4) (gsCons (gN 5) gsNil))) (dIfS (dOr (dNot (dTruth (dCl (argN 1 (M_u_is_fraction A)) (dCons (dVar 5) dNil)))) (dTest (dOp fGt (dOp fIx (dVar 5) (dC (.int 0))) (dOp fMul (dOp1 (fFld A.c_Metre "pulses") (dVar 0)) (dOp fIx (dVar 5) (dC (.int 1))))))) dStop dNx))
  (dSeq (dIfS (dNot (dTruth (dCl (argN 1 (M_u_is_fraction A)) (dCons (dVar 2) dNil)))) dStop dNx)
  (dSeq (dIfS (dOr (dNot (dTruth (dCl (argN 1 (M_is_number A)) (dCons (dVar 3) dNil)))) (dNot (dTest (dChain fLe fLe (dC (.int 0)) (dVar 3) (dC (.int 8)))))) dStop dNx)
  (dRet (dLcX [5] (iSeqL (dVar 1)) (gN 5) dYes (dCl (argN 4 (M_u_near A)) (dCons (dVar 0) (dCons (dVar 5) (dCons (dVar 2) (dCons (dVar 3) dNil)))))))))))
def M_u_allowed_rows (A : Ax) : FnD := runFn 6 (ds_u_allowed_rows A)
def ds_is_hearing (A : Ax) : DS := (dSeq (dAsg (dCl (argN 4 (M_u_allowed_rows A)) (dCons (dVar 0) (dCons (dVar 1) (dCons (dVar 2) (dCons (dVar 3) dNil))))) (gN 5))
  (dSeq (dIfS (dOr (dNot (dTruth (dCB fIsi (dCons (dVar 4) (dCons (dC (.ty "tuple")) dNil))))) (dTest (dOp fNe (dCB fLen (dCons (dVar 4) dNil)) (dCB fLen (dCons (dVar 5) dNil))))) (dRet (dC (.bl false))) dNx)
  (dSeq (dIfS (dNot (dTruth (dCB fAll (dCons (dLc [6, 8] (iZipM (dCons (dVar 4) (dCons (dVar 5) dNil))) (gTp 2 (gsCons (gN 6) (gsCons (gN 8) gsNil))) dYes (dAndT (dMe A.c_Metre "is_point" (argN 2 (M_Metre_is_point A)) (dVar 0) (dCons (dVar 6) dNil)) (dOp fIn (dVar 6) (dVar 8)))) dNil)))) (dRet (dC (.bl false))) dNx)
  (dRet (dCB fAll (dCons (dLc [6, 7] (iZipM (dCons (dVar 4) (dCons (dSl fSlA (dVar 4) (dPt (dC (.int 1))) dNoPt) dNil))) (gTp 2 (gsCons (gN 6) (gsCons (gN 7) gsNil))) dYes (dOp fLtP (dVar 6) (dVar 7))) dNil))))))
def M_is_hearing (A : Ax) : FnD := runFn 9 (ds_is_hearing A)
def ds_u_law_begin (A : Ax) : DS := (dRet (dLst (dCons (dCB fMaxA (dCons (dC (.int 0)) (dCons (dOp fSub (dVar 0) (dOp fPow (dC (.int 10)) (dC (.int 18)))) dNil))) (dCons (dOp fAdd (dVar 0) (dOp fMul (dC (.int 977)) (dVar 1))) (dCons (dC (.int 0)) dNil)))))
def M_u_law_begin (A : Ax) : FnD := runFn 2 (ds_u_law_begin A)
def ds_u_law_draw (A : Ax) : DS := (dSeq (dIfS (dTest (dOp fGt (dOp fIx (dVar 0) (dC (.int 0))) (dC (.int 0)))) (dSeq (dAsg (dOp fMod (dCB fInt (dCons (dOp fIx (dVar 0) (dC (.int 0))) dNil)) (dVar 1)) (gN 2))
  (dSeq (dAsg (dOp fDiv (dOp fIx (dVar 0) (dC (.int 0))) (dVar 1)) (gSb fSet (dVar 0) (dC (.int 0))))
  (dRet (dVar 2)))) dNx)
  (dSeq (dAsg (dOp fAdd (dOp fIx (dVar 0) (dC (.int 2))) (dC (.int 1))) (gSb fSet (dVar 0) (dC (.int 2))))
  (dSeq (dAsg (dOp fAdd (dOp fMod (dCB fInt (dCons (dOp fIx (dVar 0) (dC (.int 1))) dNil)) (dC (.int 2147483629))) (dOp fMul (dC (.int 104729)) (dOp fIx (dVar 0) (dC (.int 2))))) (gN 2))
  (dSeq (dAsg (dOp fMul (dVar 2) (dOp fAdd (dOp fAdd (dOp fMod (dCB fInt (dCons (dOp fIx (dVar 0) (dC (.int 1))) dNil)) (dC (.int 2147483587))) (dOp fMul (dOp fMul (dC (.int 7919)) (dOp fIx (dVar 0) (dC (.int 2)))) (dOp fIx (dVar 0) (dC (.int 2))))) (dC (.int 11)))) (gN 2))
  (dRet (dOp fMod (dCB fInt (dCons (dOp fDiv (dOp fMod (dCB fInt (dCons (dOp fPow (dVar 2) (dC (.int 3))) dNil)) (dC (.int 2147483647))) (dC (.int 11))) dNil)) (dVar 1)))))))
def M_u_law_draw (A : Ax) : FnD := runFn 3 (ds_u_law_draw A)
def ds_u_law_pick (A : Ax) : DS := (dRet (dOp fIx (dVar 1) (dCl (argN 2 (M_u_law_draw A)) (dCons (dVar 0) (dCons (dCB fLen (dCons (dVar 1) dNil)) dNil)))))
def M_u_law_pick (A : Ax) : FnD := runFn 2 (ds_u_law_pick A)
def ds_u_law_tree (A : Ax) : DS := (dSeq (dAsg (dTup (dCons (dTup (dCons (dC (.int 1)) (dCons (dC (.int 1)) dNil))) (dCons (dTup (dCons (dC (.int 1)) (dCons (dC (.int 1)) (dCons (dC (.int 1)) dNil)))) dNil))) (gTp 2 (gsCons (gN 2) (gsCons (gN 3) gsNil))))
  (dSeq (dAsg (dLst (dCons (dC (.int 1)) (dCons (dVar 2) (dCons (dVar 3) (dCons (dTup (dCons (dVar 2) (dCons (dVar 2) dNil))) (dCons (dTup (dCons (dVar 3) (dCons (dVar 3) dNil))) (dCons (dTup (dCons (dVar 2) (dCons (dVar 2) (dCons (dVar 2) dNil)))) (dCons (dTup (dCons (dVar 2) (dCons (dVar 3) dNil))) (dCons (dTup (dCons (dC (.int 1)) (dCons (dVar 2) dNil))) (dCons (dTup (dCons (dVar 2) (dCons (dC (.int 1)) (dCons (dVar 2) dNil)))) dNil)))))))))) (gN 1))
  (dRet (dCl (argN 2 (M_u_law_pick A)) (dCons (dVar 0) (dCons (dOp fAdd (dVar 1) (dLst (dCons (dTup (dCons (dVar 3) (dCons (dVar 2) (dCons (dVar 2) dNil)))) (dCons (dTup (dCons (dVar 2) (dCons (dTup (dCons (dC (.int 1)) (dCons (dVar 2) dNil))) dNil))) dNil)))) dNil))))))
def M_u_law_tree (A : Ax) : FnD := runFn 4 (ds_u_law_tree A)
def ds_u_law_size (A : Ax) (go : FnD) : DS := (dRet (dIf (dTest (dOp fEq (dVar 0) (dC (.int 1)))) (dC (.int 1)) (dCB fSum (dCons (dLc [1] (iSeqT (dVar 0)) (gN 1) dYes (dCl (argN 1 go) (dCons (dVar 1) dNil))) dNil))))
def M_u_law_size (A : Ax) : Nat → FnD
  | 0 => fun _ _ => none
  | n + 1 => runFn 2 (ds_u_law_size A (M_u_law_size A n))
def ds_u_law_point (A : Ax) : DS := (dSeq (dPar 3 4 (dCons (dC (.str "")) (dCons (dVar 0) dNil)))
  (dSeq (dFor (iRange1 (dCons (dVar 1) dNil)) (gN 2) (dSeq (dAsg (dOp fAdd (dOp fIx (dC (.str "01")) (dOp fMod (dCB fInt (dCons (dVar 4) dNil)) (dC (.int 2)))) (dVar 3)) (gN 3))
  (dAsg (dOp fDiv (dVar 4) (dC (.int 2))) (gN 4))))
  (dSeq (whRun (dTest (dOp fEq (dSl fSlA (dVar 3) (dPt (dOp1 fNeg (dC (.int 1)))) dNoPt) (dC (.str "0")))) (dAsg (dSl fSlA (dVar 3) dNoPt (dPt (dOp1 fNeg (dC (.int 1))))) (gN 3)) 10)
  (dRet (dTup (dCons (dVar 4) (dCons (dVar 3) dNil)))))))
def M_u_law_point (A : Ax) : FnD := runFn 5 (ds_u_law_point A)
def ds_u_law_near (A : Ax) : DS := (dSeq (dPar 6 7 (dCons (dC (.int 1)) (dCons (dLst dNil) dNil)))
  (dSeq (dFor (iRange1 (dCons (dVar 3) dNil)) (gN 4) (dAsg (dOp fMul (dC (.int 2)) (dVar 6)) (gN 6)))
  (dSeq (dFor (iRange1 (dCons (dOp fMul (dVar 0) (dVar 6)) dNil)) (gN 5) (dSeq (dAsg (dOp fMul (dCB fAbs (dCons (dOp fSub (dOp fMul (dVar 5) (dOp fIx (dVar 1) (dC (.int 1)))) (dOp fMul (dOp fIx (dVar 1) (dC (.int 0))) (dVar 6))) dNil)) (dOp fIx (dVar 2) (dC (.int 1)))) (gN 8))
  (dIfS (dTest (dOp fLe (dVar 8) (dOp fMul (dOp fMul (dOp fIx (dVar 2) (dC (.int 0))) (dVar 6)) (dOp fIx (dVar 1) (dC (.int 1)))))) (dDrop (dBM "list" fAppend (dVar 7) (dCons (dVar 5) dNil))) dNx)))
  (dRet (dVar 7)))))
def M_u_law_near (A : Ax) : FnD := runFn 9 (ds_u_law_near A)
def ds_u_law_onsets (A : Ax) : DS := (dSeq (dAsg (dLst dNil) (gN 3))
  (dSeq (dFor (iRange1 (dCons (dOp fAdd (dC (.int 1)) (dCl (argN 2 (M_u_law_draw A)) (dCons (dVar 0) (dCons (dVar 2) dNil)))) dNil)) (gN 4) (dSeq (dAsg (dCl (argN 2 (M_u_law_pick A)) (dCons (dVar 0) (dCons (dLst (dCons (dC (.int 1)) (dCons (dC (.int 2)) (dCons (dC (.int 3)) (dCons (dC (.int 5)) (dCons (dC (.int 7)) (dCons (dC (.int 24)) dNil))))))) dNil))) (gN 7))
  (dDrop (dBM "list" fAppend (dVar 3) (dCons (dTup (dCons (dCl (argN 2 (M_u_law_draw A)) (dCons (dVar 0) (dCons (dOp fAdd (dOp fMul (dVar 1) (dVar 7)) (dC (.int 1))) dNil))) (dCons (dVar 7) dNil))) dNil)))))
  (dSeq (dAsg (dCl (argN 2 (M_u_law_pick A)) (dCons (dVar 0) (dCons (dLst (dCons (dTup (dCons (dC (.int 0)) (dCons (dC (.int 1)) dNil))) (dCons (dTup (dCons (dC (.int 1)) (dCons (dC (.int 8)) dNil))) (dCons (dTup (dCons (dC (.int 1)) (dCons (dC (.int 5)) dNil))) (dCons (dTup (dCons (dC (.int 1)) (dCons (dC (.int 4)) dNil))) (dCons (dTup (dCons (dC (.int 1)) (dCons (dC (.int 3)) dNil))) (dCons (dTup (dCons (dC (.int 2)) (dCons (dC (.int 3)) dNil))) (dCons (dTup (dCons (dC (.int 1)) (dCons (dC (.int 24)) dNil))) dNil)))))))) dNil))) (gN 5))
  (dSeq (dAsg (dCB fSortedL (dCons (dLc [4, 9] (iEnum (dCons (dVar 3) dNil)) (gTp 2 (gsCons (gN 4) (gsCons (gN 9) gsNil))) dYes (dTup (dCons (dOp fDiv (dOp fMul (dOp fMul (dC (.int 24)) (dC (.int 35))) (dOp fIx (dVar 9) (dC (.int 0)))) (dOp fIx (dVar 9) (dC (.int 1)))) (dCons (dVar 4) dNil)))) dNil)) (gN 6))
  (dSeq (dIfS (dTest (dOp fEq (dCl (argN 2 (M_u_law_draw A)) (dCons (dVar 0) (dCons (dC (.int 4)) dNil))) (dC (.int 0)))) (dRet (dTup (dCons (dVar 3) (dCons (dVar 5) dNil)))) dNx)
  (dRet (dTup (dCons (dLc [8] (iSeqL (dVar 6)) (gN 8) dYes (dOp fIx (dVar 3) (dOp fIx (dVar 8) (dC (.int 1))))) (dCons (dVar 5) dNil)))))))))
def M_u_law_onsets (A : Ax) : FnD := runFn 10 (ds_u_law_onsets A)
def ds_u_law_row (A : Ax) : DS := (dSeq (dAsg (dLst dNil) (gN 4))
  (dSeq (dFor (iSeqL (dVar 1)) (gN 5) (dSeq (dAsg (dCl (argN 2 (M_u_law_draw A)) (dCons (dVar 0) (dCons (dVar 2) dNil))) (gN 6))
  (dSeq (dIfS (dAnd (dTest (dOp fNe (dVar 5) (dLst dNil))) (dTest (dOp fGt (dCl (argN 2 (M_u_law_draw A)) (dCons (dVar 0) (dCons (dC (.int 6)) dNil))) (dC (.int 0))))) (dAsg (dCl (argN 2 (M_u_law_pick A)) (dCons (dVar 0) (dCons (dVar 5) dNil))) (gN 6)) dNx)
  (dDrop (dBM "list" fAppend (dVar 4) (dCons (dCl (argN 2 (M_u_law_point A)) (dCons (dOp fAdd (dVar 6) (dCl (argN 2 (M_u_law_pick A)) (dCons (dVar 0) (dCons (dLst (dCons (dC (.int 0)) (dCons (dC (.int 0)) (dCons (dC (.int 0)) (dCons (dC (.int 0)) (dCons (dC (.int 0)) (dCons (dC (.int 1)) dNil))))))) dNil)))) (dCons (dVar 3) dNil))) dNil))))))
  (dSeq (dPar 7 8 (dCons (dCl (argN 2 (M_u_law_draw A)) (dCons (dVar 0) (dCons (dC (.int 10)) dNil))) (dCons (dCl (argN 2 (M_u_law_draw A)) (dCons (dVar 0) (dCons (dCB fLen (dCons (dVar 4) dNil)) dNil))) dNil)))
  (dSeq (dIfS (dTest (dOp fEq (dVar 7) (dC (.int 0)))) (dRet (dCl (argN 2 (M_u_law_pick A)) (dCons (dVar 0) (dCons (dLst (dCons (dC .non) (dCons (dTup dNil) (dCons (dCB fList (dCons (dVar 4) dNil)) (dCons (dCB fTuple (dCons (dSl fSlA (dVar 4) dNoPt (dPt (dOp1 fNeg (dC (.int 1))))) dNil)) (dCons (dCB fTuple (dCons (dOp fAdd (dVar 4) (dSl fSlA (dVar 4) (dPt (dOp1 fNeg (dC (.int 1)))) dNoPt)) dNil)) (dCons (dC (.str "row")) (dCons (dC (.int 5)) dNil)))))))) dNil)))) dNx)
  (dSeq (dIfS (dTest (dOp fEq (dVar 7) (dC (.int 1)))) (dAsg (dCl (argN 2 (M_u_law_pick A)) (dCons (dVar 0) (dCons (dLst (dCons (dC .non) (dCons (dTup (dCons (dC (.int 0)) (dCons (dC (.str "0")) dNil))) (dCons (dLst (dCons (dC (.int 0)) (dCons (dC (.str "")) dNil))) (dCons (dTup (dCons (dC (.bl true)) (dCons (dC (.str "")) dNil))) (dCons (dTup (dCons (dC (.int 0)) (dCons (dC (.str "")) (dCons (dC (.int 1)) dNil)))) (dCons (dTup (dCons (dOp1 fNeg (dC (.int 1))) (dCons (dC (.str "")) dNil))) (dCons (dTup (dCons (dC (.int 0)) (dCons (dC (.str "2")) dNil))) (dCons (dC (.int 0)) dNil))))))))) dNil))) (gSb fSet (dVar 4) (dVar 8))) dNx)
  (dSeq (dIfS (dTest (dOp fEq (dVar 7) (dC (.int 2)))) (dAsg (dCB fSortedL (dCons (dVar 4) dNil)) (gN 4)) dNx)
  (dSeq (dIfS (dAnd (dTest (dOp fEq (dVar 7) (dC (.int 3)))) (dTest (dOp fGt (dVar 8) (dC (.int 0))))) (dAsg (dOp fIx (dVar 4) (dOp fSub (dVar 8) (dC (.int 1)))) (gSb fSet (dVar 4) (dVar 8))) dNx)
  (dRet (dIf (dTest (dOp fGt (dVar 7) (dC (.int 5)))) (dCB fTuple (dCons (dCB fSortedL (dCons (dVar 4) dNil)) dNil)) (dCB fTuple (dCons (dVar 4) dNil)))))))))))
def M_u_law_row (A : Ax) : FnD := runFn 9 (ds_u_law_row A)
def ds_u_law_right (A : Ax) : DS := (dSeq (dIfS (dOr (dNot (dTruth (dCB fIsi (dCons (dVar 1) (dCons (dC (.ty "tuple")) dNil))))) (dTest (dOp fNe (dCB fLen (dCons (dVar 1) dNil)) (dCB fLen (dCons (dVar 0) dNil))))) (dRet (dC (.bl false))) dNx)
  (dSeq (dAsg (dLst dNil) (gN 3))
  (dSeq (dFor (iZipM (dCons (dVar 0) (dCons (dVar 1) dNil))) (gTp 2 (gsCons (gN 5) (gsCons (gN 6) gsNil))) (dSeq (dAsg (dLc [8] (iSeqL (dVar 5)) (gN 8) (dTest (dOp fEq (dCB fRepr (dCons (dCl (argN 2 (M_u_law_point A)) (dCons (dVar 8) (dCons (dVar 2) dNil))) dNil)) (dCB fRepr (dCons (dVar 6) dNil)))) (dVar 8)) (gN 7))
  (dDrop (dBM "list" fExtend (dVar 3) (dCons (dVar 7) dNil)))))
  (dSeq (dAsg (dCB fSortedK (dCons (dCB fDictP (dCons (dLc [8] (iSeqL (dVar 3)) (gN 8) dYes (dTup (dCons (dVar 8) (dCons (dC (.bl true)) dNil)))) dNil)) dNil)) (gN 4))
  (dRet (dAndT (dOp fEq (dCB fLen (dCons (dVar 3) dNil)) (dCB fLen (dCons (dVar 0) dNil))) (dOp fEq (dVar 3) (dVar 4))))))))
def M_u_law_right (A : Ax) : FnD := runFn 9 (ds_u_law_right A)
def ds_u_law_told (A : Ax) : DS := (dSeq (dAsg (dVar 1) (gTp 3 (gsCons (gN 5) (gsCons (gN 6) (gsCons (gN 7) gsNil)))))
  (dSeq (dAsg (dC .non) (gN 3))
  (dSeq (dTryN [A.c_TooMany] "most" (40) 4 3 (dAsg (dCl (argN 5 (M_is_hearing A)) (dCons (dVar 0) (dCons (dVar 5) (dCons (dVar 6) (dCons (dVar 7) (dCons (dVar 2) dNil)))))) (gN 3)))
  (dRet (dVar 3)))))
def M_u_law_told (A : Ax) : FnD := runFn 8 (ds_u_law_told A)
def ds_law (A : Ax) : DS := (dSeq (dFor (iEnum (dCons (dSl fSlA (dOrT (dVar 0) (dLst (dCons (dC (.int 5)) dNil))) dNoPt (dPt (dC (.int 4)))) dNil)) (gTp 2 (gsCons (gN 1) (gsCons (gN 2) gsNil))) (dSeq (dAsg (dCl (argN 2 (M_u_law_begin A)) (dCons (dVar 2) (dCons (dVar 1) dNil))) (gN 3))
  (dSeq (dAsg (dCl (argN 1 (M_u_law_tree A)) (dCons (dVar 3) dNil)) (gN 4))
  (dSeq (dAsg (dTup (dCons (dMk A.c_Metre (argN 2 (M_Metre_uu_init_ A)) (dCons (dVar 4) dNil)) (dCons (dCl (argN 1 (M_u_law_size A 4)) (dCons (dVar 4) dNil)) dNil))) (gTp 2 (gsCons (gN 9) (gsCons (gN 10) gsNil))))
  (dSeq (dAsg (dCl (argN 2 (M_u_law_draw A)) (dCons (dVar 3) (dCons (dC (.int 4)) dNil))) (gN 5))
  (dSeq (dAsg (dCl (argN 3 (M_u_law_onsets A)) (dCons (dVar 3) (dCons (dVar 10) (dCons (dC (.int 4)) dNil)))) (gTp 2 (gsCons (gN 11) (gsCons (gN 12) gsNil))))
  (dSeq (dAsg (dLc [16] (iSeqL (dVar 11)) (gN 16) dYes (dCl (argN 4 (M_u_law_near A)) (dCons (dVar 10) (dCons (dVar 16) (dCons (dVar 12) (dCons (dVar 5) dNil)))))) (gN 6))
  (dSeq (dAsg (dOp fGt (dCB fMaxA (dCons (dLc [17] (iSeqL (dVar 6)) (gN 17) dYes (dCB fLen (dCons (dVar 17) dNil))) dNil)) (dC (.int 40))) (gN 7))
  (dFor (iRange1 (dCons (dC (.int 12)) dNil)) (gN 8) (dSeq (dAsg (dCl (argN 4 (M_u_law_row A)) (dCons (dVar 3) (dCons (dVar 6) (dCons (dVar 10) (dCons (dVar 5) dNil))))) (gN 13))
  (dSeq (dAsg (dIf (dTruth (dVar 7)) (dC .non) (dCl (argN 3 (M_u_law_right A)) (dCons (dVar 6) (dCons (dVar 13) (dCons (dVar 5) dNil))))) (gN 14))
  (dSeq (dAsg (dCl (argN 3 (M_u_law_told A)) (dCons (dVar 9) (dCons (dTup (dCons (dVar 11) (dCons (dVar 12) (dCons (dVar 5) dNil)))) (dCons (dVar 13) dNil)))) (gN 15))
  (dIfS (dOr (dTest (dOp fNe (dVar 15) (dVar 14))) (dTest (dOp fNe (dCB fIsi (dCons (dVar 15) (dCons (dC (.ty "bool")) dNil))) (dCB fIsi (dCons (dVar 14) (dCons (dC (.ty "bool")) dNil)))))) (dRet (dC (.bl false))) dNx)))))))))))))
  (dRet (dC (.bl true))))
def M_law (A : Ax) : FnD := runFn 18 (ds_law A)
section
variable {P : Program} {w : World} {K : PySem.W.Frag} {mg : Str → Option Value} {base : Heap} {A : Ax}
theorem xi_TooMany (T : Tx K mg A) : FnOk P w K mg base (L2.CX P w) 1 A.fx_TooMany A.dx_TooMany ["self", "most"] (spIn A.c_TooMany "most") :=
  fn_einit T.xF_TooMany sc_x_TooMany T.oc_TooMany T.xn_TooMany fun cdv AA outer s H E => pss_cons (ps_expr (pe_einit T.bi_RhythmError rfl T.xm_RhythmError (pa_cons (pe_var (i := 0) rfl (Or.inl rfl)) (pa_cons pe_str pa_nil)))) (pss_one (ps_ost (pe_var (i := 0) rfl (Or.inl rfl)) (pe_var (i := 1) rfl (Or.inl rfl))))
theorem ok_is_number (T : Tx K mg A) : FnG P w K mg base 1 A.f_is_number A.d_is_number ["thing"] (M_is_number A) :=
  fn_mkD (n := 1) (b := ds_is_number A) rfl rfl T.F_is_number sc_is_number fun cdv AA outer s H E hr tk hp => by
    unfold ds_is_number
    exact (dss_one (ds_ret (de_andT (de_callB dc_isi rfl T.z_isinstance (by decide +kernel) (da_cons (de_var 0) (da_cons (de_ty rfl T.z_int (by decide +kernel)) da_nil))) (de_one (de_notT (de_callB dc_isi rfl T.z_isinstance (by decide +kernel) (da_cons (de_var 0) (da_cons (de_ty rfl T.z_bool (by decide +kernel)) da_nil))))))))
theorem ok_dots_of (T : Tx K mg A) : FnG P w K mg base 1 A.f_dots_of A.d_dots_of ["length"] (M_dots_of A) :=
  fn_mkD (n := 2) (b := ds_dots_of A) rfl rfl T.F_dots_of sc_dots_of fun cdv AA outer s H E hr tk hp => by
    unfold ds_dots_of
    exact (dss_cons (ds_set (i := 1) sc_dots_of.nd (de_op dop_shr (de_var 0) (de_op dop_sub (de_bits (de_op dop_and (de_var 0) (de_neg (de_var 0)))) de_int)))
  (dss_one (ds_ret (de_kget T.k_DOTS (pe_glob rfl T.g_DOTS rfl) (de_var 1)))))
theorem ok_u_pulses (T : Tx K mg A) : ∀ n : Nat, FnG P w K mg base (1 + n) A.f_u_pulses A.d_u_pulses ["thing", "depth"] (M_u_pulses A n)
  | 0 => fn_none
  | n + 1 => by
    have ih := ok_u_pulses T n
    refine fn_mkD (n := 5) (b := ds_u_pulses A (M_u_pulses A n)) rfl rfl T.F_u_pulses sc_u_pulses fun cdv AA outer s H E hr tk hp => ?_
    generalize M_u_pulses A n = go at ih ⊢
    unfold ds_u_pulses
    exact (dss_cons (ds_if (DW.pt (dw_and (dt_truth (de_call (ok_is_number T) (hr.mono (Nat.le_trans (by decide) (Nat.le_add_right _ _))) T.m_is_number T.F_is_number.kp T.b_is_number tk (da_cons (de_var 0) da_nil))) (dw_and1 (dt_cmp (dop_eq (hu64 hr)) (de_var 0) de_int)))) (dss_one (ds_ret de_int)) dss_nil)
  (dss_cons (ds_if (DW.pt (dw_or (dt_cmp (dop_eq (hu64 hr)) (de_var 1) (de_globI rfl (T.g_MOST_DEEP).choose_spec)) (dw_or (dt_not (dt_truth (de_callB dc_isi rfl T.z_isinstance (by decide +kernel) (da_cons (de_var 0) (da_cons (de_ty rfl T.z_tuple (by decide +kernel)) da_nil))))) (dw_or1 (dt_cmp (dop_notIn (hu66 hr)) (de_callB dc_len rfl T.z_len (by decide +kernel) (da_cons (de_var 0) da_nil)) (de_tup (da_cons de_int (da_cons de_int da_nil)))))))) (dss_one (ds_ret de_int)) dss_nil)
  (dss_cons (ds_setLc (i := 2) (own := [("child", 4)]) rfl sc_u_pulses.nd (di_tup (de_var 0)) (blkOk_by (own := [("child", 4)]) (N := ["thing", "depth", "parts", "total", "child"]) (sc := defScope s_u_pulses) (by decide +kernel)) (ng_name (by decide)) (fun _ _ _ _ _ => (pg_name (i := 4) sc_u_pulses.nd rfl (by first | exact Or.inl rfl | exact Or.inr rfl))) (fun _ _ _ _ _ => dts_nil) (fun _ _ _ _ _ => (de_call (ih) hr T.m_u_pulses T.F_u_pulses.kp T.b_u_pulses takes0 (da_cons (de_var 4) (da_cons (de_op dop_add (de_var 1) de_int) da_nil)))) (sw_true rfl rfl rfl (by decide +kernel)))
  (dss_cons (ds_set (i := 3) sc_u_pulses.nd (de_callB (dc_sum rfl) rfl T.z_sum (by decide +kernel) (da_cons (de_var 2) da_nil)))
  (dss_cons (ds_if (DW.pt (dw_or (dt_cmp (dop_in (hu66 hr)) de_int (de_var 2)) (dw_or1 (DW.pt (dw_and (dt_cmp dop_gt (de_var 1) de_int) (dw_and1 (dt_cmp dop_isN (de_call (ok_dots_of T) (hr.mono (Nat.le_trans (by decide) (Nat.le_add_right _ _))) T.m_dots_of T.F_dots_of.kp T.b_dots_of tk (da_cons (de_var 3) da_nil)) de_non))))))) (dss_one (ds_ret de_int)) dss_nil)
  (dss_one (ds_ret (de_var 3))))))))
theorem ok_is_tree (T : Tx K mg A) : FnG P w K mg base 8 A.f_is_tree A.d_is_tree ["thing"] (M_is_tree A) :=
  fn_mkD (n := 1) (b := ds_is_tree A) rfl rfl T.F_is_tree sc_is_tree fun cdv AA outer s H E hr tk hp => by
    unfold ds_is_tree
    exact (dss_one (ds_ret (de_chain dop_le dop_le pure_fI de_int (de_call (ok_u_pulses T 6) (hr.mono (by decide)) T.m_u_pulses T.F_u_pulses.kp T.b_u_pulses tk (da_cons (de_var 0) (da_cons de_int da_nil))) (de_globI rfl (T.g_MOST_PULSES).choose_spec))))
theorem ok_u_nodes (T : Tx K mg A) : ∀ n : Nat, FnG P w K mg base (0 + n) A.f_u_nodes A.d_u_nodes ["tree", "begin", "depth"] (M_u_nodes A n)
  | 0 => fn_none
  | n + 1 => by
    have ih := ok_u_nodes T n
    refine fn_mkD (n := 7) (b := ds_u_nodes A (M_u_nodes A n)) rfl rfl T.F_u_nodes sc_u_nodes fun cdv AA outer s H E hr tk hp => ?_
    generalize M_u_nodes A n = go at ih ⊢
    unfold ds_u_nodes
    exact (dss_cons (ds_if (dt_cmp (dop_eq (hu64 hr)) (de_var 0) de_int) (dss_one (ds_ret (de_lst (da_cons (de_tup (da_cons (de_var 1) (da_cons (de_op dop_add (de_var 1) de_int) (da_cons (de_var 2) da_nil)))) da_nil)))) dss_nil)
  (dss_cons (ds_set (i := 3) sc_u_nodes.nd (de_lst da_nil))
  (dss_cons (ds_set (i := 4) sc_u_nodes.nd (de_var 1))
  (dss_cons (ds_for hp rfl (di_tup (de_var 0)) (dg_name (i := 5) sc_u_nodes.nd) (dss_cons (ds_set (i := 6) sc_u_nodes.nd (de_call (ih) hr T.m_u_nodes T.F_u_nodes.kp T.b_u_nodes tk (da_cons (de_var 5) (da_cons (de_var 4) (da_cons (de_op dop_add (de_var 2) de_int) da_nil)))))
  (dss_cons (ds_expr (de_bm PySem.F.plainAttrs_list PySem.F.slot_list_extend PySem.F.type_list_extend dm_extend (de_var 3) (da_cons (de_var 6) da_nil)))
  (dss_one (ds_set (i := 4) sc_u_nodes.nd (de_ix (de_ix (de_var 6) de_int) de_int))))))
  (dss_one (ds_ret (de_op dop_add (de_lst (da_cons (de_tup (da_cons (de_var 1) (da_cons (de_var 4) (da_cons (de_var 2) da_nil)))) da_nil)) (de_var 3))))))))
theorem ok_u_borders (T : Tx K mg A) : FnG P w K mg base 7 A.f_u_borders A.d_u_borders ["tree"] (M_u_borders A) :=
  fn_mkD (n := 7) (b := ds_u_borders A) rfl rfl T.F_u_borders sc_u_borders fun cdv AA outer s H E hr tk hp => by
    unfold ds_u_borders
    exact (dss_cons (ds_set (i := 1) sc_u_borders.nd (de_call (ok_u_nodes T 6) (hr.mono (by decide)) T.m_u_nodes T.F_u_nodes.kp T.b_u_nodes tk (da_cons (de_var 0) (da_cons de_int (da_cons de_int da_nil)))))
  (dss_cons (ds_set (i := 2) sc_u_borders.nd de_dnew)
  (dss_cons (ds_for hp rfl (di_list (de_var 1)) (dg_tup rfl (dgs_cons (dg_name (i := 3) sc_u_borders.nd) (dgs_cons (dg_name (i := 4) sc_u_borders.nd) (dgs_cons (dg_name (i := 5) sc_u_borders.nd) dgs_nil)))) (dss_one (ds_expr (de_dsetd (de_var 2) (de_var 3) (de_var 5)))))
  (dss_one (ds_ret (de_callTy dc_tuple rfl T.z_tuple (by decide +kernel) (da_cons (de_op dop_add (de_lc (own := [("pulse", 6)]) rfl sc_u_borders.nd (di_range1 rfl T.z_range (da_cons (de_ix (de_ix (de_var 1) de_int) de_int) da_nil)) (blkOk_by (own := [("pulse", 6)]) (N := ["tree", "nodes", "levels", "begin", "_", "depth", "pulse"]) (sc := defScope s_u_borders) (by decide +kernel)) (ng_name (by decide)) (fun _ _ _ _ _ => (pg_name (i := 6) sc_u_borders.nd rfl (by first | exact Or.inl rfl | exact Or.inr rfl))) (fun _ _ _ _ _ => dts_nil) (fun _ _ _ _ _ => (de_dix (hu1 hr) (de_var 2) (de_var 6)))) (de_lst (da_cons de_int da_nil))) da_nil)))))))
theorem ok_Metre_uu_init_ (T : Tx K mg A) : FnG P w K mg base 9 A.f_Metre_uu_init_ A.d_Metre_uu_init_ ["self", "tree"] (M_Metre_uu_init_ A) :=
  fn_mkD (n := 2) (b := ds_Metre_uu_init_ A) rfl rfl T.F_Metre_uu_init_ sc_Metre_uu_init_ fun cdv AA outer s H E hr tk hp => by
    unfold ds_Metre_uu_init_
    exact (dss_cons (ds_if (dt_not (dt_truth (de_call (ok_is_tree T) (hr.mono (by decide)) T.m_is_tree T.F_is_tree.kp T.b_is_tree tk (da_cons (de_var 1) da_nil)))) (dss_one ds_never) dss_nil)
  (dss_cons (ds_fld T.cl_Metre T.n_Metre_tree (de_var 0) (de_var 1))
  (dss_cons (ds_fld T.cl_Metre T.n_Metre_borders (de_var 0) (de_call (ok_u_borders T) (hr.mono (by decide)) T.m_u_borders T.F_u_borders.kp T.b_u_borders tk (da_cons (de_var 1) da_nil)))
  (dss_cons (ds_fld T.cl_Metre T.n_Metre_pulses (de_var 0) (de_op dop_sub (de_callB dc_len rfl T.z_len (by decide +kernel) (da_cons (de_fld T.cl_Metre T.n_Metre_borders (de_var 0)) da_nil)) de_int))
  (dss_one (ds_fld T.cl_Metre T.n_Metre_depth (de_var 0) (de_callB (dc_maxA rfl (hu66 hr)) rfl T.z_max (by decide +kernel) (da_cons (de_fld T.cl_Metre T.n_Metre_borders (de_var 0)) da_nil))))))))
theorem ok_is_bits (T : Tx K mg A) : FnG P w K mg base 1 A.f_is_bits A.d_is_bits ["thing"] (M_is_bits A) :=
  fn_mkD (n := 1) (b := ds_is_bits A) rfl rfl T.F_is_bits sc_is_bits fun cdv AA outer s H E hr tk hp => by
    unfold ds_is_bits
    exact (dss_cons (ds_if (DW.pt (dw_or (dt_not (dt_truth (de_callB dc_isi rfl T.z_isinstance (by decide +kernel) (da_cons (de_var 0) (da_cons (de_ty rfl T.z_str (by decide +kernel)) da_nil))))) (dw_or1 (dt_cmp (dop_ne (hu64 hr)) (de_bm PySem.F.plainAttrs_str PySem.F.slot_str_strip PySem.F.type_str_strip dm_strip (de_var 0) (da_cons de_str da_nil)) de_str)))) (dss_one (ds_ret de_bl)) dss_nil)
  (dss_one (ds_ret (de_orT (de_cmp (dop_eq (hu64 hr)) (de_var 0) de_str) (de_one (de_bm PySem.F.plainAttrs_str PySem.F.slot_str_endswith PySem.F.type_str_endswith dm_endswith (de_var 0) (da_cons de_str da_nil)))))))
theorem ok_Metre_is_point (T : Tx K mg A) : FnG P w K mg base 2 A.f_Metre_is_point A.d_Metre_is_point ["self", "thing"] (M_Metre_is_point A) :=
  fn_mkD (n := 4) (b := ds_Metre_is_point A) rfl rfl T.F_Metre_is_point sc_Metre_is_point fun cdv AA outer s H E hr tk hp => by
    unfold ds_Metre_is_point
    exact (dss_cons (ds_if (DW.pt (dw_or (dt_not (dt_truth (de_callB dc_isi rfl T.z_isinstance (by decide +kernel) (da_cons (de_var 1) (da_cons (de_ty rfl T.z_tuple (by decide +kernel)) da_nil))))) (dw_or1 (dt_cmp (dop_ne (hu64 hr)) (de_callB dc_len rfl T.z_len (by decide +kernel) (da_cons (de_var 1) da_nil)) de_int)))) (dss_one (ds_ret de_bl)) dss_nil)
  (dss_cons (ds_asg (de_var 1) (dg_tup rfl (dgs_cons (dg_name (i := 2) sc_Metre_is_point.nd) (dgs_cons (dg_name (i := 3) sc_Metre_is_point.nd) dgs_nil))))
  (dss_cons (ds_if (DW.pt (dw_or (dt_not (dt_truth (de_call (ok_is_number T) (hr.mono (by decide)) T.m_is_number T.F_is_number.kp T.b_is_number tk (da_cons (de_var 2) da_nil)))) (dw_or1 (dt_not (dt_truth (de_call (ok_is_bits T) (hr.mono (by decide)) T.m_is_bits T.F_is_bits.kp T.b_is_bits tk (da_cons (de_var 3) da_nil))))))) (dss_one (ds_ret de_bl)) dss_nil)
  (dss_one (ds_ret (de_orT (de_chain dop_le dop_lt pure_fI de_int (de_var 2) (de_fld T.cl_Metre T.n_Metre_pulses (de_var 0))) (de_one (de_andT (de_cmp (dop_eq (hu64 hr)) (de_var 2) (de_fld T.cl_Metre T.n_Metre_pulses (de_var 0))) (de_one (de_cmp (dop_eq (hu64 hr)) (de_var 3) de_str))))))))))
theorem ok_Metre_level (T : Tx K mg A) : FnG P w K mg base 3 A.f_Metre_level A.d_Metre_level ["self", "point"] (M_Metre_level A) :=
  fn_mkD (n := 4) (b := ds_Metre_level A) rfl rfl T.F_Metre_level sc_Metre_level fun cdv AA outer s H E hr tk hp => by
    unfold ds_Metre_level
    exact (dss_cons (ds_if (dt_not (dt_truth (de_meth (de_var 0) T.cl_Metre T.me_Metre_is_point (ok_Metre_is_point T) (hr.mono (by decide)) T.b_Metre_is_point tk (da_cons (de_var 1) da_nil)))) (dss_one ds_never) dss_nil)
  (dss_cons (ds_asg (de_var 1) (dg_tup rfl (dgs_cons (dg_name (i := 2) sc_Metre_level.nd) (dgs_cons (dg_name (i := 3) sc_Metre_level.nd) dgs_nil))))
  (dss_cons (ds_if (dt_cmp (dop_eq (hu64 hr)) (de_var 3) de_str) (dss_one (ds_ret (de_ix (de_fld T.cl_Metre T.n_Metre_borders (de_var 0)) (de_var 2)))) dss_nil)
  (dss_one (ds_ret (de_op dop_add (de_fld T.cl_Metre T.n_Metre_depth (de_var 0)) (de_callB dc_len rfl T.z_len (by decide +kernel) (da_cons (de_var 3) da_nil))))))))
theorem ok_point_of (T : Tx K mg A) : FnG P w K mg base 1 A.f_point_of A.d_point_of ["place", "depth"] (M_point_of A) :=
  fn_mkD (n := 5) (b := ds_point_of A) rfl rfl T.F_point_of sc_point_of fun cdv AA outer s H E hr tk hp => by
    unfold ds_point_of
    exact (dss_cons (ds_set (i := 2) sc_point_of.nd (de_op dop_shr (de_var 0) (de_var 1)))
  (dss_cons (ds_set (i := 3) sc_point_of.nd (de_op dop_sub (de_var 0) (de_op dop_shl (de_var 2) (de_var 1))))
  (dss_cons (ds_set (i := 4) sc_point_of.nd (de_fmtB (de_var 3)))
  (dss_one (ds_ret (de_tup (da_cons (de_var 2) (da_cons (de_bm PySem.F.plainAttrs_str PySem.F.slot_str_rstrip PySem.F.type_str_rstrip dm_rstrip (de_bm PySem.F.plainAttrs_str PySem.F.slot_str_zfill PySem.F.type_str_zfill dm_zfill (de_var 4) (da_cons (de_var 1) da_nil)) (da_cons de_str da_nil)) da_nil))))))))
theorem ok_u_is_fraction (T : Tx K mg A) : FnG P w K mg base 2 A.f_u_is_fraction A.d_u_is_fraction ["thing"] (M_u_is_fraction A) :=
  fn_mkD (n := 1) (b := ds_u_is_fraction A) rfl rfl T.F_u_is_fraction sc_u_is_fraction fun cdv AA outer s H E hr tk hp => by
    unfold ds_u_is_fraction
    exact (dss_cons (ds_if (DW.pt (dw_or (dt_not (dt_truth (de_callB dc_isi rfl T.z_isinstance (by decide +kernel) (da_cons (de_var 0) (da_cons (de_ty rfl T.z_tuple (by decide +kernel)) da_nil))))) (dw_or1 (dt_cmp (dop_ne (hu64 hr)) (de_callB dc_len rfl T.z_len (by decide +kernel) (da_cons (de_var 0) da_nil)) de_int)))) (dss_one (ds_ret de_bl)) dss_nil)
  (dss_one (ds_ret (de_andT (de_call (ok_is_number T) (hr.mono (by decide)) T.m_is_number T.F_is_number.kp T.b_is_number tk (da_cons (de_ix (de_var 0) de_int) da_nil)) (de_andT (de_call (ok_is_number T) (hr.mono (by decide)) T.m_is_number T.F_is_number.kp T.b_is_number tk (da_cons (de_ix (de_var 0) de_int) da_nil)) (de_andT (de_cmp dop_ge (de_ix (de_var 0) de_int) de_int) (de_one (de_cmp dop_ge (de_ix (de_var 0) de_int) de_int))))))))
theorem ok_u_near (T : Tx K mg A) : FnG P w K mg base 3 A.f_u_near A.d_u_near ["metre", "onset", "slip", "depth"] (M_u_near A) :=
  fn_mkD (n := 10) (b := ds_u_near A) rfl rfl T.F_u_near sc_u_near fun cdv AA outer s H E hr tk hp => by
    unfold ds_u_near
    exact (dss_cons (ds_set (i := 4) sc_u_near.nd (de_op dop_shl (de_op dop_mul (de_ix (de_var 1) de_int) (de_ix (de_var 2) de_int)) (de_var 3)))
  (dss_cons (ds_set (i := 5) sc_u_near.nd (de_op dop_shl (de_op dop_mul (de_ix (de_var 2) de_int) (de_ix (de_var 1) de_int)) (de_var 3)))
  (dss_cons (ds_set (i := 6) sc_u_near.nd (de_op dop_mul (de_ix (de_var 1) de_int) (de_ix (de_var 2) de_int)))
  (dss_cons (ds_set (i := 7) sc_u_near.nd (de_callB (dc_maxA rfl (hu66 hr)) rfl T.z_max (by decide +kernel) (da_cons (de_neg (de_op dop_divW (de_op dop_sub (de_var 5) (de_var 4)) (de_var 6))) (da_cons de_int da_nil))))
  (dss_cons (ds_set (i := 8) sc_u_near.nd (de_callB (dc_minA rfl (hu66 hr)) rfl T.z_min (by decide +kernel) (da_cons (de_op dop_divW (de_op dop_add (de_var 4) (de_var 5)) (de_var 6)) (da_cons (de_op dop_sub (de_op dop_shl (de_fld T.cl_Metre T.n_Metre_pulses (de_var 0)) (de_var 3)) de_int) da_nil))))
  (dss_cons (ds_if (dt_cmp dop_ge (de_op dop_sub (de_var 8) (de_var 7)) (de_globI rfl (T.g_MOST_ALLOWED).choose_spec)) (dss_one (ds_raiseF (k := 0) ⟨T.oc_TooMany, T.xm_TooMany, ⟨_, _, T.xa_TooMany, T.xt2_TooMany, T.xb_TooMany, xi_TooMany T⟩⟩ rfl (hr.mono (by decide)) tk (de_globI rfl (T.g_MOST_ALLOWED).choose_spec))) dss_nil)
  (dss_one (ds_ret (de_lc (own := [("place", 9)]) rfl sc_u_near.nd (di_range2 rfl T.z_range (da_cons (de_var 7) (da_cons (de_op dop_add (de_var 8) de_int) da_nil))) (blkOk_by (own := [("place", 9)]) (N := ["metre", "onset", "slip", "depth", "middle", "away", "whole", "first", "last", "place"]) (sc := defScope s_u_near) (by decide +kernel)) (ng_name (by decide)) (fun _ _ _ _ _ => (pg_name (i := 9) sc_u_near.nd rfl (by first | exact Or.inl rfl | exact Or.inr rfl))) (fun _ _ _ _ _ => dts_nil) (fun _ _ _ _ _ => (de_call (ok_point_of T) (hr.mono (by decide)) T.m_point_of T.F_point_of.kp T.b_point_of takes0 (da_cons (de_var 9) (da_cons (de_var 3) da_nil)))))))))))))
theorem ok_u_allowed_rows (T : Tx K mg A) : FnG P w K mg base 4 A.f_u_allowed_rows A.d_u_allowed_rows ["metre", "onsets", "slip", "depth"] (M_u_allowed_rows A) :=
  fn_mkD (n := 6) (b := ds_u_allowed_rows A) rfl rfl T.F_u_allowed_rows sc_u_allowed_rows fun cdv AA outer s H E hr tk hp => by
    unfold ds_u_allowed_rows
    exact (dss_cons (ds_if (DW.pt (dw_or (dt_not (dt_truth (de_callB dc_isiT rfl T.z_isinstance (by decide +kernel) (da_cons (de_var 1) (da_cons (de_tup (da_cons (de_ty rfl T.z_list (by decide +kernel)) (da_cons (de_ty rfl T.z_tuple (by decide +kernel)) da_nil))) da_nil))))) (dw_or1 (dt_not (dt_chain dop_le dop_le pure_fI de_int (de_callB dc_len rfl T.z_len (by decide +kernel) (da_cons (de_var 1) da_nil)) (de_globI rfl (T.g_MOST_ONSETS).choose_spec)))))) (dss_one ds_never) dss_nil)
  (dss_cons (ds_for hp rfl (di_enum rfl T.z_enumerate (da_cons (de_var 1) da_nil)) (dg_tup rfl (dgs_cons (dg_name (i := 4) sc_u_allowed_rows.nd) (dgs_cons (dg_name (i := 5) sc_u_allowed_rows.nd) dgs_nil))) (dss_one (ds_if (DW.pt (dw_or (dt_not (dt_truth (de_call (ok_u_is_fraction T) (hr.mono (by decide)) T.m_u_is_fraction T.F_u_is_fraction.kp T.b_u_is_fraction tk (da_cons (de_var 5) da_nil)))) (dw_or1 (dt_cmp dop_gt (de_ix (de_var 5) de_int) (de_op dop_mul (de_fld T.cl_Metre T.n_Metre_pulses (de_var 0)) (de_ix (de_var 5) de_int)))))) (dss_one ds_never) dss_nil)))
  (dss_cons (ds_if (dt_not (dt_truth (de_call (ok_u_is_fraction T) (hr.mono (by decide)) T.m_u_is_fraction T.F_u_is_fraction.kp T.b_u_is_fraction tk (da_cons (de_var 2) da_nil)))) (dss_one ds_never) dss_nil)
  (dss_cons (ds_if (DW.pt (dw_or (dt_not (dt_truth (de_call (ok_is_number T) (hr.mono (by decide)) T.m_is_number T.F_is_number.kp T.b_is_number tk (da_cons (de_var 3) da_nil)))) (dw_or1 (dt_not (dt_chain dop_le dop_le pure_fI de_int (de_var 3) (de_globI rfl (T.g_MOST_DEPTH).choose_spec)))))) (dss_one ds_never) dss_nil)
  (dss_one (ds_ret (de_lcX (own := [("onset", 5)]) rfl sc_u_allowed_rows.nd tk rfl rfl (di_list (de_var 1)) (blkOk_by (own := [("onset", 5)]) (N := ["metre", "onsets", "slip", "depth", "index", "onset"]) (sc := defScope s_u_allowed_rows) (by decide +kernel)) (ng_name (by decide)) (fun _ _ _ _ _ => (pg_name (i := 5) sc_u_allowed_rows.nd rfl (by first | exact Or.inl rfl | exact Or.inr rfl))) (fun _ _ _ _ _ => dts_nil) (fun _ _ _ _ _ _ _ pa => (de_callP (ok_u_near T) (hr.mono (by decide)) T.m_u_near T.F_u_near.kp T.b_u_near pa (da_cons (de_var 0) (da_cons (de_var 5) (da_cons (de_var 2) (da_cons (de_var 3) da_nil)))))))))))))
theorem ok_is_hearing (T : Tx K mg A) : FnG P w K mg base 5 A.f_is_hearing A.d_is_hearing ["metre", "onsets", "slip", "depth", "thing"] (M_is_hearing A) :=
  fn_mkD (n := 9) (b := ds_is_hearing A) rfl rfl T.F_is_hearing sc_is_hearing fun cdv AA outer s H E hr tk hp => by
    unfold ds_is_hearing
    exact (dss_cons (ds_set (i := 5) sc_is_hearing.nd (de_call (ok_u_allowed_rows T) (hr.mono (by decide)) T.m_u_allowed_rows T.F_u_allowed_rows.kp T.b_u_allowed_rows tk (da_cons (de_var 0) (da_cons (de_var 1) (da_cons (de_var 2) (da_cons (de_var 3) da_nil))))))
  (dss_cons (ds_if (DW.pt (dw_or (dt_not (dt_truth (de_callB dc_isi rfl T.z_isinstance (by decide +kernel) (da_cons (de_var 4) (da_cons (de_ty rfl T.z_tuple (by decide +kernel)) da_nil))))) (dw_or1 (dt_cmp (dop_ne (hu64 hr)) (de_callB dc_len rfl T.z_len (by decide +kernel) (da_cons (de_var 4) da_nil)) (de_callB dc_len rfl T.z_len (by decide +kernel) (da_cons (de_var 5) da_nil)))))) (dss_one (ds_ret de_bl)) dss_nil)
  (dss_cons (ds_if (dt_not (dt_truth (de_callB (dc_all rfl) rfl T.z_all (by decide +kernel) (da_cons (de_lc (own := [("point", 6), ("row", 8)]) rfl sc_is_hearing.nd (di_zipM rfl T.z_zip (da_cons (de_var 4) (da_cons (de_var 5) da_nil))) (blkOk_by (own := [("point", 6), ("row", 8)]) (N := ["metre", "onsets", "slip", "depth", "thing", "rows", "point", "later", "row"]) (sc := defScope s_is_hearing) (by decide +kernel)) (ng_tup (ngs_cons (ng_name (by decide)) (ngs_cons (ng_name (by decide)) ngs_nil))) (fun _ _ _ _ _ => (pg_tup rfl (pgs_cons (pg_name (i := 6) sc_is_hearing.nd rfl (by first | exact Or.inl rfl | exact Or.inr rfl)) (pgs_cons (pg_name (i := 8) sc_is_hearing.nd rfl (by first | exact Or.inl rfl | exact Or.inr rfl)) pgs_nil)))) (fun _ _ _ _ _ => dts_nil) (fun _ _ _ _ _ => (de_andT (de_meth (de_var 0) T.cl_Metre T.me_Metre_is_point (ok_Metre_is_point T) (hr.mono (by decide)) T.b_Metre_is_point takes0 (da_cons (de_var 6) da_nil)) (de_one (de_cmp (dop_in (hu66 hr)) (de_var 6) (de_var 8)))))) da_nil)))) (dss_one (ds_ret de_bl)) dss_nil)
  (dss_one (ds_ret (de_callB (dc_all rfl) rfl T.z_all (by decide +kernel) (da_cons (de_lc (own := [("point", 6), ("later", 7)]) rfl sc_is_hearing.nd (di_zipM rfl T.z_zip (da_cons (de_var 4) (da_cons (de_slA (de_var 4) (dp_some de_int) dp_none) da_nil))) (blkOk_by (own := [("point", 6), ("later", 7)]) (N := ["metre", "onsets", "slip", "depth", "thing", "rows", "point", "later", "row"]) (sc := defScope s_is_hearing) (by decide +kernel)) (ng_tup (ngs_cons (ng_name (by decide)) (ngs_cons (ng_name (by decide)) ngs_nil))) (fun _ _ _ _ _ => (pg_tup rfl (pgs_cons (pg_name (i := 6) sc_is_hearing.nd rfl (by first | exact Or.inl rfl | exact Or.inr rfl)) (pgs_cons (pg_name (i := 7) sc_is_hearing.nd rfl (by first | exact Or.inl rfl | exact Or.inr rfl)) pgs_nil)))) (fun _ _ _ _ _ => dts_nil) (fun _ _ _ _ _ => (de_cmp (dop_ltP (hu66 hr)) (de_var 6) (de_var 7)))) da_nil)))))))
theorem ok_u_law_begin (T : Tx K mg A) : FnG P w K mg base 1 A.f_u_law_begin A.d_u_law_begin ["_law_cell", "_law_turn"] (M_u_law_begin A) :=
  fn_mkD (n := 2) (b := ds_u_law_begin A) rfl rfl T.F_u_law_begin sc_u_law_begin fun cdv AA outer s H E hr tk hp => by
    unfold ds_u_law_begin
    exact (dss_one (ds_ret (de_lst (da_cons (de_callB (dc_maxA rfl (hu66 hr)) rfl T.z_max (by decide +kernel) (da_cons de_int (da_cons (de_op dop_sub (de_var 0) (de_op dop_pow de_int de_int)) da_nil))) (da_cons (de_op dop_add (de_var 0) (de_op dop_mul de_int (de_var 1))) (da_cons de_int da_nil))))))
theorem ok_u_law_draw (T : Tx K mg A) : FnG P w K mg base 1 A.f_u_law_draw A.d_u_law_draw ["_law_state", "_law_size_here"] (M_u_law_draw A) :=
  fn_mkD (n := 3) (b := ds_u_law_draw A) rfl rfl T.F_u_law_draw sc_u_law_draw fun cdv AA outer s H E hr tk hp => by
    unfold ds_u_law_draw
    exact (dss_cons (ds_if (dt_cmp dop_gt (de_ix (de_var 0) de_int) de_int) (dss_cons (ds_set (i := 2) sc_u_law_draw.nd (de_op dop_mod (de_callTy dc_int rfl T.z_int (by decide +kernel) (da_cons (de_ix (de_var 0) de_int) da_nil)) (de_var 1)))
  (dss_cons (ds_asg (de_op dop_div (de_ix (de_var 0) de_int) (de_var 1)) (dg_sub (W := EW E) (de_var 0) de_int))
  (dss_one (ds_ret (de_var 2))))) dss_nil)
  (dss_cons (ds_asg (de_op dop_add (de_ix (de_var 0) de_int) de_int) (dg_sub (W := EW E) (de_var 0) de_int))
  (dss_cons (ds_set (i := 2) sc_u_law_draw.nd (de_op dop_add (de_op dop_mod (de_callTy dc_int rfl T.z_int (by decide +kernel) (da_cons (de_ix (de_var 0) de_int) da_nil)) de_int) (de_op dop_mul de_int (de_ix (de_var 0) de_int))))
  (dss_cons (ds_set (i := 2) sc_u_law_draw.nd (de_op dop_mul (de_var 2) (de_op dop_add (de_op dop_add (de_op dop_mod (de_callTy dc_int rfl T.z_int (by decide +kernel) (da_cons (de_ix (de_var 0) de_int) da_nil)) de_int) (de_op dop_mul (de_op dop_mul de_int (de_ix (de_var 0) de_int)) (de_ix (de_var 0) de_int))) de_int)))
  (dss_one (ds_ret (de_op dop_mod (de_callTy dc_int rfl T.z_int (by decide +kernel) (da_cons (de_op dop_div (de_op dop_mod (de_callTy dc_int rfl T.z_int (by decide +kernel) (da_cons (de_op dop_pow (de_var 2) de_int) da_nil)) de_int) de_int) da_nil)) (de_var 1))))))))
theorem ok_u_law_pick (T : Tx K mg A) : FnG P w K mg base 2 A.f_u_law_pick A.d_u_law_pick ["_law_state", "_law_items"] (M_u_law_pick A) :=
  fn_mkD (n := 2) (b := ds_u_law_pick A) rfl rfl T.F_u_law_pick sc_u_law_pick fun cdv AA outer s H E hr tk hp => by
    unfold ds_u_law_pick
    exact (dss_one (ds_ret (de_ix (de_var 1) (de_call (ok_u_law_draw T) (hr.mono (by decide)) T.m_u_law_draw T.F_u_law_draw.kp T.b_u_law_draw tk (da_cons (de_var 0) (da_cons (de_callB dc_len rfl T.z_len (by decide +kernel) (da_cons (de_var 1) da_nil)) da_nil))))))
theorem ok_u_law_tree (T : Tx K mg A) : FnG P w K mg base 3 A.f_u_law_tree A.d_u_law_tree ["_law_state"] (M_u_law_tree A) :=
  fn_mkD (n := 4) (b := ds_u_law_tree A) rfl rfl T.F_u_law_tree sc_u_law_tree fun cdv AA outer s H E hr tk hp => by
    unfold ds_u_law_tree
    exact (dss_cons (ds_asg (de_tup (da_cons (de_tup (da_cons de_int (da_cons de_int da_nil))) (da_cons (de_tup (da_cons de_int (da_cons de_int (da_cons de_int da_nil)))) da_nil))) (dg_tup rfl (dgs_cons (dg_name (i := 2) sc_u_law_tree.nd) (dgs_cons (dg_name (i := 3) sc_u_law_tree.nd) dgs_nil))))
  (dss_cons (ds_set (i := 1) sc_u_law_tree.nd (de_lst (da_cons de_int (da_cons (de_var 2) (da_cons (de_var 3) (da_cons (de_tup (da_cons (de_var 2) (da_cons (de_var 2) da_nil))) (da_cons (de_tup (da_cons (de_var 3) (da_cons (de_var 3) da_nil))) (da_cons (de_tup (da_cons (de_var 2) (da_cons (de_var 2) (da_cons (de_var 2) da_nil)))) (da_cons (de_tup (da_cons (de_var 2) (da_cons (de_var 3) da_nil))) (da_cons (de_tup (da_cons de_int (da_cons (de_var 2) da_nil))) (da_cons (de_tup (da_cons (de_var 2) (da_cons de_int (da_cons (de_var 2) da_nil)))) da_nil)))))))))))
  (dss_one (ds_ret (de_call (ok_u_law_pick T) (hr.mono (by decide)) T.m_u_law_pick T.F_u_law_pick.kp T.b_u_law_pick tk (da_cons (de_var 0) (da_cons (de_op dop_add (de_var 1) (de_lst (da_cons (de_tup (da_cons (de_var 3) (da_cons (de_var 2) (da_cons (de_var 2) da_nil)))) (da_cons (de_tup (da_cons (de_var 2) (da_cons (de_tup (da_cons de_int (da_cons (de_var 2) da_nil))) da_nil))) da_nil)))) da_nil)))))))
theorem ok_u_law_size (T : Tx K mg A) : ∀ n : Nat, FnG P w K mg base (0 + n) A.f_u_law_size A.d_u_law_size ["_law_tree_here"] (M_u_law_size A n)
  | 0 => fn_none
  | n + 1 => by
    have ih := ok_u_law_size T n
    refine fn_mkD (n := 2) (b := ds_u_law_size A (M_u_law_size A n)) rfl rfl T.F_u_law_size sc_u_law_size fun cdv AA outer s H E hr tk hp => ?_
    generalize M_u_law_size A n = go at ih ⊢
    unfold ds_u_law_size
    exact (dss_one (ds_ret (de_if (dt_cmp (dop_eq (hu64 hr)) (de_var 0) de_int) de_int (de_callB (dc_sum rfl) rfl T.z_sum (by decide +kernel) (da_cons (de_lc (own := [("_law_child", 1)]) rfl sc_u_law_size.nd (di_tup (de_var 0)) (blkOk_by (own := [("_law_child", 1)]) (N := ["_law_tree_here", "_law_child"]) (sc := defScope s_u_law_size) (by decide +kernel)) (ng_name (by decide)) (fun _ _ _ _ _ => (pg_name (i := 1) sc_u_law_size.nd rfl (by first | exact Or.inl rfl | exact Or.inr rfl))) (fun _ _ _ _ _ => dts_nil) (fun _ _ _ _ _ => (de_call (ih) hr T.m_u_law_size T.F_u_law_size.kp T.b_u_law_size takes0 (da_cons (de_var 1) da_nil)))) da_nil)))))
theorem ok_u_law_point (T : Tx K mg A) : FnG P w K mg base 1 A.f_u_law_point A.d_u_law_point ["_law_spot", "_law_depth"] (M_u_law_point A) :=
  fn_mkD (n := 5) (b := ds_u_law_point A) rfl rfl T.F_u_law_point sc_u_law_point fun cdv AA outer s H E hr tk hp => by
    unfold ds_u_law_point
    exact (dss_cons (ds_par (i := 3) (j := 4) rfl sc_u_law_point.nd (da_cons de_str (da_cons (de_var 0) da_nil)))
  (dss_cons (ds_for hp rfl (di_range1 rfl T.z_range (da_cons (de_var 1) da_nil)) (dg_name (i := 2) sc_u_law_point.nd) (dss_cons (ds_set (i := 3) sc_u_law_point.nd (de_op dop_add (de_ix de_str (de_op dop_mod (de_callTy dc_int rfl T.z_int (by decide +kernel) (da_cons (de_var 4) da_nil)) de_int)) (de_var 3)))
  (dss_one (ds_set (i := 4) sc_u_law_point.nd (de_op dop_div (de_var 4) de_int)))))
  (dss_cons (ds_while 10 hp (dt_cmp (dop_eq (hu64 hr)) (de_slA (de_var 3) (dp_some (de_neg de_int)) dp_none) de_str) (dss_one (ds_set (i := 3) sc_u_law_point.nd (de_slA (de_var 3) dp_none (dp_some (de_neg de_int))))))
  (dss_one (ds_ret (de_tup (da_cons (de_var 4) (da_cons (de_var 3) da_nil))))))))
theorem ok_u_law_near (T : Tx K mg A) : FnG P w K mg base 1 A.f_u_law_near A.d_u_law_near ["_law_size_here", "_law_onset", "_law_slip", "_law_depth"] (M_u_law_near A) :=
  fn_mkD (n := 9) (b := ds_u_law_near A) rfl rfl T.F_u_law_near sc_u_law_near fun cdv AA outer s H E hr tk hp => by
    unfold ds_u_law_near
    exact (dss_cons (ds_par (i := 6) (j := 7) rfl sc_u_law_near.nd (da_cons de_int (da_cons (de_lst da_nil) da_nil)))
  (dss_cons (ds_for hp rfl (di_range1 rfl T.z_range (da_cons (de_var 3) da_nil)) (dg_name (i := 4) sc_u_law_near.nd) (dss_one (ds_set (i := 6) sc_u_law_near.nd (de_op dop_mul de_int (de_var 6)))))
  (dss_cons (ds_for hp rfl (di_range1 rfl T.z_range (da_cons (de_op dop_mul (de_var 0) (de_var 6)) da_nil)) (dg_name (i := 5) sc_u_law_near.nd) (dss_cons (ds_set (i := 8) sc_u_law_near.nd (de_op dop_mul (de_callB dc_abs rfl T.z_abs (by decide +kernel) (da_cons (de_op dop_sub (de_op dop_mul (de_var 5) (de_ix (de_var 1) de_int)) (de_op dop_mul (de_ix (de_var 1) de_int) (de_var 6))) da_nil)) (de_ix (de_var 2) de_int)))
  (dss_one (ds_if (dt_cmp dop_le (de_var 8) (de_op dop_mul (de_op dop_mul (de_ix (de_var 2) de_int) (de_var 6)) (de_ix (de_var 1) de_int))) (dss_one (ds_expr (de_bm PySem.F.plainAttrs_list PySem.F.slot_list_append PySem.F.type_list_append dm_append (de_var 7) (da_cons (de_var 5) da_nil)))) dss_nil))))
  (dss_one (ds_ret (de_var 7))))))
theorem ok_u_law_onsets (T : Tx K mg A) : FnG P w K mg base 3 A.f_u_law_onsets A.d_u_law_onsets ["_law_state", "_law_size_here", "_law_count"] (M_u_law_onsets A) :=
  fn_mkD (n := 10) (b := ds_u_law_onsets A) rfl rfl T.F_u_law_onsets sc_u_law_onsets fun cdv AA outer s H E hr tk hp => by
    unfold ds_u_law_onsets
    exact (dss_cons (ds_set (i := 3) sc_u_law_onsets.nd (de_lst da_nil))
  (dss_cons (ds_for hp rfl (di_range1 rfl T.z_range (da_cons (de_op dop_add de_int (de_call (ok_u_law_draw T) (hr.mono (by decide)) T.m_u_law_draw T.F_u_law_draw.kp T.b_u_law_draw tk (da_cons (de_var 0) (da_cons (de_var 2) da_nil)))) da_nil)) (dg_name (i := 4) sc_u_law_onsets.nd) (dss_cons (ds_set (i := 7) sc_u_law_onsets.nd (de_call (ok_u_law_pick T) (hr.mono (by decide)) T.m_u_law_pick T.F_u_law_pick.kp T.b_u_law_pick tk (da_cons (de_var 0) (da_cons (de_lst (da_cons de_int (da_cons de_int (da_cons de_int (da_cons de_int (da_cons de_int (da_cons de_int da_nil))))))) da_nil))))
  (dss_one (ds_expr (de_bm PySem.F.plainAttrs_list PySem.F.slot_list_append PySem.F.type_list_append dm_append (de_var 3) (da_cons (de_tup (da_cons (de_call (ok_u_law_draw T) (hr.mono (by decide)) T.m_u_law_draw T.F_u_law_draw.kp T.b_u_law_draw tk (da_cons (de_var 0) (da_cons (de_op dop_add (de_op dop_mul (de_var 1) (de_var 7)) de_int) da_nil))) (da_cons (de_var 7) da_nil))) da_nil))))))
  (dss_cons (ds_set (i := 5) sc_u_law_onsets.nd (de_call (ok_u_law_pick T) (hr.mono (by decide)) T.m_u_law_pick T.F_u_law_pick.kp T.b_u_law_pick tk (da_cons (de_var 0) (da_cons (de_lst (da_cons (de_tup (da_cons de_int (da_cons de_int da_nil))) (da_cons (de_tup (da_cons de_int (da_cons de_int da_nil))) (da_cons (de_tup (da_cons de_int (da_cons de_int da_nil))) (da_cons (de_tup (da_cons de_int (da_cons de_int da_nil))) (da_cons (de_tup (da_cons de_int (da_cons de_int da_nil))) (da_cons (de_tup (da_cons de_int (da_cons de_int da_nil))) (da_cons (de_tup (da_cons de_int (da_cons de_int da_nil))) da_nil)))))))) da_nil))))
  (dss_cons (ds_set (i := 6) sc_u_law_onsets.nd (de_callB (dc_sortL (hu66 hr)) rfl T.z_sorted (by decide +kernel) (da_cons (de_lc (own := [("_law_k", 4), ("_law_one", 9)]) rfl sc_u_law_onsets.nd (di_enum rfl T.z_enumerate (da_cons (de_var 3) da_nil)) (blkOk_by (own := [("_law_k", 4), ("_law_one", 9)]) (N := ["_law_state", "_law_size_here", "_law_count", "_law_found", "_law_k", "_law_slip", "_law_keys", "_law_below", "_law_key", "_law_one"]) (sc := defScope s_u_law_onsets) (by decide +kernel)) (ng_tup (ngs_cons (ng_name (by decide)) (ngs_cons (ng_name (by decide)) ngs_nil))) (fun _ _ _ _ _ => (pg_tup rfl (pgs_cons (pg_name (i := 4) sc_u_law_onsets.nd rfl (by first | exact Or.inl rfl | exact Or.inr rfl)) (pgs_cons (pg_name (i := 9) sc_u_law_onsets.nd rfl (by first | exact Or.inl rfl | exact Or.inr rfl)) pgs_nil)))) (fun _ _ _ _ _ => dts_nil) (fun _ _ _ _ _ => (de_tup (da_cons (de_op dop_div (de_op dop_mul (de_op dop_mul de_int de_int) (de_ix (de_var 9) de_int)) (de_ix (de_var 9) de_int)) (da_cons (de_var 4) da_nil))))) da_nil)))
  (dss_cons (ds_if (dt_cmp (dop_eq (hu64 hr)) (de_call (ok_u_law_draw T) (hr.mono (by decide)) T.m_u_law_draw T.F_u_law_draw.kp T.b_u_law_draw tk (da_cons (de_var 0) (da_cons de_int da_nil))) de_int) (dss_one (ds_ret (de_tup (da_cons (de_var 3) (da_cons (de_var 5) da_nil))))) dss_nil)
  (dss_one (ds_ret (de_tup (da_cons (de_lc (own := [("_law_key", 8)]) rfl sc_u_law_onsets.nd (di_list (de_var 6)) (blkOk_by (own := [("_law_key", 8)]) (N := ["_law_state", "_law_size_here", "_law_count", "_law_found", "_law_k", "_law_slip", "_law_keys", "_law_below", "_law_key", "_law_one"]) (sc := defScope s_u_law_onsets) (by decide +kernel)) (ng_name (by decide)) (fun _ _ _ _ _ => (pg_name (i := 8) sc_u_law_onsets.nd rfl (by first | exact Or.inl rfl | exact Or.inr rfl))) (fun _ _ _ _ _ => dts_nil) (fun _ _ _ _ _ => (de_ix (de_var 3) (de_ix (de_var 8) de_int)))) (da_cons (de_var 5) da_nil))))))))))
theorem ok_u_law_row (T : Tx K mg A) : FnG P w K mg base 3 A.f_u_law_row A.d_u_law_row ["_law_state", "_law_layers", "_law_size_here", "_law_depth"] (M_u_law_row A) :=
  fn_mkD (n := 9) (b := ds_u_law_row A) rfl rfl T.F_u_law_row sc_u_law_row fun cdv AA outer s H E hr tk hp => by
    unfold ds_u_law_row
    exact (dss_cons (ds_set (i := 4) sc_u_law_row.nd (de_lst da_nil))
  (dss_cons (ds_for hp rfl (di_list (de_var 1)) (dg_name (i := 5) sc_u_law_row.nd) (dss_cons (ds_set (i := 6) sc_u_law_row.nd (de_call (ok_u_law_draw T) (hr.mono (by decide)) T.m_u_law_draw T.F_u_law_draw.kp T.b_u_law_draw tk (da_cons (de_var 0) (da_cons (de_var 2) da_nil))))
  (dss_cons (ds_if (DW.pt (dw_and (dt_cmp (dop_ne (hu64 hr)) (de_var 5) (de_lst da_nil)) (dw_and1 (dt_cmp dop_gt (de_call (ok_u_law_draw T) (hr.mono (by decide)) T.m_u_law_draw T.F_u_law_draw.kp T.b_u_law_draw tk (da_cons (de_var 0) (da_cons de_int da_nil))) de_int)))) (dss_one (ds_set (i := 6) sc_u_law_row.nd (de_call (ok_u_law_pick T) (hr.mono (by decide)) T.m_u_law_pick T.F_u_law_pick.kp T.b_u_law_pick tk (da_cons (de_var 0) (da_cons (de_var 5) da_nil))))) dss_nil)
  (dss_one (ds_expr (de_bm PySem.F.plainAttrs_list PySem.F.slot_list_append PySem.F.type_list_append dm_append (de_var 4) (da_cons (de_call (ok_u_law_point T) (hr.mono (by decide)) T.m_u_law_point T.F_u_law_point.kp T.b_u_law_point tk (da_cons (de_op dop_add (de_var 6) (de_call (ok_u_law_pick T) (hr.mono (by decide)) T.m_u_law_pick T.F_u_law_pick.kp T.b_u_law_pick tk (da_cons (de_var 0) (da_cons (de_lst (da_cons de_int (da_cons de_int (da_cons de_int (da_cons de_int (da_cons de_int (da_cons de_int da_nil))))))) da_nil)))) (da_cons (de_var 3) da_nil))) da_nil)))))))
  (dss_cons (ds_par (i := 7) (j := 8) rfl sc_u_law_row.nd (da_cons (de_call (ok_u_law_draw T) (hr.mono (by decide)) T.m_u_law_draw T.F_u_law_draw.kp T.b_u_law_draw tk (da_cons (de_var 0) (da_cons de_int da_nil))) (da_cons (de_call (ok_u_law_draw T) (hr.mono (by decide)) T.m_u_law_draw T.F_u_law_draw.kp T.b_u_law_draw tk (da_cons (de_var 0) (da_cons (de_callB dc_len rfl T.z_len (by decide +kernel) (da_cons (de_var 4) da_nil)) da_nil))) da_nil)))
  (dss_cons (ds_if (dt_cmp (dop_eq (hu64 hr)) (de_var 7) de_int) (dss_one (ds_ret (de_call (ok_u_law_pick T) (hr.mono (by decide)) T.m_u_law_pick T.F_u_law_pick.kp T.b_u_law_pick tk (da_cons (de_var 0) (da_cons (de_lst (da_cons de_non (da_cons (de_tup da_nil) (da_cons (de_callTy dc_list rfl T.z_list (by decide +kernel) (da_cons (de_var 4) da_nil)) (da_cons (de_callTy dc_tuple rfl T.z_tuple (by decide +kernel) (da_cons (de_slA (de_var 4) dp_none (dp_some (de_neg de_int))) da_nil)) (da_cons (de_callTy dc_tuple rfl T.z_tuple (by decide +kernel) (da_cons (de_op dop_add (de_var 4) (de_slA (de_var 4) (dp_some (de_neg de_int)) dp_none)) da_nil)) (da_cons de_str (da_cons de_int da_nil)))))))) da_nil))))) dss_nil)
  (dss_cons (ds_if (dt_cmp (dop_eq (hu64 hr)) (de_var 7) de_int) (dss_one (ds_asg (de_call (ok_u_law_pick T) (hr.mono (by decide)) T.m_u_law_pick T.F_u_law_pick.kp T.b_u_law_pick tk (da_cons (de_var 0) (da_cons (de_lst (da_cons de_non (da_cons (de_tup (da_cons de_int (da_cons de_str da_nil))) (da_cons (de_lst (da_cons de_int (da_cons de_str da_nil))) (da_cons (de_tup (da_cons de_bl (da_cons de_str da_nil))) (da_cons (de_tup (da_cons de_int (da_cons de_str (da_cons de_int da_nil)))) (da_cons (de_tup (da_cons (de_neg de_int) (da_cons de_str da_nil))) (da_cons (de_tup (da_cons de_int (da_cons de_str da_nil))) (da_cons de_int da_nil))))))))) da_nil))) (dg_sub (W := EW E) (de_var 4) (de_var 8)))) dss_nil)
  (dss_cons (ds_if (dt_cmp (dop_eq (hu64 hr)) (de_var 7) de_int) (dss_one (ds_set (i := 4) sc_u_law_row.nd (de_callB (dc_sortL (hu66 hr)) rfl T.z_sorted (by decide +kernel) (da_cons (de_var 4) da_nil)))) dss_nil)
  (dss_cons (ds_if (DW.pt (dw_and (dt_cmp (dop_eq (hu64 hr)) (de_var 7) de_int) (dw_and1 (dt_cmp dop_gt (de_var 8) de_int)))) (dss_one (ds_asg (de_ix (de_var 4) (de_op dop_sub (de_var 8) de_int)) (dg_sub (W := EW E) (de_var 4) (de_var 8)))) dss_nil)
  (dss_one (ds_ret (de_if (dt_cmp dop_gt (de_var 7) de_int) (de_callTy dc_tuple rfl T.z_tuple (by decide +kernel) (da_cons (de_callB (dc_sortL (hu66 hr)) rfl T.z_sorted (by decide +kernel) (da_cons (de_var 4) da_nil)) da_nil)) (de_callTy dc_tuple rfl T.z_tuple (by decide +kernel) (da_cons (de_var 4) da_nil))))))))))))
theorem ok_u_law_right (T : Tx K mg A) : FnG P w K mg base 2 A.f_u_law_right A.d_u_law_right ["_law_layers", "_law_row_here", "_law_depth"] (M_u_law_right A) :=
  fn_mkD (n := 9) (b := ds_u_law_right A) rfl rfl T.F_u_law_right sc_u_law_right fun cdv AA outer s H E hr tk hp => by
    unfold ds_u_law_right
    exact (dss_cons (ds_if (DW.pt (dw_or (dt_not (dt_truth (de_callB dc_isi rfl T.z_isinstance (by decide +kernel) (da_cons (de_var 1) (da_cons (de_ty rfl T.z_tuple (by decide +kernel)) da_nil))))) (dw_or1 (dt_cmp (dop_ne (hu64 hr)) (de_callB dc_len rfl T.z_len (by decide +kernel) (da_cons (de_var 1) da_nil)) (de_callB dc_len rfl T.z_len (by decide +kernel) (da_cons (de_var 0) da_nil)))))) (dss_one (ds_ret de_bl)) dss_nil)
  (dss_cons (ds_set (i := 3) sc_u_law_right.nd (de_lst da_nil))
  (dss_cons (ds_for hp rfl (di_zipM rfl T.z_zip (da_cons (de_var 0) (da_cons (de_var 1) da_nil))) (dg_tup rfl (dgs_cons (dg_name (i := 5) sc_u_law_right.nd) (dgs_cons (dg_name (i := 6) sc_u_law_right.nd) dgs_nil))) (dss_cons (ds_setLc (i := 7) (own := [("_law_spot", 8)]) rfl sc_u_law_right.nd (di_list (de_var 5)) (blkOk_by (own := [("_law_spot", 8)]) (N := ["_law_layers", "_law_row_here", "_law_depth", "_law_spots", "_law_rising", "_law_layer", "_law_point_here", "_law_some", "_law_spot"]) (sc := defScope s_u_law_right) (by decide +kernel)) (ng_name (by decide)) (fun _ _ _ _ _ => (pg_name (i := 8) sc_u_law_right.nd rfl (by first | exact Or.inl rfl | exact Or.inr rfl))) (fun _ _ _ _ _ => (dts_one (dt_cmp (dop_eq (hu64 hr)) (de_callB (dc_repr (hgd hr) (hu66 hr)) rfl T.z_repr (by decide +kernel) (da_cons (de_call (ok_u_law_point T) (hr.mono (by decide)) T.m_u_law_point T.F_u_law_point.kp T.b_u_law_point takes0 (da_cons (de_var 8) (da_cons (de_var 2) da_nil))) da_nil)) (de_callB (dc_repr (hgd hr) (hu66 hr)) rfl T.z_repr (by decide +kernel) (da_cons (de_var 6) da_nil))))) (fun _ _ _ _ _ => (de_var 8)) (sw_true rfl rfl rfl (by decide +kernel)))
  (dss_one (ds_expr (de_bm PySem.F.plainAttrs_list PySem.F.slot_list_extend PySem.F.type_list_extend dm_extend (de_var 3) (da_cons (de_var 7) da_nil))))))
  (dss_cons (ds_set (i := 4) sc_u_law_right.nd (de_callB (dc_sortK rfl) rfl T.z_sorted (by decide +kernel) (da_cons (de_callTy (dc_dictP rfl) rfl T.z_dict (by decide +kernel) (da_cons (de_lc (own := [("_law_spot", 8)]) rfl sc_u_law_right.nd (di_list (de_var 3)) (blkOk_by (own := [("_law_spot", 8)]) (N := ["_law_layers", "_law_row_here", "_law_depth", "_law_spots", "_law_rising", "_law_layer", "_law_point_here", "_law_some", "_law_spot"]) (sc := defScope s_u_law_right) (by decide +kernel)) (ng_name (by decide)) (fun _ _ _ _ _ => (pg_name (i := 8) sc_u_law_right.nd rfl (by first | exact Or.inl rfl | exact Or.inr rfl))) (fun _ _ _ _ _ => dts_nil) (fun _ _ _ _ _ => (de_tup (da_cons (de_var 8) (da_cons de_bl da_nil))))) da_nil)) da_nil)))
  (dss_one (ds_ret (de_andT (de_cmp (dop_eq (hu64 hr)) (de_callB dc_len rfl T.z_len (by decide +kernel) (da_cons (de_var 3) da_nil)) (de_callB dc_len rfl T.z_len (by decide +kernel) (da_cons (de_var 0) da_nil))) (de_one (de_cmp (dop_eq (hu64 hr)) (de_var 3) (de_var 4))))))))))
theorem ok_u_law_told (T : Tx K mg A) : FnG P w K mg base 6 A.f_u_law_told A.d_u_law_told ["_law_metre", "_law_asked", "_law_row_here"] (M_u_law_told A) :=
  fn_mkD (n := 8) (b := ds_u_law_told A) rfl rfl T.F_u_law_told sc_u_law_told fun cdv AA outer s H E hr tk hp => by
    unfold ds_u_law_told
    exact (dss_cons (ds_asg (de_var 1) (dg_tup rfl (dgs_cons (dg_name (i := 5) sc_u_law_told.nd) (dgs_cons (dg_name (i := 6) sc_u_law_told.nd) (dgs_cons (dg_name (i := 7) sc_u_law_told.nd) dgs_nil)))))
  (dss_cons (ds_set (i := 3) sc_u_law_told.nd de_non)
  (dss_cons (ds_tryN (L := [A.c_TooMany]) (f := "most") (k := 40) (i := 4) (j := 3) rfl rfl sc_u_law_told.nd (by decide) (all_cons T.xx_TooMany_TooMany all_nil) (all_cons T.xf_TooMany_most all_nil) ⟨rfl, by decide, .inl T.xm_TooMany⟩ (fun W pn xe tk hp => (dss_one (ds_set (i := 3) sc_u_law_told.nd (de_call (ok_is_hearing T) (hr.mono (by decide)) T.m_is_hearing T.F_is_hearing.kp T.b_is_hearing tk (da_cons (de_var 0) (da_cons (de_var 5) (da_cons (de_var 6) (da_cons (de_var 7) (da_cons (de_var 2) da_nil))))))))) (fun _ _ => ⟨_, pe_int⟩) (fun _ _ => pe_int) (fun _ _ => pe_non) (fun _ _ => pg_name (i := 3) sc_u_law_told.nd rfl (Or.inl rfl)) (Or.inl rfl))
  (dss_one (ds_ret (de_var 3))))))
theorem ok_law (T : Tx K mg A) : FnG P w K mg base 11 A.f_law A.d_law ["_law_script"] (M_law A) :=
  fn_mkD (n := 18) (b := ds_law A) rfl rfl T.F_law sc_law fun cdv AA outer s H E hr tk hp => by
    unfold ds_law
    exact (dss_cons (ds_for hp rfl (di_enum rfl T.z_enumerate (da_cons (de_slA (de_orT (de_var 0) (de_one (de_lst (da_cons de_int da_nil)))) dp_none (dp_some de_int)) da_nil)) (dg_tup rfl (dgs_cons (dg_name (i := 1) sc_law.nd) (dgs_cons (dg_name (i := 2) sc_law.nd) dgs_nil))) (dss_cons (ds_set (i := 3) sc_law.nd (de_call (ok_u_law_begin T) (hr.mono (by decide)) T.m_u_law_begin T.F_u_law_begin.kp T.b_u_law_begin tk (da_cons (de_var 2) (da_cons (de_var 1) da_nil))))
  (dss_cons (ds_set (i := 4) sc_law.nd (de_call (ok_u_law_tree T) (hr.mono (by decide)) T.m_u_law_tree T.F_u_law_tree.kp T.b_u_law_tree tk (da_cons (de_var 3) da_nil)))
  (dss_cons (ds_asg (de_tup (da_cons (de_make T.mk_Metre (ok_Metre_uu_init_ T) (hr.mono (by decide)) T.mc_Metre T.b_Metre_uu_init_ tk (da_cons (de_var 4) da_nil)) (da_cons (de_call (ok_u_law_size T 4) (hr.mono (by decide)) T.m_u_law_size T.F_u_law_size.kp T.b_u_law_size tk (da_cons (de_var 4) da_nil)) da_nil))) (dg_tup rfl (dgs_cons (dg_name (i := 9) sc_law.nd) (dgs_cons (dg_name (i := 10) sc_law.nd) dgs_nil))))
  (dss_cons (ds_set (i := 5) sc_law.nd (de_call (ok_u_law_draw T) (hr.mono (by decide)) T.m_u_law_draw T.F_u_law_draw.kp T.b_u_law_draw tk (da_cons (de_var 3) (da_cons de_int da_nil))))
  (dss_cons (ds_asg (de_call (ok_u_law_onsets T) (hr.mono (by decide)) T.m_u_law_onsets T.F_u_law_onsets.kp T.b_u_law_onsets tk (da_cons (de_var 3) (da_cons (de_var 10) (da_cons de_int da_nil)))) (dg_tup rfl (dgs_cons (dg_name (i := 11) sc_law.nd) (dgs_cons (dg_name (i := 12) sc_law.nd) dgs_nil))))
  (dss_cons (ds_setLc (i := 6) (own := [("_law_onset", 16)]) rfl sc_law.nd (di_list (de_var 11)) (blkOk_by (own := [("_law_onset", 16)]) (N := ["_law_script", "_law_turn", "_law_cell", "_law_state", "_law_tree_here", "_law_depth", "_law_layers", "_law_is_wide", "_law_k", "_law_metre", "_law_size_here", "_law_onsets_here", "_law_slip", "_law_row_here", "_law_due", "_law_found", "_law_onset", "_law_layer"]) (sc := defScope s_law) (by decide +kernel)) (ng_name (by decide)) (fun _ _ _ _ _ => (pg_name (i := 16) sc_law.nd rfl (by first | exact Or.inl rfl | exact Or.inr rfl))) (fun _ _ _ _ _ => dts_nil) (fun _ _ _ _ _ => (de_call (ok_u_law_near T) (hr.mono (by decide)) T.m_u_law_near T.F_u_law_near.kp T.b_u_law_near takes0 (da_cons (de_var 10) (da_cons (de_var 16) (da_cons (de_var 12) (da_cons (de_var 5) da_nil)))))) (sw_true rfl rfl rfl (by decide +kernel)))
  (dss_cons (ds_set (i := 7) sc_law.nd (de_cmp dop_gt (de_callB (dc_maxA rfl (hu66 hr)) rfl T.z_max (by decide +kernel) (da_cons (de_lc (own := [("_law_layer", 17)]) rfl sc_law.nd (di_list (de_var 6)) (blkOk_by (own := [("_law_layer", 17)]) (N := ["_law_script", "_law_turn", "_law_cell", "_law_state", "_law_tree_here", "_law_depth", "_law_layers", "_law_is_wide", "_law_k", "_law_metre", "_law_size_here", "_law_onsets_here", "_law_slip", "_law_row_here", "_law_due", "_law_found", "_law_onset", "_law_layer"]) (sc := defScope s_law) (by decide +kernel)) (ng_name (by decide)) (fun _ _ _ _ _ => (pg_name (i := 17) sc_law.nd rfl (by first | exact Or.inl rfl | exact Or.inr rfl))) (fun _ _ _ _ _ => dts_nil) (fun _ _ _ _ _ => (de_callB dc_len rfl T.z_len (by decide +kernel) (da_cons (de_var 17) da_nil)))) da_nil)) de_int))
  (dss_one (ds_for hp rfl (di_range1 rfl T.z_range (da_cons de_int da_nil)) (dg_name (i := 8) sc_law.nd) (dss_cons (ds_set (i := 13) sc_law.nd (de_call (ok_u_law_row T) (hr.mono (by decide)) T.m_u_law_row T.F_u_law_row.kp T.b_u_law_row tk (da_cons (de_var 3) (da_cons (de_var 6) (da_cons (de_var 10) (da_cons (de_var 5) da_nil))))))
  (dss_cons (ds_set (i := 14) sc_law.nd (de_if (dt_truth (de_var 7)) de_non (de_call (ok_u_law_right T) (hr.mono (by decide)) T.m_u_law_right T.F_u_law_right.kp T.b_u_law_right tk (da_cons (de_var 6) (da_cons (de_var 13) (da_cons (de_var 5) da_nil))))))
  (dss_cons (ds_set (i := 15) sc_law.nd (de_call (ok_u_law_told T) (hr.mono (by decide)) T.m_u_law_told T.F_u_law_told.kp T.b_u_law_told tk (da_cons (de_var 9) (da_cons (de_tup (da_cons (de_var 11) (da_cons (de_var 12) (da_cons (de_var 5) da_nil)))) (da_cons (de_var 13) da_nil)))))
  (dss_one (ds_if (DW.pt (dw_or (dt_cmp (dop_ne (hu64 hr)) (de_var 15) (de_var 14)) (dw_or1 (dt_cmp (dop_ne (hu64 hr)) (de_callB dc_isi rfl T.z_isinstance (by decide +kernel) (da_cons (de_var 15) (da_cons (de_ty rfl T.z_bool (by decide +kernel)) da_nil))) (de_callB dc_isi rfl T.z_isinstance (by decide +kernel) (da_cons (de_var 14) (da_cons (de_ty rfl T.z_bool (by decide +kernel)) da_nil))))))) (dss_one (ds_ret de_bl)) dss_nil)))))))))))))))
  (dss_one (ds_ret de_bl)))
end
end My

namespace My
open PySem L2 PyProof.Rows DV
@[simp] theorem atI3_0 {α : Type} {a b c : α} : atI [a, b, c] 0 = some a := rfl
@[simp] theorem atI3_1 {α : Type} {a b c : α} : atI [a, b, c] 1 = some b := rfl
@[simp] theorem atI3_2 {α : Type} {a b c : α} : atI [a, b, c] 2 = some c := rfl
@[simp] theorem ixN3_0 : ixN 3 0 = some 0 := rfl
@[simp] theorem ixN3_2 : ixN 3 2 = some 2 := rfl
theorem draw_pos (A : Ax) {s : Sto} {n : Nat} {a b c m : Int} (hs : lstAt s n = some [.int a, .int b, .int c]) (ha : 0 < a) (hm : 0 < m) (hm2 : m < 1073741824) :
    M_u_law_draw A [.obj n, .int m] s = some (.ok (.int (a.fmod m)), s.set n (.lst [.int (a.fdiv m), .int b, .int c])) := by
  have h1 : modOk a m = true := by unfold modOk; simp; omega
  have h2 : divOk a m = true := by unfold divOk; simp; omega
  simp [M_u_law_draw, ds_u_law_draw, startD, hs, fGt, fMod, fDiv, ha, h1, h2]
theorem fm {b : Int} (a : Int) (h : 0 < b) : 0 ≤ a.fmod b ∧ a.fmod b < b := by
  rw [Int.fmod_eq_emod_of_nonneg _ (Int.le_of_lt h)]
  exact ⟨Int.emod_nonneg _ (by omega), Int.emod_lt_of_pos _ h⟩
theorem pow3 {v : Int} (h : v.natAbs < 2 ^ 200) : powOk v 3 = true := by
  have q : Builtin.Int.intBits v ≤ 200 := by
    unfold Builtin.Int.intBits
    split
    · decide
    · rename_i hz
      have hv : v.natAbs ≠ 0 := fun e => hz (by simpa using e)
      exact (Nat.log2_lt hv).mpr h
  unfold powOk
  simp only [Bool.and_eq_true, decide_eq_true_eq]
  refine ⟨by decide, ?_⟩
  have e : (3 : Int).toNat = 3 := rfl
  rw [e]
  exact Nat.le_trans (Nat.mul_le_mul_right 3 q) (by decide)
def drawI (b c m : Int) : Int :=
  ((((b.fmod 2147483629 + 104729 * c) * (b.fmod 2147483587 + 7919 * c * c + 11)) ^ 3).fmod 2147483647).fdiv 11 |>.fmod m
theorem draw_neg (A : Ax) {s : Sto} {n : Nat} {a b c m : Int} (hs : lstAt s n = some [.int a, .int b, .int c]) (ha : ¬ 0 < a) (hc : 0 ≤ c ∧ c < 100000) (hm : 0 < m) :
    M_u_law_draw A [.obj n, .int m] s = some (.ok (.int (drawI b (c + 1) m)), s.set n (.lst [.int a, .int b, .int (c + 1)])) := by
  have h1 : ∀ i j : Int, j ≠ 0 → modOk i j = true := fun i j h => by unfold modOk; simpa using h
  have h1' : ∀ i : Int, modOk i m = true := fun i => h1 i m (by omega)
  have h2 : ∀ i : Int, divOk i 11 = true := fun i => by unfold divOk; simp
  have h3 := lstAt_set (ys := [.int a, .int b, .int (c + 1)]) hs
  have m1 : mulOk 104729 (c + 1) = true := by unfold mulOk; simp
  have m2 : mulOk 7919 (c + 1) = true := by unfold mulOk; simp
  have m3 : mulOk (7919 * (c + 1)) (c + 1) = true := by
    have : (c + 1).natAbs < 2 ^ 64 := by omega
    unfold mulOk; simp [this]
  have b1 := fm b (show (0 : Int) < 2147483629 by decide)
  have b2 := fm b (show (0 : Int) < 2147483587 by decide)
  have m4 : ∀ v, mulOk (b.fmod 2147483629 + 104729 * (c + 1)) v = true := fun v => by
    have : (b.fmod 2147483629 + 104729 * (c + 1)).natAbs < 2 ^ 64 := by omega
    unfold mulOk; simp [this]
  have sq : 0 ≤ 7919 * (c + 1) * (c + 1) ∧ 7919 * (c + 1) * (c + 1) ≤ 7919 * 100000 * 100000 := by
    have q1 : 7919 * (c + 1) ≤ 7919 * 100000 := by omega
    have q2 : 0 ≤ 7919 * (c + 1) := by omega
    exact ⟨Int.mul_nonneg q2 (by omega), Int.mul_le_mul q1 (by omega) (by omega) (by decide)⟩
  have p3 : powOk ((b.fmod 2147483629 + 104729 * (c + 1)) * (b.fmod 2147483587 + 7919 * (c + 1) * (c + 1) + 11)) 3 = true := pow3 (by
    rw [Int.natAbs_mul]
    have q1 : (b.fmod 2147483629 + 104729 * (c + 1)).natAbs < 2 ^ 64 := by omega
    have q2 : (b.fmod 2147483587 + 7919 * (c + 1) * (c + 1) + 11).natAbs < 2 ^ 64 := by omega
    exact Nat.lt_trans (Nat.mul_lt_mul'' q1 q2) (by decide))
  simp [M_u_law_draw, ds_u_law_draw, startD, hs, fGt, fMod, fDiv, fAdd, fAddI, orOp, fMul, fMulI, fPow, ha, h1, h1', h2, h3, m1, m2, m3, m4, p3, drawI]
/-- k more draws from the state at n -/
def Rnd (s : Sto) (n k : Nat) : Prop := ∃ a b c : Int, lstAt s n = some [.int a, .int b, .int c] ∧ 0 ≤ c ∧ c + k ≤ 100000
/-- all but n stands -/
def Sm (n : Nat) (s s' : Sto) : Prop := s.length ≤ s'.length ∧ ∀ i, i < s.length → i ≠ n → s'[i]? = s[i]?
theorem Sm.refl (n : Nat) (s : Sto) : Sm n s s := ⟨Nat.le_refl _, fun _ _ _ => rfl⟩
theorem Sm.trans {n : Nat} {s s' s'' : Sto} (a : Sm n s s') (b : Sm n s' s'') : Sm n s s'' := ⟨Nat.le_trans a.1 b.1, fun i h e => (b.2 i (Nat.lt_of_lt_of_le h a.1) e).trans (a.2 i h e)⟩
theorem Sm.set {n : Nat} {s : Sto} {o : DO} : Sm n s (s.set n o) := ⟨by rw [List.length_set]; exact Nat.le_refl _, fun i _ e => List.getElem?_set_ne (fun z => e z.symm)⟩
theorem Sm.app {n : Nat} {s : Sto} {l : List DO} : Sm n s (s ++ l) := ⟨by simp, fun i h _ => List.getElem?_append_left h⟩
theorem Sm.lst {n m : Nat} {s s' : Sto} {xs : List D} (h : Sm n s s') (e : lstAt s m = some xs) (ne : m ≠ n) : lstAt s' m = some xs := by
  have q := lstAt_eq e
  unfold lstAt
  rw [h.2 m (List.getElem?_eq_some_iff.mp q).1 ne, q]
theorem Rnd.mono {s : Sto} {n j k : Nat} (h : Rnd s n k) (l : j ≤ k) : Rnd s n j := by
  obtain ⟨a, b, c, e, h1, h2⟩ := h
  exact ⟨a, b, c, e, h1, by omega⟩
theorem Rnd.app {s : Sto} {n k : Nat} {l : List DO} (h : Rnd s n k) : Rnd (s ++ l) n k := by
  obtain ⟨a, b, c, e, h1, h2⟩ := h
  refine ⟨a, b, c, ?_, h1, h2⟩
  have q := lstAt_eq e
  unfold lstAt
  rw [List.getElem?_append_left (List.getElem?_eq_some_iff.mp q).1, q]
theorem draw (A : Ax) {s : Sto} {n k : Nat} {m : Int} (h : Rnd s n (k + 1)) (hm : 0 < m) (hm2 : m < 1073741824) : ∃ v s', M_u_law_draw A [.obj n, .int m] s = some (.ok (.int v), s') ∧ 0 ≤ v ∧ v < m ∧ Rnd s' n k ∧ Sm n s s' := by
  obtain ⟨a, b, c, hs, h1, h2⟩ := h
  by_cases ha : 0 < a
  · exact ⟨_, _, draw_pos A hs ha hm hm2, (fm a hm).1, (fm a hm).2, ⟨_, _, _, lstAt_set hs, h1, by omega⟩, Sm.set⟩
  · exact ⟨_, _, draw_neg A hs ha ⟨h1, by omega⟩ hm, (fm _ hm).1, (fm _ hm).2, ⟨_, _, _, lstAt_set hs, by omega, by omega⟩, Sm.set⟩
theorem pick (A : Ax) {s : Sto} {n j k : Nat} {xs : List D} (h : Rnd s n (k + 1)) (e : lstAt s j = some xs) (ne : j ≠ n) (h0 : 0 < xs.length) (h1 : xs.length < 1000000) : ∃ d s', M_u_law_pick A [.obj n, .obj j] s = some (.ok d, s') ∧ d ∈ xs ∧ Rnd s' n k ∧ Sm n s s' := by
  obtain ⟨v, s', hd, v0, v1, r, sm⟩ := draw A h (m := xs.length) (by omega) (by omega)
  have e' := sm.lst e ne
  have hv : v.toNat < xs.length := by omega
  have ha : atI xs v = some (xs[v.toNat]) := by
    unfold atI ixN
    rw [if_pos v0, if_pos v1]
    exact List.getElem?_eq_getElem hv
  refine ⟨xs[v.toNat], s', ?_, List.getElem_mem hv, r, sm⟩
  simp [M_u_law_pick, ds_u_law_pick, startD, e, hd, e', ha]
end My

namespace My
open PySem L2 PyProof.Rows DV
/-! ### trees -/
inductive Tr where
  | lf | two (a b : Tr) | tri (a b c : Tr)
namespace Tr
def d : Tr → D
  | lf => .int 1
  | two a b => .tup [a.d, b.d]
  | tri a b c => .tup [a.d, b.d, c.d]
def p : Tr → PyData
  | lf => .int 1
  | two a b => .tuple [a.p, b.p]
  | tri a b c => .tuple [a.p, b.p, c.p]
def sz : Tr → Nat
  | lf => 1
  | two a b => a.sz + b.sz
  | tri a b c => a.sz + b.sz + c.sz
def ht : Tr → Nat
  | lf => 0
  | two a b => max a.ht b.ht + 1
  | tri a b c => max a.ht (max b.ht c.ht) + 1
def isLf : Tr → Bool
  | lf => true
  | _ => false
theorem toPy (s : Sto) : ∀ (t : Tr) (n : Nat), t.ht < n → toPy s n t.d = some t.p
  | lf, n + 1, _ => rfl
  | two a b, n + 1, h => by
    simp only [ht] at h
    have h1 := toPy s a n (by omega)
    have h2 := toPy s b n (by omega)
    simp [d, p, DV.toPy, omap, h1, h2]
  | tri a b c, n + 1, h => by
    simp only [ht] at h
    have h1 := toPy s a n (by omega)
    have h2 := toPy s b n (by omega)
    have h3 := toPy s c n (by omega)
    simp [d, p, DV.toPy, omap, h1, h2, h3]
theorem lay : ∀ t : Tr, PyData.canLay0 t.p = true
  | lf => rfl
  | two a b => by simp [p, PyData.canLay0, PyData.canLayAll0, lay a, lay b]
  | tri a b c => by simp [p, PyData.canLay0, PyData.canLayAll0, lay a, lay b, lay c]
theorem dep : ∀ t : Tr, PyData.depth t.p ≤ t.ht
  | lf => Nat.le_refl _
  | two a b => by
    have := dep a
    have := dep b
    simp only [p, PyData.depth, PyData.depthAll, ht]
    omega
  | tri a b c => by
    have := dep a
    have := dep b
    have := dep c
    simp only [p, PyData.depth, PyData.depthAll, ht]
    omega
theorem shp (t : Tr) (h : t.ht ≤ 60) : SeqAt.shaped t.p = true := by
  have := dep t
  simp [SeqAt.shaped, lay t]
  omega
end Tr
theorem py2_int (s : Sto) (i j : Int) : py2 s (.int i) (.int j) = some (.int i, .int j) := rfl
@[simp] theorem fEq_int (s : Sto) (i j : Int) : fEq (.int i) (.int j) s = some (.bl (i == j), s) := rfl
@[simp] theorem fNe_int (s : Sto) (i j : Int) : fNe (.int i) (.int j) s = some (.bl (!(i == j)), s) := rfl
theorem fEq_tr (s : Sto) (t : Tr) (h : t.ht ≤ 60) : fEq t.d (.int 1) s = some (.bl t.isLf, s) := by
  have h1 : py2 s t.d (.int 1) = some (t.p, .int 1) := by
    have q : SeqAt.shaped (PyData.int 1) = true := rfl
    simp [py2, t.toPy s 64 (by omega), DV.toPy, t.shp h, q]
  unfold fEq
  rw [h1]
  cases t <;> rfl
theorem rng2 : rngI 0 2 = ⟨[.int 0, .int 1], none⟩ := rfl
theorem rng3 : rngI 0 3 = ⟨[.int 0, .int 1, .int 2], none⟩ := rfl
theorem le_line {n : Nat} (h : n ≤ 1000) : n ≤ sizeLine := Nat.le_of_lt (small1000 h)
theorem Rnd.set {s : Sto} {n m k : Nat} {o : DO} (h : Rnd s n k) (ne : n ≠ m) : Rnd (s.set m o) n k := by
  obtain ⟨a, b, c, e, h1, h2⟩ := h
  exact ⟨a, b, c, by rw [lstAt_ne ne]; exact e, h1, h2⟩
theorem Rnd.lt {s : Sto} {n k : Nat} (h : Rnd s n k) : n < s.length := by
  obtain ⟨a, b, c, e, h1, h2⟩ := h
  exact lstAt_lt e
theorem Sm.setN {n m : Nat} {s s' : Sto} {o : DO} (h : Sm n s s') (hm : s.length ≤ m) : Sm n s (s'.set m o) := ⟨by rw [List.length_set]; exact h.1, fun i hi e => by rw [List.getElem?_set_ne (by omega)]; exact h.2 i hi e⟩
def Kid (m : Nat) (_ : D) (ys : List D) : Prop := ∃ t : Tr, ys = [t.d] ∧ t.ht ≤ m
end My

namespace My
open PySem L2 PyProof.Rows DV
/-- what a comprehension over one tree's children makes -/
def One (f : Tr → D) (d : D) (ys : List D) : Prop := ∀ t : Tr, d = t.d → ys = [f t]
def kids : Tr → List Tr
  | .lf => []
  | .two a b => [a, b]
  | .tri a b c => [a, b, c]
theorem Tr.ofTup {t : Tr} (h : t.isLf = false) : t.d = .tup ((kids t).map Tr.d) := by cases t <;> first | rfl | cases h
theorem Tr.d_inj : ∀ {a b : Tr}, a.d = b.d → a = b
  | .lf, .lf, _ => rfl
  | .lf, .two _ _, h => by cases h
  | .lf, .tri _ _ _, h => by cases h
  | .two _ _, .lf, h => by cases h
  | .tri _ _ _, .lf, h => by cases h
  | .two _ _, .tri _ _ _, h => by simp [Tr.d] at h
  | .tri _ _ _, .two _ _, h => by simp [Tr.d] at h
  | .two a b, .two c e, h => by
    simp only [Tr.d, D.tup.injEq, List.cons.injEq, and_true] at h
    rw [Tr.d_inj h.1, Tr.d_inj h.2]
  | .tri a b x, .tri c e y, h => by
    simp only [Tr.d, D.tup.injEq, List.cons.injEq, and_true] at h
    rw [Tr.d_inj h.1, Tr.d_inj h.2.1, Tr.d_inj h.2.2]
theorem All2.map_of {α β γ : Type} {R : β → γ → Prop} {g : α → β} {f : α → γ} : ∀ {l : List α} {r : List γ}, All2 R (l.map g) r → (∀ a ∈ l, ∀ y, R (g a) y → y = f a) → r = l.map f
  | [], _, .nil, _ => rfl
  | a :: l, _, .cons h t, q => by
    rw [q a (by simp) _ h, All2.map_of t fun b hb => q b (by simp [hb])]
    rfl
theorem intsOf_map : ∀ l : List Int, intsOf (l.map D.int) = some l
  | [] => rfl
  | i :: r => by simp [intsOf, intsOf_map r]
theorem kids_ht {t c : Tr} (h : c ∈ kids t) : c.ht < t.ht := by
  cases t <;> simp [kids] at h <;> simp only [Tr.ht]
  · rcases h with rfl | rfl <;> omega
  · rcases h with rfl | rfl | rfl <;> omega
theorem kids_len (t : Tr) : (kids t).length ≤ 3 := by cases t <;> simp [kids]
theorem sz_kids {t : Tr} (h : t.isLf = false) : (((kids t).map fun c => (c.sz : Int)).sum) = t.sz := by
  cases t <;> first | (cases h; done) | (simp [kids, Tr.sz]; try omega)
theorem flat_one {α β : Type} (f : α → β) : ∀ l : List α, (l.map fun a => [f a]).flatten = l.map f
  | [] => rfl
  | a :: r => by simp [flat_one f r]
theorem size (A : Ax) : ∀ (n : Nat) (t : Tr) (s : Sto), t.ht < n → t.ht ≤ 60 → ∃ s', M_u_law_size A n [t.d] s = some (.ok (.int t.sz), s') ∧ Gr s s'
  | 0, _, _, h, _ => by omega
  | n + 1, t, s, h, h60 => by
    have he := fEq_tr s t h60
    cases hl : t.isLf with
    | true =>
      cases t <;> first | (cases hl; done) | skip
      exact ⟨s, by simp [M_u_law_size, ds_u_law_size, startD, Tr.d, Tr.sz], Gr.refl _⟩
    | false =>
      rw [hl] at he
      have hd := Tr.ofTup hl
      obtain ⟨s', yss, e1, e2, e3, e4⟩ := lc_pure (I := ⟨(kids t).map Tr.d, none⟩) (g := gN 1) (tt := dYes) (de := dCl (argN 1 (M_u_law_size A n)) (dCons (dVar 1) dNil)) (Δ := [some t.d, none]) (s := s) (One fun c => .int c.sz) (fun _ _ => rfl) (fun d s' hdm _ => by
        obtain ⟨c, hc, rfl⟩ := List.mem_map.mp hdm
        obtain ⟨s3, w1, w2⟩ := size A n c s' (by have := kids_ht hc; omega) (by have := kids_ht hc; omega)
        exact ⟨_, rfl, .inr ⟨s', .int c.sz, s3, rfl, by simp [w1], w2, fun t' ht => by rw [Tr.d_inj ht]⟩⟩) (le_line (by simp; have := kids_len t; omega))
      have e5 : yss = (kids t).map fun c => [D.int c.sz] := All2.map_of e3 fun c _ y q => q c rfl
      rw [e5, flat_one] at e2
      have e6 : intsOf ((kids t).map fun c => D.int c.sz) = some ((kids t).map fun c => (c.sz : Int)) := by
        rw [← intsOf_map, List.map_map]
        rfl
      refine ⟨s', ?_, e4⟩
      have := sz_kids hl
      simp [M_u_law_size, ds_u_law_size, startD, he, wipeD, hd] at e1 ⊢
      simp [hd] at he
      simp [he, e1, e2, fSum, fLs, e6, this]
end My

namespace My
open PySem L2 PyProof.Rows DV
def odd : Nat → Nat → Nat
  | 0, n => n
  | f + 1, n => if n % 2 = 0 then odd f (n / 2) else n
def isV (n : Nat) : Bool := odd 8 n == 1 || odd 8 n == 3 || odd 8 n == 7
theorem fmodN (n : Nat) (m : Nat) : (n : Int).fmod m = ((n % m : Nat) : Int) := by
  rw [Int.fmod_eq_emod_of_nonneg _ (by omega)]
  rfl
theorem fdivN (n : Nat) (m : Nat) : (n : Int).fdiv m = ((n / m : Nat) : Int) := by
  rw [Int.fdiv_eq_ediv_of_nonneg _ (by omega)]
  rfl
@[simp] theorem mod2 {i : Int} : modOk i 2 = true := rfl
@[simp] theorem div2 {i : Int} : divOk i 2 = true := rfl
theorem in137 (s : Sto) (i : Int) : fIn (.int i) (.tup [.int 1, .int 3, .int 7]) s = some (.bl (((1 : Int) == i) || (((3 : Int) == i) || (((7 : Int) == i) || false))), s) := rfl
theorem canLayAll_map : ∀ l : List Tr, PyData.canLayAll0 (l.map Tr.p) = true
  | [] => rfl
  | t :: r => by simp [PyData.canLayAll0, t.lay, canLayAll_map r]
/-- the law's test of a tree -/
def fits : Tr → Bool
  | .lf => true
  | .two a b => (isV a.sz && fits a) && (isV b.sz && fits b)
  | .tri a b c => (isV a.sz && fits a) && ((isV b.sz && fits b) && (isV c.sz && fits c))
theorem sz_pos : ∀ t : Tr, 0 < t.sz
  | .lf => by decide
  | .two a b => by have := sz_pos a; simp only [Tr.sz]; omega
  | .tri a b c => by have := sz_pos a; simp only [Tr.sz]; omega
theorem sz_le : ∀ t : Tr, t.sz ≤ 3 ^ t.ht
  | .lf => by decide
  | .two a b => by
    have h1 := sz_le a
    have h2 := sz_le b
    have p1 := Nat.pow_le_pow_right (show 0 < 3 by decide) (show a.ht ≤ max a.ht b.ht by omega)
    have p2 := Nat.pow_le_pow_right (show 0 < 3 by decide) (show b.ht ≤ max a.ht b.ht by omega)
    simp only [Tr.sz, Tr.ht, Nat.pow_succ]
    omega
  | .tri a b c => by
    have h1 := sz_le a
    have h2 := sz_le b
    have h3 := sz_le c
    have p1 := Nat.pow_le_pow_right (show 0 < 3 by decide) (show a.ht ≤ max a.ht (max b.ht c.ht) by omega)
    have p2 := Nat.pow_le_pow_right (show 0 < 3 by decide) (show b.ht ≤ max a.ht (max b.ht c.ht) by omega)
    have p3 := Nat.pow_le_pow_right (show 0 < 3 by decide) (show c.ht ≤ max a.ht (max b.ht c.ht) by omega)
    simp only [Tr.sz, Tr.ht, Nat.pow_succ]
    omega
theorem sz_lt {t : Tr} (h : t.ht ≤ 5) : t.sz < 256 := Nat.lt_of_le_of_lt (sz_le t) (Nat.lt_of_le_of_lt (Nat.pow_le_pow_right (by decide) h) (by decide))
theorem fits_kids {t : Tr} (h : t.isLf = false) : fits t = (kids t).all fun c => isV c.sz && fits c := by
  cases t <;> first | (cases h; done) | simp [kids, fits]
def Bad (d : D) (ys : List D) : Prop := ∀ c : Tr, d = c.d → ys = if (isV c.sz && fits c) = true then [] else [c.d]
theorem bad_flat : ∀ {l : List Tr} {yss : List (List D)}, All2 Bad (l.map Tr.d) yss → yss.flatten = (l.filter fun c => !(isV c.sz && fits c)).map Tr.d
  | [], _, .nil => rfl
  | a :: r, _, .cons h t => by
    rw [List.flatten_cons, h a rfl, bad_flat t, List.filter_cons]
    cases isV a.sz && fits a <;> simp
theorem toPys (s : Sto) : ∀ (l : List Tr), (∀ c ∈ l, c.ht ≤ 60) → omap (toPy s 63) (l.map Tr.d) = some (l.map Tr.p)
  | [], _ => rfl
  | t :: r, h => by
    have h1 := t.toPy s 63 (by have := h t (by simp); omega)
    simp [omap, h1, toPys s r fun c hc => h c (by simp [hc])]
theorem deps : ∀ (l : List Tr), (∀ c ∈ l, c.ht ≤ 60) → PyData.depthAll (l.map Tr.p) ≤ 60
  | [], _ => by simp [PyData.depthAll]
  | t :: r, h => by
    have h1 := t.dep
    have h2 := h t (by simp)
    have := deps r fun c hc => h c (by simp [hc])
    simp only [List.map_cons, PyData.depthAll]
    omega
/-- a list of trees against the empty list -/
theorem eq_nil {s : Sto} {m n : Nat} {l : List Tr} (e : lstAt s m = some (l.map Tr.d)) (e2 : lstAt s n = some []) (h : ∀ c ∈ l, c.ht ≤ 60) : fEq (.obj m) (.obj n) s = some (.bl l.isEmpty, s) := by
  have h1 : toPy s 64 (.obj m) = some (.list (l.map Tr.p)) := by simp [toPy, e, toPys s l h]
  have h2 : toPy s 64 (.obj n) = some (.list []) := by simp [toPy, e2, omap]
  have q1 : SeqAt.shaped (.list (l.map Tr.p)) = true := by
    have := deps l h
    simp [SeqAt.shaped, PyData.canLay0, canLayAll_map, PyData.depth]
    omega
  have q2 : SeqAt.shaped (PyData.list []) = true := rfl
  have h3 : py2 s (.obj m) (.obj n) = some (.list (l.map Tr.p), .list []) := by simp [py2, h1, h2, q1, q2]
  unfold fEq
  rw [h3]
  cases l <;> rfl
end My

namespace My
open PySem L2 PyProof.Rows DV
theorem Gr.sm {s s' : Sto} {n : Nat} (h : Gr s s') : Sm n s s' := by
  obtain ⟨l, rfl⟩ := h
  exact Sm.app
theorem Rnd.gr {s s' : Sto} {n k : Nat} (h : Rnd s n k) (g : Gr s s') : Rnd s' n k := by
  obtain ⟨l, rfl⟩ := g
  exact h.app
/-- what the laws ask of a tree -/
structure Good (t : Tr) : Prop where
  ht : t.ht ≤ 4
  sz : t.sz ≤ 16
  fit : fits t = true
def pair : Tr := .two .lf .lf
def three : Tr := .tri .lf .lf .lf
end My

namespace My
open PySem L2 PyProof.Rows DV
@[simp] theorem isi_ii {i : Int} {s : Sto} : fIsi [.int i, .ty "int"] s = some (.bl true, s) := rfl
@[simp] theorem isi_ib {i : Int} {s : Sto} : fIsi [.int i, .ty "bool"] s = some (.bl false, s) := rfl
@[simp] theorem isi_ti {i : List D} {s : Sto} : fIsi [.tup i, .ty "int"] s = some (.bl false, s) := rfl
@[simp] theorem isi_tt {i : List D} {s : Sto} : fIsi [.tup i, .ty "tuple"] s = some (.bl true, s) := rfl
@[simp] theorem isi_ss {i : Str} {s : Sto} : fIsi [.str i, .ty "str"] s = some (.bl true, s) := rfl
theorem isnum_int (A : Ax) (i : Int) (s : Sto) : M_is_number A [.int i] s = some (.ok (.bl true), s) := by simp [M_is_number, ds_is_number, startD, truD]
theorem isnum_tup (A : Ax) (i : List D) (s : Sto) : M_is_number A [.tup i] s = some (.ok (.bl false), s) := by simp [M_is_number, ds_is_number, startD, truD]
def lowB (n : Nat) : Int := ((Builtin.Int.intBits (Builtin.bitAnd (n : Int) (-(n : Int))) : Nat) : Int) - 1
theorem dots_fact : ∀ n : Fin 82, isV n.val = true → 0 < n.val → 0 ≤ lowB n.val ∧ (lookI kv_DOTS ((n.val : Int) / 2 ^ (lowB n.val).toNat)).isSome = true := by decide +kernel
theorem dots (A : Ax) (s : Sto) {n : Nat} (h : isV n = true) (h0 : 0 < n) (h1 : n < 82) : ∃ v : Int, M_dots_of A [.int n] s = some (.ok (.int v), s) := by
  obtain ⟨q1, q2⟩ := dots_fact ⟨n, h1⟩ h h0
  obtain ⟨v, hv⟩ := Option.isSome_iff_exists.mp q2
  refine ⟨v, ?_⟩
  have q1' : shrOk n (lowB n) = true := by unfold shrOk; simpa using q1
  unfold lowB at q1' hv
  simp at hv
  simp [M_dots_of, ds_dots_of, startD, fShr, fSub, fBits, fAnd, fNeg, q1', dKGet, hv]
theorem notIn23 (s : Sto) (k : Nat) (h : k = 2 ∨ k = 3) : fNotIn (.int k) (.tup [.int 2, .int 3]) s = some (.bl false, s) := by
  rcases h with rfl | rfl <;> rfl
theorem toPyI (s : Sto) (n : Nat) : ∀ l : List Int, omap (toPy s (n + 1)) (l.map D.int) = some (l.map PyData.int)
  | [] => rfl
  | i :: r => by simp [omap, toPy, toPyI s n r]
theorem layI : ∀ l : List Int, PyData.canLayAll0 (l.map PyData.int) = true
  | [] => rfl
  | t :: r => by simp [PyData.canLayAll0, PyData.canLay0, layI r]
theorem depI : ∀ l : List Int, PyData.depthAll (l.map PyData.int) = 0
  | [] => rfl
  | t :: r => by simp [PyData.depthAll, PyData.depth, depI r]
theorem shpI (l : List Int) : SeqAt.shaped (.list (l.map PyData.int)) = true := by simp [SeqAt.shaped, PyData.canLay0, layI, PyData.depth, depI]
theorem shp1 (i : Int) : SeqAt.shaped (.int i) = true := rfl
theorem inI {s : Sto} {m : Nat} {l : List Int} (i : Int) (e : lstAt s m = some (l.map D.int)) : fIn (.int i) (.obj m) s = some (.bl (l.any fun z => z == i), s) := by
  have h1 : toPy s 64 (.obj m) = some (.list (l.map PyData.int)) := by simp [toPy, e, toPyI]
  have h3 : py2 s (.int i) (.obj m) = some (.int i, .list (l.map PyData.int)) := by
    have h0 : toPy s 64 (.int i) = some (.int i) := rfl
    simp [py2, h0, h1, shpI, shp1]
  have h4 : ∀ l : List Int, ((l.map PyData.int).any fun z => PyData.eqv z (.int i)) = l.any fun z => z == i := fun l => by
    induction l with
    | nil => rfl
    | cons a r ih => rw [List.map_cons, List.any_cons, List.any_cons, ih]; rfl
  simp [fIn, orOp, fInS, fInP, h3, pyItems, h4]
theorem kids_sz {t c : Tr} (h : c ∈ kids t) : c.sz ≤ t.sz := by
  cases t <;> simp [kids] at h <;> simp only [Tr.sz]
  · rcases h with rfl | rfl <;> omega
  · rcases h with rfl | rfl | rfl <;> omega
theorem kids_fit {t c : Tr} (hf : fits t = true) (h : c ∈ kids t) : isV c.sz = true ∧ fits c = true := by
  have hl : t.isLf = false := by cases t <;> first | rfl | cases h
  rw [fits_kids hl, List.all_eq_true] at hf
  simpa using hf c h
theorem kids23 {t : Tr} (h : t.isLf = false) : (kids t).length = 2 ∨ (kids t).length = 3 := by cases t <;> first | (cases h; done) | simp [kids]
theorem pulses (A : Ax) : ∀ (n : Nat) (t : Tr) (s : Sto) (dep : Nat), t.ht < n → t.ht + dep ≤ 4 → t.sz ≤ 16 → fits t = true → (0 < dep → isV t.sz = true) → ∃ s', M_u_pulses A n [t.d, .int dep] s = some (.ok (.int t.sz), s') ∧ Gr s s'
  | 0, _, _, _, h, _, _, _, _ => by omega
  | n + 1, t, s, dep, h, h4, h16, hf, hv => by
    have he := fEq_tr s t (by omega)
    cases hl : t.isLf with
    | true =>
      cases t <;> first | (cases hl; done) | skip
      exact ⟨s, by simp [M_u_pulses, ds_u_pulses, startD, Tr.d, Tr.sz, isnum_int, truD], Gr.refl _⟩
    | false =>
      rw [hl] at he
      have hd := Tr.ofTup hl
      have h0 : 0 < t.ht := by cases t <;> first | (cases hl; done) | (simp only [Tr.ht]; omega)
      have hdep : ((dep : Int) == 4) = false := by simp; omega
      obtain ⟨s', yss, e1, e2, e3, e4⟩ := lc_pure (I := ⟨(kids t).map Tr.d, none⟩) (g := gN 4) (tt := dYes) (de := dCl (argN 2 (M_u_pulses A n)) (dCons (dVar 4) (dCons (dOp fAdd (dVar 1) (dC (.int 1))) dNil))) (Δ := [some t.d, some (.int dep), none, none, none]) (s := s) (One fun c => .int c.sz) (fun _ _ => rfl) (fun d s' hdm _ => by
        obtain ⟨c, hc, rfl⟩ := List.mem_map.mp hdm
        have k1 := kids_fit hf hc
        obtain ⟨s3, w1, w2⟩ := pulses A n c s' (dep + 1) (by have := kids_ht hc; omega) (by have := kids_ht hc; omega) (Nat.le_trans (kids_sz hc) h16) k1.2 (fun _ => k1.1)
        exact ⟨_, rfl, .inr ⟨s', .int c.sz, s3, rfl, by simp at w1; simp [fAdd, fAddI, orOp, w1], w2, fun t' ht => by rw [Tr.d_inj ht]⟩⟩) (le_line (by simp; have := kids_len t; omega))
      have e5 : yss = (kids t).map fun c => [D.int c.sz] := All2.map_of e3 fun c _ y q => q c rfl
      rw [e5, flat_one] at e2
      have e2' : lstAt s' s.length = some (((kids t).map fun c => (c.sz : Int)).map D.int) := by rw [e2, List.map_map]; rfl
      have e6 : intsOf ((kids t).map fun c => D.int c.sz) = some ((kids t).map fun c => (c.sz : Int)) := by
        rw [← intsOf_map, List.map_map]
        rfl
      have hin := inI 0 e2'
      have hin0 : (((kids t).map fun c => (c.sz : Int)).any fun z => z == 0) = false := by
        rw [List.any_eq_false]
        intro x hx
        obtain ⟨c, _, rfl⟩ := List.mem_map.mp hx
        have := sz_pos c
        simp; omega
      rw [hin0] at hin
      have hnot := notIn23 s (kids t).length (kids23 hl)
      have hsum := sz_kids hl
      have l2 : 2 ≤ sizeLine := le_line (by decide)
      refine ⟨s', ?_, e4⟩
      simp at hdep
      by_cases hz : 0 < dep
      · obtain ⟨v, hdots⟩ := dots A s' (hv hz) (sz_pos t) (by omega)
        simp [M_u_pulses, ds_u_pulses, startD, wipeD, hd] at e1 ⊢
        simp [isnum_tup, truD, hdep, hnot, l2, e1, e2, e6, fSum, fLs, hsum, hin, fGt, hz, hdots, fIsN, DV.isNon]
      · have hz' : dep = 0 := by omega
        subst hz'
        simp [M_u_pulses, ds_u_pulses, startD, wipeD, hd] at e1 ⊢
        simp [isnum_tup, truD, hnot, l2, e1, e2, e6, fSum, fLs, hsum, hin, fGt]
theorem is_tree (A : Ax) (s : Sto) {t : Tr} (g : Good t) : ∃ s', M_is_tree A [t.d] s = some (.ok (.bl true), s') ∧ Gr s s' := by
  obtain ⟨s', w1, w2⟩ := pulses A 6 t s 0 (by have := g.ht; omega) (by have := g.ht; omega) g.sz g.fit (fun h => by omega)
  refine ⟨s', ?_, w2⟩
  have h1 : (1 : Int) ≤ t.sz := by have := sz_pos t; omega
  have h2 : (t.sz : Int) ≤ 16 := by have := g.sz; omega
  simp at w1
  simp [M_is_tree, ds_is_tree, startD, dChain, w1, fLe, h1, h2]
end My

namespace My
open PySem L2 PyProof.Rows DV
def nodesOf : Tr → Nat → Nat → List (Nat × Nat × Nat)
  | .lf, b, d => [(b, b + 1, d)]
  | .two x y, b, d => (b, b + x.sz + y.sz, d) :: (nodesOf x b (d + 1) ++ nodesOf y (b + x.sz) (d + 1))
  | .tri x y z, b, d => (b, b + x.sz + y.sz + z.sz, d) :: (nodesOf x b (d + 1) ++ nodesOf y (b + x.sz) (d + 1) ++ nodesOf z (b + x.sz + y.sz) (d + 1))
def ndD (n : Nat × Nat × Nat) : D := .tup [.int n.1, .int n.2.1, .int n.2.2]
theorem nodes_head : ∀ (t : Tr) (b d : Nat), ∃ r, nodesOf t b d = (b, b + t.sz, d) :: r
  | .lf, b, d => ⟨[], rfl⟩
  | .two x y, b, d => ⟨_, by simp [nodesOf, Tr.sz, Nat.add_assoc]; rfl⟩
  | .tri x y z, b, d => ⟨_, by simp [nodesOf, Tr.sz, Nat.add_assoc]; rfl⟩
theorem nodes_len : ∀ (t : Tr) (b d : Nat), (nodesOf t b d).length + 1 ≤ 2 * t.sz
  | .lf, b, d => by simp [nodesOf, Tr.sz]
  | .two x y, b, d => by
    have := nodes_len x b (d + 1)
    have := nodes_len y (b + x.sz) (d + 1)
    have := sz_pos x
    simp [nodesOf, Tr.sz]; omega
  | .tri x y z, b, d => by
    have := nodes_len x b (d + 1)
    have := nodes_len y (b + x.sz) (d + 1)
    have := nodes_len z (b + x.sz + y.sz) (d + 1)
    have := sz_pos x
    simp [nodesOf, Tr.sz]; omega
theorem at_head {α : Type} {x : α} {r : List α} : atI (x :: r) 0 = some x := by
  unfold atI ixN
  simp
theorem ext_run {s : Sto} {m n : Nat} {xs ys : List D} (e1 : lstAt s n = some xs) (e2 : lstAt s m = some ys) (h : xs.length + ys.length ≤ sizeLine) : fExtend (.obj n) [.obj m] s = some (.non, s.set n (.lst (xs ++ ys))) := by
  simp [fExtend, e1, e2, h]
def NdS (A : Ax) (n : Nat) (t : Tr) : Prop := ∀ (s : Sto) (b d : Nat), ∃ m s', M_u_nodes A n [t.d, .int b, .int d] s = some (.ok (.obj m), s') ∧ Gr s s' ∧ s.length ≤ m ∧ lstAt s' m = some ((nodesOf t b d).map ndD)
def ndB (A : Ax) (n : Nat) : DS := dSeq (dAsg (dCl (argN 3 (M_u_nodes A n)) (dCons (dVar 5) (dCons (dVar 4) (dCons (dOp fAdd (dVar 2) (dC (.int 1))) dNil)))) (gN 6))
  (dSeq (dDrop (dBM "list" fExtend (dVar 3) (dCons (dVar 6) dNil)))
  (dAsg (dOp fIx (dOp fIx (dVar 6) (dC (.int 0))) (dC (.int 1))) (gN 4)))
theorem ndB_eq (A : Ax) (n : Nat) : (dSeq (dAsg (dCl (argN 3 (M_u_nodes A n)) (dCons (dVar 5) (dCons (dVar 4) (dCons (dOp fAdd (dVar 2) (dC (.int 1))) dNil)))) (gN 6))
  (dSeq (dDrop (dBM "list" fExtend (dVar 3) (dCons (dVar 6) dNil)))
  (dAsg (dOp fIx (dOp fIx (dVar 6) (dC (.int 0))) (dC (.int 1))) (gN 4)))) = ndB A n := rfl
theorem tyL {s : Sto} {n : Nat} {xs : List D} (e : lstAt s n = some xs) : tyD "list" (.obj n) s = true := by
  simp [tyD, lstAt_eq e]
theorem nd_turn {A : Ax} {n : Nat} {c : Tr} (ih : NdS A n c) {s s1 : Sto} {L d e : Nat} {acc : List D} {x0 x1 x6 : Option D} (g : Gr s s1) (hL : s.length ≤ L) (ha : lstAt s1 L = some acc) (hz : acc.length + 2 * c.sz ≤ 1000) :
    ∃ s2 y, ndB A n [x0, x1, some (.int d), some (.obj L), some (.int e), some c.d, x6] s1 = some (.nx [x0, x1, some (.int d), some (.obj L), some (.int (e + c.sz : Nat)), some c.d, some y], s2) ∧ Gr s s2 ∧ lstAt s2 L = some (acc ++ (nodesOf c e (d + 1)).map ndD) := by
  obtain ⟨m, s', w1, w2, w3, w4⟩ := ih s1 e (d + 1)
  have hl := lstAt_lt ha
  have e1 := w2.lst ha
  have e2 := ext_run e1 w4 (by rw [List.length_map]; have := nodes_len c e (d + 1); exact le_line (by omega))
  obtain ⟨r, hr⟩ := nodes_head c e (d + 1)
  have e3 : lstAt (s'.set L (.lst (acc ++ (nodesOf c e (d + 1)).map ndD))) m = some ((nodesOf c e (d + 1)).map ndD) := by rw [lstAt_ne (by omega)]; exact w4
  refine ⟨s'.set L (.lst (acc ++ (nodesOf c e (d + 1)).map ndD)), .obj m, ?_, (g.trans w2).set hL, lstAt_set e1⟩
  simp at w1
  have ty := tyL e1
  rw [hr, List.map_cons] at e3
  have e4 : ndD (e, e + c.sz, d + 1) = .tup [.int e, .int ((e : Int) + c.sz), .int ((d : Int) + 1)] := by simp [ndD]
  rw [e4] at e3
  have a1 : atI [D.int e, .int ((e : Int) + c.sz), .int ((d : Int) + 1)] 1 = some (.int ((e : Int) + c.sz)) := rfl
  rw [hr] at e2 ⊢
  simp only [List.map_cons, e4] at e2 ⊢
  simp [ndB, fAdd, fAddI, orOp, w1, dBM, mTy, ty, DV.liftM, e2, e3, at_head, a1]
theorem ofTup2 {a b : Tr} : (Tr.two a b).d = .tup [a.d, b.d] := rfl
theorem ofTup3 {a b c : Tr} : (Tr.tri a b c).d = .tup [a.d, b.d, c.d] := rfl
theorem nodes_run (A : Ax) : ∀ (n : Nat) (t : Tr), t.ht < n → t.ht ≤ 5 → NdS A n t
  | 0, _, h, _ => by omega
  | n + 1, t, h, h5 => by
    intro s b d
    have he := fEq_tr s t (by omega)
    have l3 : 3 ≤ sizeLine := le_line (by decide)
    have l1 : 1 ≤ sizeLine := le_line (by decide)
    have hs := sz_lt h5
    cases t with
    | lf =>
      refine ⟨s.length, s ++ [.lst [ndD (b, b + 1, d)]], ?_, Gr.app, Nat.le_refl _, lstAt_new⟩
      simp [M_u_nodes, ds_u_nodes, startD, Tr.d, l3, l1, fAdd, fAddI, orOp, ndD]
    | two x y =>
      simp only [Tr.ht] at h h5
      simp only [Tr.sz] at hs
      have hx := nodes_run A n x (by omega) (by omega)
      have hy := nodes_run A n y (by omega) (by omega)
      obtain ⟨s1, y1, r1, g1, q1⟩ := nd_turn hx (s := s) (s1 := s ++ [.lst []]) (L := s.length) (d := d) (e := b) (acc := []) (x0 := some (Tr.two x y).d) (x1 := some (.int b)) (x6 := none) Gr.app (Nat.le_refl _) lstAt_new (by simp; omega)
      obtain ⟨s2, y2, r2, g2, q2⟩ := nd_turn hy (s := s) (s1 := s1) (L := s.length) (d := d) (e := b + x.sz) (x0 := some (Tr.two x y).d) (x1 := some (.int b)) (x6 := some y1) g1 (Nat.le_refl _) q1 (by simp; have := nodes_len x b (d + 1); omega)
      have lz : 1 + ((nodesOf x b (d + 1)).length + (nodesOf y (b + x.sz) (d + 1)).length) ≤ sizeLine := by
        have := nodes_len x b (d + 1)
        have := nodes_len y (b + x.sz) (d + 1)
        exact le_line (by omega)
      have q2' := lstAt_app (l := [DO.lst [ndD (b, b + x.sz + y.sz, d)]]) q2
      refine ⟨s2.length + 1, s2 ++ [.lst [ndD (b, b + x.sz + y.sz, d)], .lst ((nodesOf (.two x y) b d).map ndD)], ?_, g2.trans Gr.app, by have := g2.len; omega, lstAt_new3⟩
      have e0 : ndD (b, b + x.sz + y.sz, d) = .tup [.int b, .int ((b : Int) + x.sz + y.sz), .int d] := by simp [ndD]
      rw [e0] at q2' ⊢
      simp only [List.nil_append] at q2'
      simp [Tr.isLf] at he
      have hF : dFor (iSeqT (dVar 0)) (gN 5) (ndB A n) [some (Tr.two x y).d, some (.int b), some (.int d), some (.obj s.length), some (.int b), none, none] (s ++ [.lst []]) = some (.nx [some (Tr.two x y).d, some (.int b), some (.int d), some (.obj s.length), some (.int (b + x.sz + y.sz : Nat)), some y.d, some y2], s2) := by
        simp at r1 r2
        simp [ofTup2] at r1 r2 ⊢
        simp [forRun, Itd.still, r1, r2]
      simp at hF
      simp only [M_u_nodes, ds_u_nodes, ndB_eq]
      simp [startD, he, hF, l3, l1, fAdd, fAddI, fAddS, fAddL, orOp, q2', lz, nodesOf, e0]
    | tri x y z =>
      simp only [Tr.ht] at h h5
      simp only [Tr.sz] at hs
      have hx := nodes_run A n x (by omega) (by omega)
      have hy := nodes_run A n y (by omega) (by omega)
      have hz := nodes_run A n z (by omega) (by omega)
      obtain ⟨s1, y1, r1, g1, q1⟩ := nd_turn hx (s := s) (s1 := s ++ [.lst []]) (L := s.length) (d := d) (e := b) (acc := []) (x0 := some (Tr.tri x y z).d) (x1 := some (.int b)) (x6 := none) Gr.app (Nat.le_refl _) lstAt_new (by simp; omega)
      obtain ⟨s2, y2, r2, g2, q2⟩ := nd_turn hy (s := s) (s1 := s1) (L := s.length) (d := d) (e := b + x.sz) (x0 := some (Tr.tri x y z).d) (x1 := some (.int b)) (x6 := some y1) g1 (Nat.le_refl _) q1 (by simp; have := nodes_len x b (d + 1); omega)
      obtain ⟨s3, y3, r3, g3, q3⟩ := nd_turn hz (s := s) (s1 := s2) (L := s.length) (d := d) (e := b + x.sz + y.sz) (x0 := some (Tr.tri x y z).d) (x1 := some (.int b)) (x6 := some y2) g2 (Nat.le_refl _) q2 (by
        have := nodes_len x b (d + 1)
        have := nodes_len y (b + x.sz) (d + 1)
        simp
        omega)
      have lz : 1 + ((nodesOf x b (d + 1)).length + ((nodesOf y (b + x.sz) (d + 1)).length + (nodesOf z (b + x.sz + y.sz) (d + 1)).length)) ≤ sizeLine := by
        have := nodes_len x b (d + 1)
        have := nodes_len y (b + x.sz) (d + 1)
        have := nodes_len z (b + x.sz + y.sz) (d + 1)
        exact le_line (by omega)
      have q2' := lstAt_app (l := [DO.lst [ndD (b, b + x.sz + y.sz + z.sz, d)]]) q3
      refine ⟨s3.length + 1, s3 ++ [.lst [ndD (b, b + x.sz + y.sz + z.sz, d)], .lst ((nodesOf (.tri x y z) b d).map ndD)], ?_, g3.trans Gr.app, by have := g3.len; omega, lstAt_new3⟩
      have e0 : ndD (b, b + x.sz + y.sz + z.sz, d) = .tup [.int b, .int ((b : Int) + x.sz + y.sz + z.sz), .int d] := by simp [ndD]
      rw [e0] at q2' ⊢
      simp only [List.nil_append, List.append_assoc] at q2'
      simp [Tr.isLf] at he
      have hF : dFor (iSeqT (dVar 0)) (gN 5) (ndB A n) [some (Tr.tri x y z).d, some (.int b), some (.int d), some (.obj s.length), some (.int b), none, none] (s ++ [.lst []]) = some (.nx [some (Tr.tri x y z).d, some (.int b), some (.int d), some (.obj s.length), some (.int (b + x.sz + y.sz + z.sz : Nat)), some z.d, some y3], s3) := by
        simp at r1 r2 r3
        simp [ofTup3] at r1 r2 r3 ⊢
        simp [forRun, Itd.still, r1, r2, r3]
      simp at hF
      simp only [M_u_nodes, ds_u_nodes, ndB_eq]
      simp [startD, he, hF, l3, l1, fAdd, fAddI, fAddS, fAddL, orOp, q2', lz, nodesOf, e0]
end My

namespace My
open PySem L2 PyProof.Rows DV
theorem for_gen {I : Itd} {g : DGf} {b : DS} (J : List D → Dn → Sto → Prop) (hst : ∀ r Δ s, J r Δ s → I.still s = true)
    (step : ∀ d r Δ s, J (d :: r) Δ s → ∃ Δ1 s1, g d Δ s = some (Δ1, s1) ∧ ∃ Δ2 s2, b Δ1 s1 = some (.nx Δ2, s2) ∧ J r Δ2 s2) : ∀ r Δ s, J r Δ s → ∃ Δ' s', forRun I g b r Δ s = some (.nx Δ', s') ∧ J [] Δ' s'
  | [], Δ, s, j => ⟨Δ, s, by simp [forRun, hst _ _ _ j], j⟩
  | d :: r, Δ, s, j => by
    obtain ⟨Δ1, s1, h1, Δ2, s2, h2, j2⟩ := step d r Δ s j
    obtain ⟨Δ', s', h3, h4⟩ := for_gen J hst step r Δ2 s2 j2
    exact ⟨Δ', s', by simp [forRun, hst _ _ _ j, h1, h2, h3], h4⟩
def bd : Tr → Nat → List Nat
  | .lf, d => [d]
  | .two x y, d => d :: ((bd x (d + 1)).tail ++ bd y (d + 1))
  | .tri x y z, d => d :: ((bd x (d + 1)).tail ++ bd y (d + 1) ++ bd z (d + 1))
theorem bd_len : ∀ (t : Tr) (d : Nat), (bd t d).length = t.sz
  | .lf, d => rfl
  | .two x y, d => by
    have := bd_len x (d + 1)
    have := bd_len y (d + 1)
    have := sz_pos x
    simp [bd, Tr.sz]; omega
  | .tri x y z, d => by
    have := bd_len x (d + 1)
    have := bd_len y (d + 1)
    have := bd_len z (d + 1)
    have := sz_pos x
    simp [bd, Tr.sz]; omega
theorem bd_head (t : Tr) (d : Nat) : ∃ r, bd t d = d :: r := by cases t <;> exact ⟨_, rfl⟩
abbrev Kv := List (Key × D)
def ent : Nat → List Nat → Kv
  | _, [] => []
  | b, v :: r => (.inl (b : Int), .int v) :: ent (b + 1) r
theorem ent_len : ∀ (b : Nat) (l : List Nat), (ent b l).length = l.length
  | _, [] => rfl
  | b, v :: r => congrArg (· + 1) (ent_len (b + 1) r)
theorem ent_app : ∀ (b : Nat) (l m : List Nat), ent b (l ++ m) = ent b l ++ ent (b + l.length) m
  | b, [], m => rfl
  | b, v :: r, m => by
    have := ent_app (b + 1) r m
    simp [ent, this]
    congr 1
    omega
theorem val_ent : ∀ (b : Nat) (l : List Nat) (i : Nat), valD (ent b l) (.inl ((b + i : Nat) : Int)) = (l[i]?).map fun (v : Nat) => D.int (v : Int)
  | b, [], i => rfl
  | b, v :: r, 0 => by simp [ent, valD]
  | b, v :: r, i + 1 => by
    have := val_ent (b + 1) r i
    have e : b + 1 + i = b + (i + 1) := by omega
    rw [e] at this
    have ne : ¬ (b : Int) = ((b + (i + 1) : Nat) : Int) := by omega
    unfold valD at this ⊢
    simp only [ent, List.find?_cons]
    have q : decide ((Sum.inl (b : Int) : Key) = Sum.inl ((b + (i + 1) : Nat) : Int)) = false := by
      simp only [decide_eq_false_iff_not, Sum.inl.injEq]
      exact ne
    rw [q]
    simpa using this
theorem val_any {κ : Type} [DecidableEq κ] {kvs : List (κ × D)} {k : κ} (h : valD kvs k = none) : (kvs.any fun kv => decide (kv.1 = k)) = false := by
  unfold valD at h
  rw [Option.map_eq_none_iff, List.find?_eq_none] at h
  rw [List.any_eq_false]
  exact h
def setd (kvs : Kv) (n : Nat × Nat × Nat) : Kv := match valD kvs (.inl (n.1 : Int)) with
  | some _ => kvs
  | none => kvs ++ [(.inl (n.1 : Int), .int n.2.2)]
theorem setd_new (l : List Nat) (e d : Nat) : setd (ent 0 l) (l.length, e, d) = ent 0 (l ++ [d]) := by
  have h := val_ent 0 l l.length
  rw [Nat.zero_add] at h
  rw [ent_app, Nat.zero_add]
  unfold setd
  simp only [h, List.getElem?_eq_none (Nat.le_refl _), Option.map_none]
  rfl
theorem setd_old (l : List Nat) (b e d : Nat) (hb : b < l.length) : setd (ent 0 l) (b, e, d) = ent 0 l := by
  have h := val_ent 0 l b
  rw [Nat.zero_add] at h
  unfold setd
  simp only [h, List.getElem?_eq_getElem hb, Option.map_some]
theorem fold_nodes : ∀ (t : Tr) (d : Nat), (∀ l0, (nodesOf t l0.length d).foldl setd (ent 0 l0) = ent 0 (l0 ++ bd t d)) ∧ ∀ (l0 : List Nat) b, l0.length = b + 1 → (nodesOf t b d).foldl setd (ent 0 l0) = ent 0 (l0 ++ (bd t d).tail)
  | .lf, d => ⟨fun l0 => by simp [nodesOf, bd, setd_new], fun l0 b h => by simp [nodesOf, bd, setd_old _ _ _ _ (show b < l0.length by omega)]⟩
  | .two x y, d => by
    have hx := (fold_nodes x (d + 1)).2
    have hy := (fold_nodes y (d + 1)).1
    have lx := bd_len x (d + 1)
    have px := sz_pos x
    have core : ∀ (l0 : List Nat) b, l0.length = b + 1 → (nodesOf x b (d + 1) ++ nodesOf y (b + x.sz) (d + 1)).foldl setd (ent 0 l0) = ent 0 (l0 ++ ((bd x (d + 1)).tail ++ bd y (d + 1))) := fun l0 b h => by
      rw [List.foldl_append, hx l0 b h]
      have e : (l0 ++ (bd x (d + 1)).tail).length = b + x.sz := by simp; omega
      have := hy (l0 ++ (bd x (d + 1)).tail)
      rw [e] at this
      rw [this, List.append_assoc]
    refine ⟨fun l0 => ?_, fun l0 b h => ?_⟩
    · rw [nodesOf, List.foldl_cons, setd_new, core _ _ (by simp)]
      simp [bd]
    · rw [nodesOf, List.foldl_cons, setd_old _ _ _ _ (by omega), core _ _ h]
      simp [bd]
  | .tri x y z, d => by
    have hx := (fold_nodes x (d + 1)).2
    have hy := (fold_nodes y (d + 1)).1
    have hz := (fold_nodes z (d + 1)).1
    have lx := bd_len x (d + 1)
    have ly := bd_len y (d + 1)
    have px := sz_pos x
    have core : ∀ (l0 : List Nat) b, l0.length = b + 1 → (nodesOf x b (d + 1) ++ nodesOf y (b + x.sz) (d + 1) ++ nodesOf z (b + x.sz + y.sz) (d + 1)).foldl setd (ent 0 l0) = ent 0 (l0 ++ ((bd x (d + 1)).tail ++ bd y (d + 1) ++ bd z (d + 1))) := fun l0 b h => by
      rw [List.foldl_append, List.foldl_append, hx l0 b h]
      have e : (l0 ++ (bd x (d + 1)).tail).length = b + x.sz := by simp; omega
      have q := hy (l0 ++ (bd x (d + 1)).tail)
      rw [e] at q
      have e2 : (l0 ++ (bd x (d + 1)).tail ++ bd y (d + 1)).length = b + x.sz + y.sz := by simp; omega
      have q2 := hz (l0 ++ (bd x (d + 1)).tail ++ bd y (d + 1))
      rw [e2] at q2
      rw [q, q2]
      simp [List.append_assoc]
    refine ⟨fun l0 => ?_, fun l0 b h => ?_⟩
    · rw [nodesOf, List.foldl_cons, setd_new, core _ _ (by simp)]
      simp [bd]
    · rw [nodesOf, List.foldl_cons, setd_old _ _ _ _ (by omega), core _ _ h]
      simp [bd]
def sdB : DS := dDrop (dDSetd (dVar 2) (dVar 3) (dVar 5))
theorem dct_set {s : Sto} {n : Nat} {xs ys : Kv} (h : dctAt s n = some xs) : dctAt (s.set n (.dK ys)) n = some ys := by
  have := dctAt_eq h
  have hl := (List.getElem?_eq_some_iff.mp this).1
  unfold dctAt
  rw [List.getElem?_set_self hl]
theorem sd_turn {Δ : Dn} {s : Sto} {n : Nat} {kvs : Kv} {x0 x1 x4 x6 : Option D} (e : dctAt s n = some kvs) (nd : Nat × Nat × Nat) (hz : kvs.length < sizeLine) :
    ∃ s2, sdB [x0, x1, some (.obj n), some (.int nd.1), x4, some (.int nd.2.2), x6] s = some (.nx [x0, x1, some (.obj n), some (.int nd.1), x4, some (.int nd.2.2), x6], s2) ∧ dctAt s2 n = some (setd kvs nd) ∧ (∀ i, i ≠ n → s2[i]? = s[i]?) ∧ s2.length = s.length := by
  cases h : valD kvs (.inl (nd.1 : Int)) with
  | some v =>
    exact ⟨s, by simp [sdB, dDSetd, mDct, e, keyD, hz, h], by simp [setd, h, e], fun _ _ => rfl, rfl⟩
  | none =>
    have ha := val_any h
    refine ⟨s.set n (.dK (kvs ++ [(.inl (nd.1 : Int), .int nd.2.2)])), ?_, by rw [dct_set e]; simp [setd, h], fun i hi => List.getElem?_set_ne (fun z => hi z.symm), by simp⟩
    have hp : putKD kvs (Sum.inl (nd.1 : Int)) (D.int nd.2.2) = kvs ++ [(Sum.inl (nd.1 : Int), D.int nd.2.2)] := by
      unfold putKD
      rw [ha]
      rfl
    simp [sdB, dDSetd, mDct, e, keyD, hz, h, hp]
end My

namespace My
open PySem L2 PyProof.Rows DV
theorem still_of {its xs : List D} {m : Nat} {s : Sto} (h : lstAt s m = some xs) : Itd.still ⟨its, some (m, xs)⟩ s = true := by simp [Itd.still, h, D.beqs_self]
theorem fold_len : ∀ (l : List (Nat × Nat × Nat)) (kvs : Kv), (l.foldl setd kvs).length ≤ kvs.length + l.length
  | [], kvs => by simp
  | n :: r, kvs => by
    have h1 := fold_len r (setd kvs n)
    have h2 : (setd kvs n).length ≤ kvs.length + 1 := by
      unfold setd
      split <;> simp
    simp only [List.foldl_cons, List.length_cons]
    omega
theorem range_get {α : Type} (f : Nat → α) (l : List Nat) : (List.range l.length).map (fun i => f (l.getD i 0)) = l.map f := by
  apply List.ext_getElem
  · simp
  · intro i h1 h2
    simp at h1 h2
    simp [List.getD_eq_getElem?_getD, h2]
theorem rngOk_nat {n : Nat} (h : n ≤ 100000) : rngOk (n : Int) = true := by
  unfold rngOk
  simp only [Bool.and_eq_true, decide_eq_true_eq]
  omega
theorem sdB_eq : (dDrop (dDSetd (dVar 2) (dVar 3) (dVar 5))) = sdB := rfl
def natD (v : Nat) : D := .int v
theorem lst_of_same {s s' : Sto} {m : Nat} (h : s'[m]? = s[m]?) : lstAt s' m = lstAt s m := by unfold lstAt; rw [h]
theorem bd_loop {t : Tr} {m : Nat} {s1 : Sto} (ns : List (Nat × Nat × Nat)) (hz : ns.length < sizeLine) (hm : lstAt s1 m = some (ns.map ndD)) {x3 x4 x5 x6 : Option D} :
    ∃ Δ' s', forRun ⟨ns.map ndD, some (m, ns.map ndD)⟩ (gTp 3 (gsCons (gN 3) (gsCons (gN 4) (gsCons (gN 5) gsNil)))) sdB (ns.map ndD) [some t.d, some (.obj m), some (.obj s1.length), x3, x4, x5, x6] (s1 ++ [.dK []]) = some (.nx Δ', s') ∧
      (∃ y3 y4 y5, Δ' = [some t.d, some (.obj m), some (.obj s1.length), y3, y4, y5, x6]) ∧ dctAt s' s1.length = some (ns.foldl setd []) ∧ Gr s1 s' := by
  have hl := lstAt_lt hm
  obtain ⟨Δ', s', h1, pre, suf, h2, h3, ⟨y3, y4, y5, h4⟩, h5, h6, h7⟩ := for_gen (I := ⟨ns.map ndD, some (m, ns.map ndD)⟩) (g := gTp 3 (gsCons (gN 3) (gsCons (gN 4) (gsCons (gN 5) gsNil)))) (b := sdB)
    (fun r Δ s' => ∃ pre suf, ns = pre ++ suf ∧ r = suf.map ndD ∧ (∃ y3 y4 y5, Δ = [some t.d, some (.obj m), some (.obj s1.length), y3, y4, y5, x6]) ∧ dctAt s' s1.length = some (pre.foldl setd []) ∧ (∀ i, i ≠ s1.length → s'[i]? = s1[i]?) ∧ s'.length = s1.length + 1)
    (fun r Δ s' ⟨pre, suf, _, _, _, _, h6, _⟩ => still_of (by rw [lst_of_same (h6 m (by omega))]; exact hm))
    (fun d r Δ s' ⟨pre, suf, h2, h3, ⟨y3, y4, y5, h4⟩, h5, h6, h7⟩ => by
      cases suf with
      | nil => cases h3
      | cons nd suf =>
        rw [List.map_cons] at h3
        injection h3 with e1 e2
        subst e1 h4
        have hzz : (pre.foldl setd []).length < sizeLine := by
          have := fold_len pre []
          have : ns.length = pre.length + (suf.length + 1) := by rw [h2]; simp
          simp at *
          omega
        obtain ⟨s2, w1, w2, w3, w4⟩ := sd_turn (Δ := []) (s := s') (x0 := some t.d) (x1 := some (.obj m)) (x4 := some (.int nd.2.1)) (x6 := x6) h5 nd hzz
        refine ⟨_, s', by simp [ndD], _, s2, w1, pre ++ [nd], suf, by rw [h2]; simp, e2, ⟨_, _, _, rfl⟩, ?_, fun i hi => (w3 i hi).trans (h6 i hi), w4.trans h7⟩
        rw [w2, List.foldl_append]
        rfl) (ns.map ndD) [some t.d, some (.obj m), some (.obj s1.length), x3, x4, x5, x6] (s1 ++ [.dK []]) ⟨[], ns, rfl, rfl, ⟨_, _, _, rfl⟩, by simp [dctAt], fun i hi => by
          by_cases hlt : i < s1.length
          · exact List.getElem?_append_left hlt
          · rw [List.getElem?_eq_none (by simp only [List.length_append, List.length_singleton]; omega), List.getElem?_eq_none (by omega)], by simp⟩
  have : suf = [] := by cases suf <;> first | rfl | cases h3
  subst this
  rw [List.append_nil] at h2
  subst h2
  refine ⟨Δ', s', h1, ⟨y3, y4, y5, h4⟩, h5, ⟨[s'[s1.length]'(by omega)], ?_⟩⟩
  apply List.ext_getElem?
  intro i
  by_cases hi : i < s1.length
  · rw [h6 i (by omega), List.getElem?_append_left hi]
  · by_cases he : i = s1.length
    · subst he
      rw [List.getElem?_append_right (Nat.le_refl _), List.getElem?_eq_getElem (by omega)]
      simp
    · rw [List.getElem?_eq_none (by omega), List.getElem?_eq_none (by simp; omega)]
theorem borders (A : Ax) (t : Tr) (s : Sto) (h5 : t.ht ≤ 5) : ∃ s', M_u_borders A [t.d] s = some (.ok (.tup ((bd t 0 ++ [0]).map natD)), s') ∧ Gr s s' := by
  obtain ⟨m, s1, n1, n2, n3, n4⟩ := nodes_run A 6 t (by omega) h5 s 0 0
  have hsz := sz_lt h5
  have hnl := nodes_len t 0 0
  obtain ⟨Δ', s2, w1, ⟨y3, y4, y5, w2⟩, w3, w4⟩ := bd_loop (t := t) (s1 := s1) (x3 := none) (x4 := none) (x5 := none) (x6 := none) (nodesOf t 0 0) (Nat.lt_of_lt_of_le (show (nodesOf t 0 0).length < 1000 by omega) (le_line (Nat.le_refl _))) n4
  subst w2
  have hf := (fold_nodes t 0).1 []
  simp only [List.nil_append, List.length_nil] at hf
  have e0 : ent 0 [] = [] := rfl
  rw [e0] at hf
  rw [hf] at w3
  have hn2 := w4.lst n4
  obtain ⟨r, hr⟩ := nodes_head t 0 0
  obtain ⟨s3, yss, e1, e2, e3, e4⟩ := lc_pure (I := rngI 0 t.sz) (g := gN 6) (tt := dYes) (de := dDIx (dVar 2) (dVar 6)) (Δ := [some t.d, some (.obj m), some (.obj s1.length), y3, y4, y5, none]) (s := s2) (fun d ys => ∀ i : Nat, d = .int ((0 : Int) + i) → i < t.sz → ys = [natD ((bd t 0).getD i 0)]) (fun _ _ => rfl) (fun d s' hd hg => by
    obtain ⟨i, hi, rfl⟩ := List.mem_map.mp hd
    rw [List.mem_range] at hi
    have hv := val_ent 0 (bd t 0) i
    have hlen := bd_len t 0
    rw [List.getElem?_eq_getElem (by omega)] at hv
    simp at hv
    have hdc : dctAt s' s1.length = some (ent 0 (bd t 0)) := by
      obtain ⟨l, rfl⟩ := hg
      have q := dctAt_eq w3
      unfold dctAt
      rw [List.getElem?_append_left (List.getElem?_eq_some_iff.mp q).1, q]
    refine ⟨_, rfl, .inr ⟨s', .int ((bd t 0)[i]'(by omega) : Nat), s', rfl, ?_, Gr.refl _, fun j hj hlt => ?_⟩⟩
    · simp [dDIx, dGetK, hdc, keyD, hv]
    · have hj2 : (i : Int) = j := by simpa using hj
      have : i = j := by omega
      subst this
      simp [natD, List.getD_eq_getElem?_getD, List.getElem?_eq_getElem (show i < (bd t 0).length by omega)]) (le_line (by simp [rngI]; omega))
  have e5 : yss = (List.range t.sz).map fun i => [natD ((bd t 0).getD i 0)] := All2.map_of (g := fun i : Nat => D.int ((0 : Int) + i)) e3 fun i hi y q => q i rfl (List.mem_range.mp hi)
  have hlen := bd_len t 0
  rw [e5, flat_one, ← hlen, range_get] at e2
  have l1 : 1 ≤ sizeLine := le_line (by decide)
  have l2 : (bd t 0).length + 1 ≤ sizeLine := le_line (by omega)
  refine ⟨s3 ++ [.lst [.int 0], .lst ((bd t 0 ++ [0]).map natD)], ?_, ((n2.trans w4).trans e4).trans Gr.app⟩
  have e2' := lstAt_app (l := [DO.lst [.int 0]]) e2
  have hd0 : ndD (0, 0 + t.sz, 0) = .tup [.int 0, .int t.sz, .int 0] := by simp [ndD]
  rw [hr, List.map_cons, hd0] at hn2
  have a1 : atI [D.int 0, .int (t.sz : Int), .int 0] 1 = some (.int t.sz) := rfl
  have rk := rngOk_nat (show t.sz ≤ 100000 by omega)
  simp only [M_u_borders, ds_u_borders, sdB_eq]
  simp at n1
  have n4' := lstAt_app (l := [DO.dK []]) n4
  simp [startD, n1, dDNew, n4', w1, hn2, at_head, a1, rk, wipeD, e1, l1, fAdd, fAddI, fAddS, fAddL, orOp, e2', l2, natD]
end My

namespace My
open PySem L2 PyProof.Rows DV
abbrev kT : Str := "tree"
abbrev kB : Str := "borders"
abbrev kP : Str := "pulses"
abbrev kD : Str := "depth"
def dpI (t : Tr) : Int := maxL ((bd t 0 ++ [0]).map fun (v : Nat) => (v : Int))
def dp (t : Tr) : Nat := (dpI t).toNat
theorem maxL_spec {l : List Int} (h : l ≠ []) : maxL l ∈ l ∧ ∀ y ∈ l, y ≤ maxL l := by
  cases l with
  | nil => exact absurd rfl h
  | cons a r => exact fold_max r a
theorem dp_spec (t : Tr) : dpI t = dp t ∧ ∀ v ∈ bd t 0, v ≤ dp t := by
  have h := maxL_spec (l := (bd t 0 ++ [0]).map fun (v : Nat) => (v : Int)) (by simp)
  have h0 : (0 : Int) ≤ dpI t := h.2 0 (by simp)
  refine ⟨by unfold dp; omega, fun v hv => ?_⟩
  have := h.2 v (by simp; exact .inl ⟨v, hv, rfl⟩)
  have e : dpI t = maxL ((bd t 0 ++ [0]).map fun (v : Nat) => (v : Int)) := rfl
  unfold dp
  omega
theorem intsOf_nat : ∀ l : List Nat, intsOf (l.map natD) = some (l.map fun (v : Nat) => (v : Int))
  | [] => rfl
  | i :: r => by simp [intsOf, natD, intsOf_nat r]
def flds (t : Tr) : List (Str × D) := [(kT, t.d), (kB, .tup ((bd t 0 ++ [0]).map natD)), (kP, .int t.sz), (kD, .int (dp t))]
def MetreAt (A : Ax) (s : Sto) (n : Nat) (t : Tr) : Prop := insAt s n = some (A.c_Metre, flds t)
theorem ins_set {s : Sto} {n : Nat} {x} {C : Addr} {fs : List (Str × D)} (h : insAt s n = some x) : insAt (s.set n (.ins C fs)) n = some (C, fs) := by
  obtain ⟨C', fs'⟩ := x
  have := insAt_eq h
  have hl := (List.getElem?_eq_some_iff.mp this).1
  unfold insAt
  rw [List.getElem?_set_self hl]
theorem ins_gr {s s' : Sto} {n : Nat} {x} (g : Gr s s') (h : insAt s n = some x) : insAt s' n = some x := by
  obtain ⟨l, rfl⟩ := g
  obtain ⟨C', fs'⟩ := x
  have := insAt_eq h
  unfold insAt
  rw [List.getElem?_append_left (List.getElem?_eq_some_iff.mp this).1, this]
theorem ins_new {s : Sto} {C : Addr} {fs : List (Str × D)} : insAt (s ++ [.ins C fs]) s.length = some (C, fs) := by simp [insAt]
theorem put0 (x : D) : putD kT x [] = [(kT, x)] := rfl
theorem put1 (x y : D) : putD kB y [(kT, x)] = [(kT, x), (kB, y)] := rfl
theorem put2 (x y z : D) : putD kP z [(kT, x), (kB, y)] = [(kT, x), (kB, y), (kP, z)] := rfl
theorem put3 (x y z w : D) : putD kD w [(kT, x), (kB, y), (kP, z)] = [(kT, x), (kB, y), (kP, z), (kD, w)] := rfl
theorem get_b1 (x y : D) : [(kT, x), (kB, y)].lookup kB = some y := rfl
theorem get_b2 (x y z : D) : [(kT, x), (kB, y), (kP, z)].lookup kB = some y := rfl
theorem fFld_obj {C : Addr} {f : Str} {n : Nat} {s : Sto} {fs : List (Str × D)} {d : D} (h : insAt s n = some (C, fs)) (e : fs.lookup f = some d) : fFld C f (.obj n) s = some (d, s) := by simp [fFld, h, e]
theorem fStF_obj {C : Addr} {f : Str} {n : Nat} {s : Sto} {fs : List (Str × D)} {d : D} (h : insAt s n = some (C, fs)) (e : fs.length < 1000) : fStF C f (.obj n) d s = some (s.set n (.ins C (putD f d fs))) := by simp [fStF, h, e]
theorem make (A : Ax) {t : Tr} (g : Good t) (s : Sto) : ∃ s', mMk A.c_Metre (argN 2 (M_Metre_uu_init_ A)) [t.d] s = some (.ok (.obj s.length), s') ∧ Gr s s' ∧ MetreAt A s' s.length t := by
  have i0 : insAt (s ++ [.ins A.c_Metre []]) s.length = some (A.c_Metre, []) := ins_new
  obtain ⟨s1, t1, t2⟩ := is_tree A (s ++ [.ins A.c_Metre []]) g
  have i1 := ins_gr t2 i0
  have f1 := fStF_obj (f := kT) (d := t.d) i1 (by decide)
  rw [put0] at f1
  have i2 := ins_set (C := A.c_Metre) (fs := [(kT, t.d)]) i1
  have g2 : Gr s (s1.set s.length (.ins A.c_Metre [(kT, t.d)])) := (Gr.app.trans t2).set (Nat.le_refl _)
  obtain ⟨s3, b1, b2⟩ := borders A t (s1.set s.length (.ins A.c_Metre [(kT, t.d)])) (by have := g.ht; omega)
  have i3 := ins_gr b2 i2
  generalize hB : D.tup ((bd t 0 ++ [0]).map natD) = B at b1
  have f3 := fStF_obj (f := kB) (d := B) i3 (by simp)
  rw [put1] at f3
  have i4 := ins_set (C := A.c_Metre) (fs := [(kT, t.d), (kB, B)]) i3
  have g4 : Gr s (s3.set s.length (.ins A.c_Metre [(kT, t.d), (kB, B)])) := (g2.trans b2).set (Nat.le_refl _)
  generalize hs4 : s3.set s.length (.ins A.c_Metre [(kT, t.d), (kB, B)]) = s4 at f3 i4 g4
  have r4 := fFld_obj (f := kB) i4 (get_b1 t.d B)
  have f4 := fStF_obj (f := kP) (d := .int t.sz) i4 (by simp)
  rw [put2] at f4
  have i5 := ins_set (C := A.c_Metre) (fs := [(kT, t.d), (kB, B), (kP, .int t.sz)]) i4
  have g5 := g4.set (n := s.length) (o := .ins A.c_Metre [(kT, t.d), (kB, B), (kP, .int t.sz)]) (Nat.le_refl _)
  generalize hs5 : s4.set s.length (.ins A.c_Metre [(kT, t.d), (kB, B), (kP, .int t.sz)]) = s5 at f4 i5 g5
  have r5 := fFld_obj (f := kB) i5 (get_b2 t.d B (.int t.sz))
  have f5 := fStF_obj (f := kD) (d := .int (dp t)) i5 (by simp)
  rw [put3] at f5
  have i6 := ins_set (C := A.c_Metre) (fs := [(kT, t.d), (kB, B), (kP, .int t.sz), (kD, .int (dp t))]) i5
  have g6 := g5.set (n := s.length) (o := .ins A.c_Metre [(kT, t.d), (kB, B), (kP, .int t.sz), (kD, .int (dp t))]) (Nat.le_refl _)
  have hlen := bd_len t 0
  have ln : fLen [B] s4 = some (.int (t.sz + 1), s4) := by rw [← hB]; simp [hlen]
  have mx : fMaxA [B] s5 = some (.int (dp t), s5) := by
    have q := (dp_spec t).1
    have q2 := intsOf_nat (bd t 0 ++ [0])
    rw [← hB]
    unfold dpI at q
    simp only [fMaxA, orN, fMax, f2I, fMaxL, fLs, fMaxT, q2, q]
    simp
  refine ⟨_, ?_, g6, by unfold MetreAt flds; rw [hB]; exact i6⟩
  simp [mMk, M_Metre_uu_init_, ds_Metre_uu_init_, startD, t1, truD, dStF, f1, b1, f3, lift1, r4, ln, fSub, f4, r5, mx, f5]
end My

namespace My
open PySem L2 PyProof.Rows DV
def txt (l : List Bool) : Str := ⟨(l.map fun b => if b then 49 else 48).toArray⟩
def trim : List Bool → List Bool
  | [] => []
  | b :: r => match trim r with
    | [] => if b then [true] else []
    | c :: q => b :: c :: q
theorem strOk_txt (l : List Bool) (h : l.length ≤ 100) : PyData.canLay0 (.str (txt l)) = true := by
  simp [PyData.canLay0, PyData.strOk, txt]
theorem fEq_str {x y : Str} {s : Sto} (hx : PyData.canLay0 (.str x) = true) (hy : PyData.canLay0 (.str y) = true) : fEq (.str x) (.str y) s = some (.bl (x == y), s) := by
  have h1 : toPy s 64 (.str x) = some (.str x) := rfl
  have h2 : toPy s 64 (.str y) = some (.str y) := rfl
  have h3 : py2 s (.str x) (.str y) = some (.str x, .str y) := by
    simp only [py2, h1, h2, SeqAt.shaped, hx, hy, PyData.depth]
    rfl
  unfold fEq
  rw [h3]
  rfl
theorem txt_size (l : List Bool) : (txt l).length = l.length := by simp [txt, Str.length]
theorem cutLast (r : List Bool) (b : Bool) (h : r.length ≤ 3) : cutS (txt (r ++ [b])) (some (-1)) none = txt [b] := by
  match r, h with
  | [], _ => cases b <;> rfl
  | [x], _ => cases x <;> cases b <;> rfl
  | [x, y], _ => cases x <;> cases y <;> cases b <;> rfl
  | [x, y, z], _ => cases x <;> cases y <;> cases z <;> cases b <;> rfl
theorem cutInit (r : List Bool) (b : Bool) (h : r.length ≤ 3) : cutS (txt (r ++ [b])) none (some (-1)) = txt r := by
  match r, h with
  | [], _ => cases b <;> rfl
  | [x], _ => cases x <;> cases b <;> rfl
  | [x, y], _ => cases x <;> cases y <;> cases b <;> rfl
  | [x, y, z], _ => cases x <;> cases y <;> cases z <;> cases b <;> rfl
theorem cutNil : cutS (txt []) (some (-1)) none = txt [] := by rfl
theorem trim_app1 (r : List Bool) : trim (r ++ [true]) = r ++ [true] := by
  induction r with
  | nil => rfl
  | cons a r ih =>
    rw [List.cons_append, trim, ih]
    cases r <;> rfl
theorem trim_app0 (r : List Bool) : trim (r ++ [false]) = trim r := by
  induction r with
  | nil => rfl
  | cons a r ih =>
    rw [List.cons_append, trim, ih, trim]
theorem s0 : ("0" : Str) = txt [false] := by decide
theorem c0 : PyData.canLay0 (.str "0") = true := by rw [s0]; exact strOk_txt _ (by decide)
theorem e00 : (txt [false] == ("0" : Str)) = true := by decide
theorem e10 : (txt [true] == ("0" : Str)) = false := by decide
theorem en0 : (txt [] == ("0" : Str)) = false := by decide
theorem txt_cons (b : Bool) (l : List Bool) : (⟨#[if b = true then 49 else 48]⟩ : Str) ++ txt l = txt (b :: l) := by
  have q : ∀ (c : Nat) (m : List Nat), #[c] ++ m.toArray = (c :: m).toArray := fun c m => by simp
  exact congrArg (fun a => (⟨a⟩ : Str)) (q _ _)
theorem one_len (c : Nat) : Str.length ⟨#[c]⟩ = 1 := rfl
theorem rng_len (n : Nat) : (rngI 0 n).its.length = n := by simp [rngI]
theorem e_nil : ("" : Str) = txt [] := by decide
theorem seq_nx {a b : DS} {Δ Δ1 : Dn} {s s1 : Sto} (h : a Δ s = some (.nx Δ1, s1)) : dSeq a b Δ s = b Δ1 s1 := by
  rw [dSeq_eq, h]
theorem range1 {da : DA} {Δ : Dn} {s s1 : Sto} {k : Nat} (h : da Δ s = some (.ok [.int k], s1)) (hk : k ≤ 100000) : iRange1 da Δ s = some (.ok (rngI 0 k), s1) := by
  have rk := rngOk_nat hk
  rw [iRange1_eq, mbind_ok, h]
  simp only [rk, if_true, Int.toNat_natCast]
theorem for_of {di : DI} {g : DGf} {b : DS} {Δ : Dn} {s s1 : Sto} {I : Itd} {r : RS} (h : di Δ s = some (.ok I, s1)) (h2 : forRun I g b I.its Δ s1 = r) : dFor di g b Δ s = r := by
  rw [dFor_eq, sbind_eq, h]
  exact h2
theorem fn_rt {n : Nat} {b : DS} {xs : List D} {s s1 : Sto} {d : D} (h : b (startD n xs) s = some (.rt d, s1)) : runFn n b xs s = some (.ok d, s1) := by
  rw [runFn_eq, h]
end My

namespace My
open PySem L2 PyProof.Rows DV
/-! ### runs put together (as in base/B1, for laws on the R files) -/
theorem cn {a : DX} {r : DA} {Δ : Dn} {s s1 s2 : Sto} {x : D} {xs : List D} (h1 : a Δ s = some (.ok x, s1)) (h2 : r Δ s1 = some (.ok xs, s2)) : dCons a r Δ s = some (.ok (x :: xs), s2) := by
  rw [dCons_eq, mbind_ok, h1]
  show mbind (r Δ) (fun y => mret (x :: y)) s1 = _
  rw [mbind_ok, h2]
  rfl
theorem tp {da : DA} {Δ : Dn} {s s1 : Sto} {xs : List D} (h : da Δ s = some (.ok xs, s1)) (hz : xs.length ≤ 1000) : dTup da Δ s = some (.ok (.tup xs), s1) := by
  rw [dTup_eq, mbind_ok, h]
  show (if xs.length ≤ sizeLine then mret (D.tup xs) else mfail) s1 = _
  rw [if_pos (le_line hz)]
  rfl
theorem ls {da : DA} {Δ : Dn} {s s1 : Sto} {xs : List D} (h : da Δ s = some (.ok xs, s1)) (hz : xs.length ≤ 1000) : dLst da Δ s = some (.ok (.obj s1.length), s1 ++ [.lst xs]) := by
  rw [dLst_eq, mbind_ok, h]
  show (if xs.length ≤ sizeLine then mnew (DO.lst xs) else mfail) s1 = _
  rw [if_pos (le_line hz)]
  rfl
theorem asg {de : DX} {g : DGf} {Δ Δ1 : Dn} {s s1 s2 : Sto} {d : D} (h : de Δ s = some (.ok d, s1)) (h2 : g d Δ s1 = some (Δ1, s2)) : dAsg de g Δ s = some (.nx Δ1, s2) := by
  rw [dAsg_eq, sbind_eq, h]
  simp only [h2]
theorem me5 {C : Addr} {m : Str} {f : FnD} {a : DX} {da : DA} {Δ : Dn} {s s1 s2 : Sto} {x : D} {xs : List D} (h1 : a Δ s = some (.ok x, s1)) (h2 : mIns C m x s1 = some (.ok (), s1)) (h3 : da Δ s1 = some (.ok xs, s2)) : dMe C m f a da Δ s = f (x :: xs) s2 := by
  rw [dMe_eq, mbind_ok, h1]
  show mbind (mIns C m x) (fun _ => mbind (da Δ) fun xs => f (x :: xs)) s1 = _
  rw [mbind_ok, h2]
  show mbind (da Δ) (fun xs => f (x :: xs)) s1 = _
  rw [mbind_ok, h3]
theorem cl5 {f : FnD} {da : DA} {Δ : Dn} {s s1 : Sto} {xs : List D} (h : da Δ s = some (.ok xs, s1)) : dCl f da Δ s = f xs s1 := by
  rw [dCl_eq, mbind_ok, h]
theorem ag5 {n : Nat} {f : FnD} {xs : List D} {s : Sto} (h : xs.length = n) : argN n f xs s = f xs s := by rw [argN_eq, if_pos h]
theorem op5 {f : Op2} {a b : DX} {Δ : Dn} {s s1 s2 s3 : Sto} {x y d : D} (h1 : a Δ s = some (.ok x, s1)) (h2 : b Δ s1 = some (.ok y, s2)) (h3 : f x y s2 = some (d, s3)) : dOp f a b Δ s = some (.ok d, s3) := by
  rw [dOp_eq, mbind_ok, h1]
  show mbind (b Δ) (fun y => lift2 f x y) s1 = _
  rw [mbind_ok, h2]
  show lift2 f x y s2 = _
  rw [lift2_eq, h3]
theorem te5 {a : DX} {Δ : Dn} {s s1 : Sto} {b : Bool} (h : a Δ s = some (.ok (.bl b), s1)) : dTest a Δ s = some (.ok b, s1) := by
  rw [dTest_eq, mbind_ok, h]
  rfl
theorem tr5 {a : DX} {Δ : Dn} {s s1 : Sto} {b : Bool} (h : a Δ s = some (.ok (.bl b), s1)) : dTruth a Δ s = some (.ok b, s1) := by
  rw [dTruth_eq, mbind_ok, h]
  cases b <;> rfl
theorem if5 {t : DT} {a b : DS} {Δ : Dn} {s s1 : Sto} {c : Bool} (h : t Δ s = some (.ok c, s1)) : dIfS t a b Δ s = if c = true then a Δ s1 else b Δ s1 := by
  rw [dIfS_eq, sbind_eq, h]
theorem or5 {t u : DT} {Δ : Dn} {s s1 : Sto} (h : t Δ s = some (.ok false, s1)) : dOr t u Δ s = u Δ s1 := by
  rw [dOr_eq, mbind_ok, h]
  rfl
theorem no5 {t : DT} {a : DS} {Δ : Dn} {s s1 : Sto} (h : t Δ s = some (.ok false, s1)) : dIfS t a dNx Δ s = some (.nx Δ, s1) := by
  rw [if5 h]
  rfl
theorem cb5 {f : OpN} {da : DA} {Δ : Dn} {s s1 s2 : Sto} {xs : List D} {d : D} (h : da Δ s = some (.ok xs, s1)) (h2 : f xs s1 = some (d, s2)) : dCB f da Δ s = some (.ok d, s2) := by
  rw [dCB_eq, mbind_ok, h]
  show liftN f xs s1 = _
  rw [liftN_eq, h2]
theorem ort5 {t u : DT} {Δ : Dn} {s s1 : Sto} (h : t Δ s = some (.ok true, s1)) : dOr t u Δ s = some (.ok true, s1) := by
  rw [dOr_eq, mbind_ok, h]
  rfl
theorem andt5 {t u : DT} {Δ : Dn} {s s1 : Sto} (h : t Δ s = some (.ok true, s1)) : dAnd t u Δ s = u Δ s1 := by
  rw [dAnd_eq, mbind_ok, h]
  rfl
theorem andf5 {t u : DT} {Δ : Dn} {s s1 : Sto} (h : t Δ s = some (.ok false, s1)) : dAnd t u Δ s = some (.ok false, s1) := by
  rw [dAnd_eq, mbind_ok, h]
  rfl
theorem yes5 {t : DT} {de : DX} {Δ : Dn} {s s1 s2 : Sto} {d : D} (h : t Δ s = some (.ok true, s1)) (h2 : de Δ s1 = some (.ok d, s2)) : dIfS t (dRet de) dNx Δ s = some (.rt d, s2) := by
  rw [if5 h, if_pos rfl]
  unfold dRet sbind
  rw [h2]
theorem gr_at {s s' : Sto} (g : Gr s s') {i : Nat} {o : DO} (h : s[i]? = some o) : s'[i]? = some o := by
  obtain ⟨l, rfl⟩ := g
  rw [List.getElem?_append_left (List.getElem?_eq_some_iff.mp h).1]
  exact h
theorem seq_rt {a b : DS} {Δ : Dn} {s s1 : Sto} {d : D} (h : a Δ s = some (.rt d, s1)) : dSeq a b Δ s = some (.rt d, s1) := by unfold dSeq; rw [h]
theorem lc_of {vs : List Nat} {di : DI} {g : DGf} {tt : DT} {de : DX} {Δ : Dn} {s s0 s1 : Sto} {I : Itd} (h : di Δ s = some (.ok I, s0)) (h2 : lcRun I g tt de s0.length I.its (wipeD Δ vs) (s0 ++ [.lst []]) = some s1) : dLc vs di g tt de Δ s = some (.ok (.obj s0.length), s1) := by
  rw [dLc_eq, mbind_ok, h]
  simp only [h2]
theorem cut_both (xs : List D) {i j : Nat} (h : i ≤ j) (k : j ≤ xs.length) : DV.cutD xs (some (i : Int)) (some (j : Int)) = (xs.drop i).take (j - i) := by
  unfold DV.cutD
  rw [HT.sIx_nat, HT.sIx_nat, Nat.min_eq_left k, Nat.min_eq_left (by omega)]
theorem o1 {f : Op1} {a : DX} {Δ : Dn} {s s1 s2 : Sto} {x d : D} (h : a Δ s = some (.ok x, s1)) (h2 : f x s1 = some (d, s2)) : dOp1 f a Δ s = some (.ok d, s2) := by
  unfold dOp1
  rw [mbind_ok, h]
  show lift1 _ _ s1 = _
  unfold lift1
  rw [h2]
end My

namespace My
open PySem L2 PyProof.Rows DV
/-! ### the head of a law over a script -/
theorem pow18 : powOk 10 18 = true := by decide
theorem begin_run (A : Ax) (s : Sto) (c : Int) (k : Nat) (h : k < 100) : ∃ a b : Int, M_u_law_begin A [.int c, .int k] s = some (.ok (.obj s.length), s ++ [.lst [.int a, .int b, .int 0]]) := by
  have l3 : 3 ≤ sizeLine := le_line (by decide)
  have m : mulOk 977 k = true := by unfold mulOk; simp
  have q : ∀ i j : Int, fMaxA [.int i, .int j] s = some (.int (maxI i j), s) := fun i j => rfl
  refine ⟨maxI 0 (c - 10 ^ (18 : Int).toNat), c + 977 * k, ?_⟩
  simp [M_u_law_begin, ds_u_law_begin, startD, fSub, fPow, pow18, q, fAdd, fAddI, orOp, fMul, fMulI, m, l3]
theorem enum_mem : ∀ (xs : List D) (k : Nat) (d : D), d ∈ enumD k xs → ∃ (i : Nat) (x : D), i < k + xs.length ∧ x ∈ xs ∧ d = .tup [.int i, x]
  | [], _, _, h => by cases h
  | x :: r, k, d, h => by
    rw [enumD] at h
    rcases List.mem_cons.mp h with rfl | h
    · exact ⟨k, x, by simp, by simp, rfl⟩
    · obtain ⟨i, y, h1, h2, h3⟩ := enum_mem r (k + 1) d h
      exact ⟨i, y, by simp at h1 ⊢; omega, by simp [h2], h3⟩
def AllI (xs : List D) : Prop := xs.length ≤ 63 ∧ ∀ x ∈ xs, ∃ c : Int, x = .int c
theorem gr_old {s s' : Sto} (h1 : s.length ≤ s'.length) (h2 : ∀ i, i < s.length → s'[i]? = s[i]?) : Gr s s' := by
  refine ⟨s'.drop s.length, ?_⟩
  apply List.ext_getElem?
  intro i
  by_cases h : i < s.length
  · rw [h2 i h, List.getElem?_append_left h]
  · rw [List.getElem?_append_right (by omega), List.getElem?_drop]
    congr 1
    omega
theorem old_gr {s s' : Sto} (h : Gr s s') {i : Nat} (hi : i < s.length) : s'[i]? = s[i]? := by
  obtain ⟨l, rfl⟩ := h
  exact List.getElem?_append_left hi
theorem begin_asg (A : Ax) {s : Sto} {Δ Δ1 : Dn} {g : DGf} {i j : Nat} {c : Int} {k : Nat} (h : k < 100) (hi : dVar i Δ s = some (.ok (.int c), s)) (hj : dVar j Δ s = some (.ok (.int k), s)) (hg : ∀ s', g (.obj s.length) Δ s' = some (Δ1, s')) :
    ∃ s1, dAsg (dCl (argN 2 (M_u_law_begin A)) (dCons (dVar i) (dCons (dVar j) dNil))) g Δ s = some (.nx Δ1, s1) ∧ Gr s s1 ∧ Rnd s1 s.length 100000 := by
  obtain ⟨a, b, hb⟩ := begin_run A s c k h
  exact ⟨_, asg ((cl5 (cn hi (cn hj rfl))).trans ((ag5 rfl).trans hb)) (hg _), Gr.app, ⟨a, b, 0, lstAt_new, Int.le_refl _, by decide⟩⟩
theorem cut_any {xs : List D} (h : AllI xs) (lo hi : Option Int) : AllI (DV.cutD xs lo hi) := by
  unfold DV.cutD
  refine ⟨?_, fun x hx => h.2 x (List.mem_of_mem_drop (List.mem_of_mem_take hx))⟩
  rw [List.length_take, List.length_drop]
  have := h.1
  omega
theorem all_ns {ns : List Int} (h : ns.length ≤ 63) : AllI (ns.map D.int) := ⟨by simpa using h, fun x hx => by
    obtain ⟨c, _, rfl⟩ := List.mem_map.mp hx
    exact ⟨c, rfl⟩⟩
/-- enumerate((script or [5])[:hi]) -/
theorem head_it {ns : List Int} (h : ns.length ≤ 63) {Δ : Dn} {s : Sto} {i d hi : Int} (hv : Δ[0]? = some (some (.fz (ns.map D.int)))) :
    ∃ (m : Nat) (s' : Sto) (xs : List D), AllI xs ∧ lstAt s' m = some xs ∧ Gr s s' ∧ DV.iEnum (dCons (dSl fSlA (dOrT (dVar 0) (dLst (dCons (dC (.int d)) dNil))) dNoPt (dPt (dC (.int hi)))) dNil) Δ s = some (.ok ⟨enumD 0 xs, some (m, xs)⟩, s') := by
  have l1 : 1 ≤ sizeLine := le_line (by decide)
  cases ns with
  | nil =>
    have e0 : lstAt (s ++ [DO.lst [D.int d]]) s.length = some [.int d] := lstAt_new
    have e1 : lstAt ((s ++ [DO.lst [D.int d]]) ++ [DO.lst (DV.cutD [D.int d] none (some hi))]) (s ++ [DO.lst [D.int d]]).length = some (DV.cutD [D.int d] none (some hi)) := lstAt_new
    have el : (s ++ [DO.lst [D.int d]]).length = s.length + 1 := by simp
    refine ⟨(s ++ [DO.lst [D.int d]]).length, (s ++ [DO.lst [D.int d]]) ++ [DO.lst (DV.cutD [D.int d] none (some hi))], DV.cutD [D.int d] none (some hi), cut_any ⟨by simp, fun x hx => ⟨d, by simpa using hx⟩⟩ _ _, e1, Gr.app.trans Gr.app, ?_⟩
    have q : dSl fSlA (dOrT (dVar 0) (dLst (dCons (dC (.int d)) dNil))) dNoPt (dPt (dC (.int hi))) Δ s = some (.ok (.obj (s ++ [DO.lst [D.int d]]).length), (s ++ [DO.lst [D.int d]]) ++ [DO.lst (DV.cutD [D.int d] none (some hi))]) := by
      have t : truD (.fz ([] : List D)) s = some false := rfl
      simp [dSl, dOrT, hv, t, l1, liftS, dNoPt, dPt, fSlA, fSl, e0]
    unfold DV.iEnum
    rw [mbind_ok, cn q rfl]
    simp only [e1]
  | cons n r =>
    have e1 : lstAt (s ++ [DO.lst (DV.cutD ((n :: r).map D.int) none (some hi))]) s.length = some (DV.cutD ((n :: r).map D.int) none (some hi)) := lstAt_new
    refine ⟨s.length, s ++ [DO.lst (DV.cutD ((n :: r).map D.int) none (some hi))], DV.cutD ((n :: r).map D.int) none (some hi), cut_any (all_ns h) _ _, e1, Gr.app, ?_⟩
    have q : dSl fSlA (dOrT (dVar 0) (dLst (dCons (dC (.int d)) dNil))) dNoPt (dPt (dC (.int hi))) Δ s = some (.ok (.obj s.length), s ++ [DO.lst (DV.cutD ((n :: r).map D.int) none (some hi))]) := by
      have t : truD (.fz ((n :: r).map D.int)) s = some true := rfl
      simp only [List.map_cons] at hv t ⊢
      simp [dSl, dOrT, hv, t, liftS, dNoPt, dPt, fSlA, fSl]
    unfold DV.iEnum
    rw [mbind_ok, cn q rfl]
    simp only [e1]
end My

namespace My
open PySem L2 PyProof.Rows DV
/-! ### points of places: the program's, the law's -/
def lp : Nat → Nat → List Bool → List Bool
  | 0, _, acc => acc
  | k + 1, n, acc => lp k (n / 2) ((n % 2 == 1) :: acc)
theorem lp_len : ∀ (k n : Nat) (acc : List Bool), (lp k n acc).length = k + acc.length
  | 0, _, acc => by simp [lp]
  | k + 1, n, acc => by
    rw [lp, lp_len k]
    simp
    omega
theorem lp_mod : ∀ (k n : Nat) (acc : List Bool), lp k (n % 2 ^ k) acc = lp k n acc
  | 0, _, _ => rfl
  | k + 1, n, acc => by
    have e1 : n % 2 ^ (k + 1) / 2 = n / 2 % 2 ^ k := by
      have := Nat.mod_mul (x := n) (a := 2) (b := 2 ^ k)
      rw [Nat.pow_succ, Nat.mul_comm (2 ^ k), this]
      omega
    have e2 : n % 2 ^ (k + 1) % 2 = n % 2 := Nat.mod_mod_of_dvd n ⟨2 ^ k, by rw [Nat.pow_succ, Nat.mul_comm]⟩
    rw [lp, lp, e1, e2, lp_mod k]
theorem fin_pt : ∀ k : Fin 6, ∀ r : Fin 32, r.val < 2 ^ k.val → Txt.rstripChars (Txt.zfill (binS (r.val : Int)) (k.val : Int)) ("0" : Str) = txt (trim (lp k.val r.val [])) := by decide +kernel
theorem fin_b : ∀ r : Fin 32, (binS (r.val : Int)).length ≤ 1000 := by decide +kernel
theorem fin_z : ∀ k : Fin 6, ∀ r : Fin 32, (Txt.zfill (binS (r.val : Int)) (k.val : Int)).length ≤ 1000 := by decide +kernel
theorem fin_pad : ∀ k : Fin 6, PadOk (k.val : Int) = true := by decide +kernel
theorem fin_shl : ∀ k : Fin 6, ∀ q : Fin 20, shlOk (q.val : Int) (k.val : Int) = true := by decide +kernel
/-- the point of place c, at k halvings -/
def P (c k : Nat) : D := .tup [.int (c / 2 ^ k : Nat), .str (txt (trim (lp k c [])))]
theorem ptof_gen (A : Ax) (s : Sto) (c k Q X R : Int) (B Z Y : Str) (h1 : fShr (.int c) (.int k) s = some (.int Q, s)) (h2 : fShl (.int Q) (.int k) s = some (.int X, s)) (h3 : fSub (.int c) (.int X) s = some (.int R, s)) (h4 : fFmtB (.int R) s = some (.str B, s)) (h5 : fZfill (.str B) [.int k] s = some (.str Z, s)) (h6 : fRstrip (.str Z) [.str "0"] s = some (.str Y, s)) : M_point_of A [.int c, .int k] s = some (.ok (.tup [.int Q, .str Y]), s) := by
  have l2 : 2 ≤ sizeLine := le_line (by decide)
  have ts : ∀ x : Str, tyD "str" (.str x) s = true := fun _ => rfl
  simp [M_point_of, ds_point_of, startD, h1, h2, h3, h4, dBM, mTy, ts, DV.liftM, h5, h6, l2]
theorem ptof (A : Ax) (s : Sto) (c k : Nat) (hk : k ≤ 5) (hc : c ≤ 16 * 2 ^ k) : M_point_of A [.int c, .int k] s = some (.ok (P c k), s) := by
  have p := Nat.two_pow_pos k
  have p32 : 2 ^ k ≤ 32 := Nat.pow_le_pow_right (n := 2) (by decide) hk
  have hq : c / 2 ^ k < 20 := by
    rw [Nat.div_lt_iff_lt_mul p]
    omega
  have hr : c % 2 ^ k < 2 ^ k := Nat.mod_lt _ p
  have f1 := fin_pt ⟨k, by omega⟩ ⟨c % 2 ^ k, by omega⟩ hr
  have f2 := fin_b ⟨c % 2 ^ k, by omega⟩
  have f3 := fin_z ⟨k, by omega⟩ ⟨c % 2 ^ k, by omega⟩
  have f4 := fin_pad ⟨k, by omega⟩
  have f5 := fin_shl ⟨k, by omega⟩ ⟨c / 2 ^ k, hq⟩
  simp only at f1 f2 f3 f4 f5
  rw [lp_mod] at f1
  unfold P
  refine ptof_gen A s c k (c / 2 ^ k : Nat) ((c / 2 ^ k : Nat) * 2 ^ k : Nat) (c % 2 ^ k : Nat) (binS (c % 2 ^ k : Nat)) (Txt.zfill (binS (c % 2 ^ k : Nat)) k) _ ?_ ?_ ?_ ?_ ?_ ?_
  · have : shrOk c k = true := by unfold shrOk; simp
    unfold fShr
    rw [fI_eq, if_pos this]
    simp
  · unfold fShl
    rw [fI_eq, if_pos f5]
    simp
  · have e : (c : Int) - ((c / 2 ^ k * 2 ^ k : Nat) : Int) = ((c % 2 ^ k : Nat) : Int) := by
      have := Nat.div_add_mod c (2 ^ k)
      rw [Nat.mul_comm] at this
      omega
    unfold fSub
    rw [fI_eq, e]
    rfl
  · unfold fFmtB
    simp only
    rw [if_pos ⟨by omega, le_line f2⟩]
  · unfold fZfill
    simp only
    rw [if_pos f4]
  · have z : lenOk (Txt.zfill (binS (c % 2 ^ k : Nat)) k) = true := by unfold lenOk; exact decide_eq_true (le_line f3)
    unfold fRstrip fS1
    simp only
    rw [if_pos z, f1]
/-! ### the law's -/
theorem last_any (r : List Bool) (b : Bool) : cutS (txt (r ++ [b])) (some (-1)) none = txt [b] := by
  have hn : (txt (r ++ [b])).length = r.length + 1 := by rw [txt_size]; simp
  have h1 : HT.sIx (r.length + 1) 0 (some (-1)) = r.length := by
    unfold HT.sIx
    simp
    omega
  have h2 : HT.sIx (r.length + 1) (r.length + 1) none = r.length + 1 := rfl
  have h3 : (txt (r ++ [b])).cps.toList = (r.map fun b => if b then 49 else 48) ++ [if b then 49 else 48] := by simp [txt]
  unfold cutS
  rw [hn, h1, h2, h3, List.drop_append_of_le_length (by simp), List.drop_eq_nil_of_le (by simp)]
  have h4 : r.length + 1 - r.length = 1 := by omega
  rw [h4]
  rfl
theorem init_any (r : List Bool) (b : Bool) : cutS (txt (r ++ [b])) none (some (-1)) = txt r := by
  have hn : (txt (r ++ [b])).length = r.length + 1 := by rw [txt_size]; simp
  have h1 : HT.sIx (r.length + 1) 0 none = 0 := rfl
  have h2 : HT.sIx (r.length + 1) (r.length + 1) (some (-1)) = r.length := by
    unfold HT.sIx
    simp
    omega
  have h3 : (txt (r ++ [b])).cps.toList = (r.map fun b => if b then 49 else 48) ++ [if b then 49 else 48] := by simp [txt]
  unfold cutS
  rw [hn, h1, h2, h3, List.drop_zero, Nat.sub_zero, List.take_append_of_le_length (by simp), List.take_of_length_le (by simp)]
  rfl
abbrev ptT : DT := dTest (dOp fEq (dSl fSlA (dVar 3) (dPt (dOp1 fNeg (dC (.int 1)))) dNoPt) (dC (.str "0")))
abbrev ptB : DS := dAsg (dSl fSlA (dVar 3) dNoPt (dPt (dOp1 fNeg (dC (.int 1))))) (gN 3)
theorem trim_run (x0 x1 x2 x4 : Option D) (s : Sto) : ∀ (f : Nat) (l : List Bool), l.length ≤ 90 → l.length < f → whRun ptT ptB f [x0, x1, x2, some (.str (txt l)), x4] s = some (.nx [x0, x1, x2, some (.str (txt (trim l))), x4], s)
  | 0, _, _, h => by omega
  | f + 1, l, h4, hf => by
    have z1 : (txt l).length ≤ sizeLine := by rw [txt_size]; exact le_line (by omega)
    rcases List.eq_nil_or_concat l with rfl | ⟨r, b, rfl⟩
    · have q := fEq_str (s := s) (strOk_txt [] (by decide)) c0
      rw [en0] at q
      unfold whRun
      simp [dSl, dPt, dNoPt, lift1, fNeg, liftS, fSlA, fSl, z1, cutNil, q, trim]
    · rw [List.concat_eq_append] at *
      have hr : r.length ≤ 89 := by simp at h4; omega
      have q := fEq_str (s := s) (strOk_txt [b] (by simp)) c0
      cases b with
      | true =>
        rw [e10] at q
        unfold whRun
        simp [dSl, dPt, dNoPt, lift1, fNeg, liftS, fSlA, fSl, z1, last_any r true, q, trim_app1]
      | false =>
        rw [e00] at q
        have ih := trim_run x0 x1 x2 x4 s f r (by omega) (by simp at hf; omega)
        unfold whRun
        simp [dSl, dPt, dNoPt, lift1, fNeg, liftS, fSlA, fSl, z1, last_any r false, init_any r false, q, trim_app0, ptT, ptB] at ih ⊢
        exact ih
def dgB : DS := dSeq (dAsg (dOp fAdd (dOp fIx (dC (.str "01")) (dOp fMod (dCB fInt (dCons (dVar 4) dNil)) (dC (.int 2)))) (dVar 3)) (gN 3))
  (dAsg (dOp fDiv (dVar 4) (dC (.int 2))) (gN 4))
theorem at01 (n : Nat) : atI (("01" : Str).cps.toList) (((n % 2 : Nat) : Int)) = some (if (n % 2 == 1) = true then 49 else 48) := by
  rcases (show n % 2 = 0 ∨ n % 2 = 1 by omega) with h | h <;> rw [h] <;> rfl
theorem l01 : ("01" : Str).length ≤ sizeLine := le_line (by decide)
theorem dg_turn (n : Nat) (l : List Bool) (x0 x1 x2 : Option D) (s : Sto) (h : l.length ≤ 100) : dgB [x0, x1, x2, some (.str (txt l)), some (.int n)] s = some (.nx [x0, x1, x2, some (.str (txt ((n % 2 == 1) :: l))), some (.int (n / 2 : Nat))], s) := by
  have e1 : (n : Int).fmod 2 = ((n % 2 : Nat) : Int) := fmodN n 2
  have e2 : (n : Int).fdiv 2 = ((n / 2 : Nat) : Int) := fdivN n 2
  have z : 1 + l.length ≤ sizeLine := le_line (by omega)
  have q := at01 n
  have t := txt_cons (n % 2 == 1) l
  rw [← e1] at q
  have z2 := txt_size l
  simp only [dgB, dSeq_eq, dAsg_eq, sbind_eq, dOp_eq, mbind_ok, dC_eq, dCB_eq, dCons_eq, dVar_eq, dNil_eq, mret_eq, List.getElem?_cons_zero, liftN_eq, fInt_int, lift2_eq, fMod, fI_eq, mod2, if_true, fIx_str, l01, q, List.getElem?_cons_succ, fAdd, orOp, fAddI, fI_str, fAddS, one_len, z2, z, t, gN_eq, List.set_cons_succ, List.set_cons_zero, fDiv, div2, e2]
def ptW : DS := whRun ptT ptB 10
theorem dg_loop (x0 x1 : Option D) (s : Sto) (I : Itd) (hI : I.src = none) : ∀ (r : List D) (n : Nat) (l : List Bool) (x2 : Option D), r.length + l.length ≤ 100 → ∃ y2, forRun I (gN 2) dgB r [x0, x1, x2, some (.str (txt l)), some (.int n)] s = some (.nx [x0, x1, y2, some (.str (txt (lp r.length n l))), some (.int (n / 2 ^ r.length : Nat))], s) := by
  intro r
  induction r with
  | nil => exact fun n l x2 h => ⟨x2, by simp [forRun, Itd.still, hI, lp]⟩
  | cons d r ih =>
    intro n l x2 h
    obtain ⟨y2, hy⟩ := ih (n / 2) ((n % 2 == 1) :: l) (some d) (by simp at h ⊢; omega)
    have t := dg_turn n l x0 x1 (some d) s (by simp at h; omega)
    have p : n / 2 / 2 ^ r.length = n / 2 ^ (r.length + 1) := by rw [Nat.div_div_eq_div_mul, Nat.pow_succ, Nat.mul_comm]
    rw [p] at hy
    refine ⟨y2, ?_⟩
    have g : gN 2 d [x0, x1, x2, some (.str (txt l)), some (.int n)] s = some ([x0, x1, some d, some (.str (txt l)), some (.int n)], s) := rfl
    unfold forRun
    simp only [Itd.still, hI, if_true, g, t, hy, List.length_cons, lp]
theorem lpoint (A : Ax) (s : Sto) (n k : Nat) (hk : k ≤ 5) : M_u_law_point A [.int n, .int k] s = some (.ok (P n k), s) := by
  have l2 : 2 ≤ sizeLine := le_line (by decide)
  obtain ⟨y2, h1⟩ := dg_loop (some (.int n)) (some (.int k)) s (rngI 0 k) rfl (rngI 0 k).its n [] none (by rw [rng_len]; simp; omega)
  rw [rng_len] at h1
  have h2 : ptW [some (.int n), some (.int k), y2, some (.str (txt (lp k n []))), some (.int (n / 2 ^ k : Nat))] s = _ := trim_run (some (.int n)) (some (.int k)) y2 (some (.int (n / 2 ^ k : Nat))) s 10 (lp k n []) (by rw [lp_len]; simp; omega) (by rw [lp_len]; simp; omega)
  have q1 : dPar 3 4 (dCons (dC (.str "")) (dCons (dVar 0) dNil)) [some (.int n), some (.int k), none, none, none] s = some (.nx [some (.int n), some (.int k), none, some (.str (txt [])), some (.int n)], s) := by rw [← e_nil]; rfl
  have q2 : dFor (iRange1 (dCons (dVar 1) dNil)) (gN 2) dgB [some (.int n), some (.int k), none, some (.str (txt [])), some (.int n)] s = _ := for_of (range1 (k := k) (s1 := s) rfl (by omega)) h1
  have q4 : dRet (dTup (dCons (dVar 4) (dCons (dVar 3) dNil))) [some (.int n), some (.int k), y2, some (.str (txt (trim (lp k n [])))), some (.int (n / 2 ^ k : Nat))] s = some (.rt (P n k), s) := by simp [l2, P]
  refine fn_rt ?_
  have hd : ds_u_law_point A = dSeq (dPar 3 4 (dCons (dC (.str "")) (dCons (dVar 0) dNil))) (dSeq (dFor (iRange1 (dCons (dVar 1) dNil)) (gN 2) dgB) (dSeq ptW (dRet (dTup (dCons (dVar 4) (dCons (dVar 3) dNil)))))) := rfl
  rw [hd]
  have hs : startD 5 [.int n, .int k] = [some (.int n), some (.int k), none, none, none] := rfl
  rw [hs, seq_nx q1, seq_nx q2, seq_nx h2, q4]
end My

namespace My
open PySem L2 PyProof.Rows DV
/-! ### the spots near an onset: one row of neighbours -/
def absI (i : Int) : Int := if i < 0 then -i else i
theorem filter_row (lo hi : Nat) : ∀ N : Nat, (List.range N).filter (fun x => decide (lo ≤ x ∧ x < hi)) = (List.range (min hi N - lo)).map (lo + ·)
  | 0 => by simp
  | N + 1 => by
    rw [List.range_succ, List.filter_append, filter_row lo hi N]
    by_cases h : lo ≤ N ∧ N < hi
    · have e1 : min hi (N + 1) - lo = (min hi N - lo) + 1 := by omega
      have e2 : lo + (min hi N - lo) = N := by omega
      rw [e1, List.range_succ, List.map_append]
      simp [h, e2]
    · have e1 : min hi (N + 1) - lo = min hi N - lo := by omega
      rw [e1]
      simp [h]
/-- is it near? as the law asks -/
def nearB (a b s0 s1 cell : Int) (x : Nat) : Bool := decide (absI ((x : Int) * b - a * cell) * s1 ≤ s0 * cell * b)
/-- the ends of the row, as the program counts them -/
def fst' (a b s0 s1 cell : Int) : Int := -((s0 * b * cell - a * s1 * cell) / (b * s1))
def lst' (a b s0 s1 cell : Int) : Int := (a * s1 * cell + s0 * b * cell) / (b * s1)
theorem absI_le {i j k : Int} (hk : 0 ≤ k) : absI i * k ≤ j ↔ -j ≤ i * k ∧ i * k ≤ j := by
  unfold absI
  split
  · rename_i h
    have : i * k ≤ 0 := Int.mul_nonpos_of_nonpos_of_nonneg (by omega) hk
    rw [Int.neg_mul]
    omega
  · rename_i h
    have : 0 ≤ i * k := Int.mul_nonneg (by omega) hk
    omega
theorem near_iff {a b s0 s1 cell : Int} (hb : 0 < b) (h1 : 0 < s1) (x : Nat) : nearB a b s0 s1 cell x = true ↔ fst' a b s0 s1 cell ≤ x ∧ (x : Int) ≤ lst' a b s0 s1 cell := by
  have hw : 0 < b * s1 := Int.mul_pos hb h1
  unfold nearB
  rw [decide_eq_true_iff, absI_le (Int.le_of_lt h1)]
  have e : ((x : Int) * b - a * cell) * s1 = (x : Int) * (b * s1) - a * s1 * cell := by
    rw [Int.sub_mul, Int.mul_assoc, Int.mul_right_comm a cell s1]
  have e2 : s0 * cell * b = s0 * b * cell := Int.mul_right_comm s0 cell b
  rw [e, e2]
  have q1 : (x : Int) ≤ lst' a b s0 s1 cell ↔ (x : Int) * (b * s1) ≤ a * s1 * cell + s0 * b * cell := Int.le_ediv_iff_mul_le hw
  have q2 : fst' a b s0 s1 cell ≤ x ↔ -(x : Int) * (b * s1) ≤ s0 * b * cell - a * s1 * cell := by
    rw [← Int.le_ediv_iff_mul_le hw]
    unfold fst'
    omega
  rw [q1, q2, Int.neg_mul]
  generalize (x : Int) * (b * s1) = X
  generalize a * s1 * cell = M
  generalize s0 * b * cell = Y
  omega
theorem scaled {L : Int} (hL : 0 < L) (a b s0 s1 cell : Int) : fst' (a * L) (b * L) (s0 * L) (s1 * L) cell = fst' a b s0 s1 cell ∧ lst' (a * L) (b * L) (s0 * L) (s1 * L) cell = lst' a b s0 s1 cell := by
  have hLL : 0 < L * L := Int.mul_pos hL hL
  have e1 : a * L * (s1 * L) * cell = L * L * (a * s1 * cell) := by
    simp only [Int.mul_comm, Int.mul_left_comm, Int.mul_assoc]
  have e2 : s0 * L * (b * L) * cell = L * L * (s0 * b * cell) := by
    simp only [Int.mul_comm, Int.mul_left_comm, Int.mul_assoc]
  have e3 : b * L * (s1 * L) = L * L * (b * s1) := by
    simp only [Int.mul_comm, Int.mul_left_comm, Int.mul_assoc]
  unfold fst' lst'
  rw [e1, e2, e3, ← Int.mul_sub, ← Int.mul_add, Int.mul_ediv_mul_of_pos _ _ hLL, Int.mul_ediv_mul_of_pos _ _ hLL]
  exact ⟨rfl, rfl⟩
/-- first and last place of the row -/
def rF (a b s0 s1 cell : Int) : Int := maxI (fst' a b s0 s1 cell) 0
def rL (a b s0 s1 cell : Int) (N : Nat) : Int := minI (lst' a b s0 s1 cell) ((N : Int) - 1)
theorem row_eq {a b s0 s1 cell : Int} (hb : 0 < b) (h1 : 0 < s1) (hl : 0 ≤ lst' a b s0 s1 cell) (N : Nat) :
    (List.range N).filter (nearB a b s0 s1 cell) = (List.range (rL a b s0 s1 cell N + 1 - rF a b s0 s1 cell).toNat).map ((rF a b s0 s1 cell).toNat + ·) := by
  have e : nearB a b s0 s1 cell = fun x => decide ((fst' a b s0 s1 cell).toNat ≤ x ∧ x < (lst' a b s0 s1 cell + 1).toNat) := by
    funext x
    rw [Bool.eq_iff_iff, near_iff hb h1, decide_eq_true_iff]
    omega
  rw [e, filter_row]
  unfold rL rF
  generalize fst' a b s0 s1 cell = f at *
  generalize lst' a b s0 s1 cell = l at *
  have m1 : maxI f 0 = if 0 < f then f else 0 := by unfold maxI; split <;> split <;> omega
  have m2 : minI l ((N : Int) - 1) = if l ≤ (N : Int) - 1 then l else (N : Int) - 1 := by unfold minI; split <;> split <;> omega
  rw [m1, m2]
  have e3 : min (l + 1).toNat N - f.toNat = ((if l ≤ (N : Int) - 1 then l else (N : Int) - 1) + 1 - (if 0 < f then f else 0)).toNat := by
    split <;> split <;> omega
  have e4 : (if 0 < f then f else 0).toNat = f.toNat := by split <;> omega
  rw [e3, e4]
end My

namespace My
open PySem L2 PyProof.Rows DV
/-! ### _near of the program -/
theorem fl_p (t : Tr) : (flds t).lookup kP = some (.int t.sz) := rfl
theorem seq_ex {a b : DS} {Δ Δ1 : Dn} {s s1 : Sto} {x : Xc} (h : a Δ s = some (.ex x Δ1, s1)) : dSeq a b Δ s = some (.ex x Δ1, s1) := by rw [dSeq_eq, h]
theorem fn_ex {n : Nat} {b : DS} {xs : List D} {s s1 : Sto} {x : Xc} {Δ : Dn} (h : b (startD n xs) s = some (.ex x Δ, s1)) : runFn n b xs s = some (.error x, s1) := by rw [runFn_eq, h]
theorem range2 {da : DA} {Δ : Dn} {s s1 : Sto} {i j : Int} (h : da Δ s = some (.ok [.int i, .int j], s1)) (hi : 0 ≤ i ∧ i ≤ 100000) (hj : 0 ≤ j ∧ j ≤ 100000) : iRange2 da Δ s = some (.ok (rngI i (j - i).toNat), s1) := by
  have r1 : rngOk i = true := by
    unfold rngOk
    rw [decide_eq_true (by omega), decide_eq_true (by omega)]
    rfl
  have r2 : rngOk j = true := by
    unfold rngOk
    rw [decide_eq_true (by omega), decide_eq_true (by omega)]
    rfl
  rw [iRange2_eq, mbind_ok, h]
  simp only [r1, r2, Bool.and_self, if_true]
theorem mul5 {x y : Int} {s : Sto} (h : mulOk x y = true) : fMul (.int x) (.int y) s = some (.int (x * y), s) := by simp [fMul, orOp, fMulI, h]
theorem bits_le {v : Int} {n : Nat} (h : v.natAbs < 2 ^ n) (hn : 0 < n) : Builtin.Int.intBits v ≤ n := by
  unfold Builtin.Int.intBits
  split
  · omega
  · rename_i hz
    have hv : v.natAbs ≠ 0 := fun e => hz (by simpa using e)
    exact (Nat.log2_lt hv).mpr h
theorem shl5 {x : Int} {k : Nat} {s : Sto} (h : x.natAbs < 2 ^ 300) (hk : k ≤ 5) : fShl (.int x) (.int k) s = some (.int (x * ((2 ^ k : Nat) : Int)), s) := by
  have q := bits_le h (by decide)
  have z : shlOk x k = true := by
    unfold shlOk
    rw [decide_eq_true (by omega), decide_eq_true (by
      have : ((k : Int)).toNat = k := rfl
      rw [this]
      have : (2 : Nat) ^ 27 = 134217728 := by decide
      omega)]
    rfl
  unfold fShl
  rw [fI_eq, if_pos z]
  simp
theorem log_le {v : Int} {n : Nat} (h : v.natAbs < 2 ^ n) (hn : 0 < n) : v.natAbs.log2 < n := by
  by_cases hz : v.natAbs = 0
  · rw [hz]
    simpa using hn
  · exact (Nat.log2_lt hz).mpr h
theorem mulBig {x y : Int} (hx : x.natAbs < 2 ^ 140) (hy : y.natAbs < 2 ^ 140) : mulOk x y = true ∧ (x * y).natAbs < 2 ^ 280 := by
  have h1 := log_le hx (by decide)
  have h2 := log_le hy (by decide)
  refine ⟨?_, ?_⟩
  · unfold mulOk
    rw [decide_eq_true (show x.natAbs.log2 + y.natAbs.log2 < 1000000 by omega)]
    simp
  · rw [Int.natAbs_mul]
    exact Nat.lt_of_lt_of_le (Nat.mul_lt_mul'' hx hy) (by rw [← Nat.pow_add]; exact Nat.le_refl _)
theorem divw5 {x y : Int} {s : Sto} (h : 0 < y) (hy : y.natAbs < 2 ^ 280) : fDivW (.int x) (.int y) s = some (.int (x / y), s) := by
  have h1 := log_le hy (by decide)
  have z : divWOk x y = true := by
    unfold divWOk
    rw [decide_eq_true h, decide_eq_true (by omega)]
    rfl
  unfold fDivW
  rw [fI_eq, if_pos z]
theorem add5 {x y : Int} {s : Sto} : fAdd (.int x) (.int y) s = some (.int (x + y), s) := by simp [fAdd, orOp, fAddI]
theorem sub5 {x y : Int} {s : Sto} : fSub (.int x) (.int y) s = some (.int (x - y), s) := rfl
theorem ix0 {x y : D} {s : Sto} : fIx (.tup [x, y]) (.int 0) s = some (x, s) := rfl
theorem ix1 {x y : D} {s : Sto} : fIx (.tup [x, y]) (.int 1) s = some (y, s) := rfl
/-- a fraction of the law, scaled or not -/
structure Fr (a b : Int) : Prop where
  a0 : 0 ≤ a
  a1 : a.natAbs < 2 ^ 140
  b0 : 0 < b
  b1 : b.natAbs < 2 ^ 140
def frD (a b : Int) : D := .tup [.int a, .int b]
theorem rF_le {S k : Nat} {a b s0 s1 : Int} (f1 : Fr a b) (f2 : Fr s0 s1) (h : a ≤ S * b) : 0 ≤ rF a b s0 s1 ((2 ^ k : Nat) : Int) ∧ rF a b s0 s1 ((2 ^ k : Nat) : Int) ≤ (S * 2 ^ k : Nat) := by
  have hw : 0 < b * s1 := Int.mul_pos f1.b0 f2.b0
  have e : fst' a b s0 s1 ((2 ^ k : Nat) : Int) ≤ (S * 2 ^ k : Nat) := by
    unfold fst'
    have q : -((S * 2 ^ k : Nat) : Int) ≤ (s0 * b * ((2 ^ k : Nat) : Int) - a * s1 * ((2 ^ k : Nat) : Int)) / (b * s1) := by
      rw [Int.le_ediv_iff_mul_le hw]
      have p : (0 : Int) ≤ ((2 ^ k : Nat) : Int) := Int.natCast_nonneg _
      have y0 : 0 ≤ s0 * b * ((2 ^ k : Nat) : Int) := Int.mul_nonneg (Int.mul_nonneg f2.a0 (Int.le_of_lt f1.b0)) p
      have y1 : a * s1 * ((2 ^ k : Nat) : Int) ≤ S * b * s1 * ((2 ^ k : Nat) : Int) := Int.mul_le_mul_of_nonneg_right (Int.mul_le_mul_of_nonneg_right h (Int.le_of_lt f2.b0)) p
      have y2 : ((S * 2 ^ k : Nat) : Int) * (b * s1) = S * b * s1 * ((2 ^ k : Nat) : Int) := by
        rw [Int.natCast_mul]
        simp only [Int.mul_comm, Int.mul_left_comm, Int.mul_assoc]
      rw [Int.neg_mul, y2]
      omega
    omega
  unfold rF maxI
  split <;> omega
theorem lst_nn {k : Nat} {a b s0 s1 : Int} (f1 : Fr a b) (f2 : Fr s0 s1) : 0 ≤ lst' a b s0 s1 ((2 ^ k : Nat) : Int) := by
  have p : (0 : Int) ≤ ((2 ^ k : Nat) : Int) := Int.natCast_nonneg _
  refine Int.ediv_nonneg (Int.add_nonneg ?_ ?_) (Int.le_of_lt (Int.mul_pos f1.b0 f2.b0))
  · exact Int.mul_nonneg (Int.mul_nonneg f1.a0 (Int.le_of_lt f2.b0)) p
  · exact Int.mul_nonneg (Int.mul_nonneg f2.a0 (Int.le_of_lt f1.b0)) p
theorem rL_b {N k : Nat} {a b s0 s1 : Int} (f1 : Fr a b) (f2 : Fr s0 s1) (hN : 0 < N) : 0 ≤ rL a b s0 s1 ((2 ^ k : Nat) : Int) N ∧ rL a b s0 s1 ((2 ^ k : Nat) : Int) N < N := by
  have := lst_nn (k := k) f1 f2
  unfold rL minI
  split <;> omega
def tmX (A : Ax) : Xc := ⟨A.c_TooMany, [("most", .int 40)]⟩
/-- the row's points -/
def rowP (F E : Int) (k : Nat) : List D := (List.range (E + 1 - F).toNat).map fun i => P (F.toNat + i) k
theorem nearList (A : Ax) {k : Nat} (hk : k ≤ 5) {F E : Int} (hF : 0 ≤ F ∧ F ≤ 100000) (hE : 0 ≤ E) (hE2 : E < (16 * 2 ^ k : Nat)) (x0 x1 x2 x4 x5 x6 x9 : Option D) (s : Sto) :
    ∃ s', dLc [9] (iRange2 (dCons (dVar 7) (dCons (dOp fAdd (dVar 8) (dC (.int 1))) dNil))) (gN 9) dYes (dCl (argN 2 (M_point_of A)) (dCons (dVar 9) (dCons (dVar 3) dNil))) [x0, x1, x2, some (.int k), x4, x5, x6, some (.int F), some (.int E), x9] s = some (.ok (.obj s.length), s') ∧ Gr s s' ∧ lstAt s' s.length = some (rowP F E k) := by
  have p32 : 2 ^ k ≤ 32 := Nat.pow_le_pow_right (n := 2) (by decide) hk
  have hi : (dCons (dVar 7) (dCons (dOp fAdd (dVar 8) (dC (.int 1))) dNil)) [x0, x1, x2, some (.int k), x4, x5, x6, some (.int F), some (.int E), x9] s = some (.ok [.int F, .int (E + 1)], s) := cn (s1 := s) rfl (cn (s1 := s) (op5 (s1 := s) (s2 := s) rfl rfl add5) rfl)
  have r2 := range2 hi hF (by omega)
  obtain ⟨s', yss, e1, e2, e3, e4⟩ := lc_pure (I := rngI F (E + 1 - F).toNat) (g := gN 9) (tt := dYes) (de := dCl (argN 2 (M_point_of A)) (dCons (dVar 9) (dCons (dVar 3) dNil))) (Δ := [x0, x1, x2, some (.int k), x4, x5, x6, some (.int F), some (.int E), none]) (s := s) (fun d ys => ∀ i : Nat, d = .int (F + i) → ys = [P (F.toNat + i) k]) (fun _ _ => rfl) (fun d s1 hd _ => by
    simp only [rngI, List.mem_map, List.mem_range] at hd
    obtain ⟨i, hi, rfl⟩ := hd
    have ec : F + (i : Int) = ((F.toNat + i : Nat) : Int) := by omega
    refine ⟨_, rfl, .inr ⟨s1, P (F.toNat + i) k, s1, rfl, ?_, Gr.refl _, fun j hj => ?_⟩⟩
    · refine (cl5 (xs := [.int (F.toNat + i : Nat), .int k]) (s1 := s1) (cn (s1 := s1) (by rw [← ec]; rfl) (cn (s1 := s1) rfl rfl))).trans ((ag5 rfl).trans (ptof A s1 _ k hk (by omega)))
    · simp only [D.int.injEq] at hj
      have : i = j := by omega
      rw [this]) (le_line (by simp [rngI]; omega))
  have e5 : yss = (List.range (E + 1 - F).toNat).map fun i => [P (F.toNat + i) k] := All2.map_of (g := fun i : Nat => D.int (F + (i : Nat))) e3 fun i hi y q => q i rfl
  rw [e5, flat_one] at e2
  exact ⟨s', lc_of r2 e1, e4, e2⟩
def nrH (A : Ax) : DS := dRet (dLc [9] (iRange2 (dCons (dVar 7) (dCons (dOp fAdd (dVar 8) (dC (.int 1))) dNil))) (gN 9) dYes (dCl (argN 2 (M_point_of A)) (dCons (dVar 9) (dCons (dVar 3) dNil))))
theorem ds_near_eq (A : Ax) : ds_u_near A = dSeq (dAsg (dOp fShl (dOp fMul (dOp fIx (dVar 1) (dC (.int 0))) (dOp fIx (dVar 2) (dC (.int 1)))) (dVar 3)) (gN 4))
  (dSeq (dAsg (dOp fShl (dOp fMul (dOp fIx (dVar 2) (dC (.int 0))) (dOp fIx (dVar 1) (dC (.int 1)))) (dVar 3)) (gN 5))
  (dSeq (dAsg (dOp fMul (dOp fIx (dVar 1) (dC (.int 1))) (dOp fIx (dVar 2) (dC (.int 1)))) (gN 6))
  (dSeq (dAsg (dCB fMaxA (dCons (dOp1 fNeg (dOp fDivW (dOp fSub (dVar 5) (dVar 4)) (dVar 6))) (dCons (dC (.int 0)) dNil))) (gN 7))
  (dSeq (dAsg (dCB fMinA (dCons (dOp fDivW (dOp fAdd (dVar 4) (dVar 5)) (dVar 6)) (dCons (dOp fSub (dOp fShl (dOp1 (fFld A.c_Metre "pulses") (dVar 0)) (dVar 3)) (dC (.int 1))) dNil))) (gN 8))
  (dSeq (dIfS (dTest (dOp fGe (dOp fSub (dVar 8) (dVar 7)) (dC (.int 40)))) (dRaiseF A.c_TooMany "most" (dC (.int 40))) dNx)
  (nrH A)))))) := rfl
theorem near_run (A : Ax) {s : Sto} {n : Nat} {t : Tr} (hM : MetreAt A s n t) (hz : t.sz ≤ 16) {k : Nat} (hk : k ≤ 5) {a b s0 s1 : Int} (f1 : Fr a b) (f2 : Fr s0 s1) (h : a ≤ t.sz * b) {F E : Int} (eF : rF a b s0 s1 ((2 ^ k : Nat) : Int) = F) (eE : rL a b s0 s1 ((2 ^ k : Nat) : Int) (t.sz * 2 ^ k) = E) :
    (40 ≤ E - F → M_u_near A [.obj n, frD a b, frD s0 s1, .int k] s = some (.error (tmX A), s)) ∧
    (¬ 40 ≤ E - F → ∃ s', M_u_near A [.obj n, frD a b, frD s0 s1, .int k] s = some (.ok (.obj s.length), s') ∧ Gr s s' ∧ lstAt s' s.length = some (rowP F E k)) := by
  have hz0 := sz_pos t
  have p := Nat.two_pow_pos k
  have p32 : 2 ^ k ≤ 32 := Nat.pow_le_pow_right (n := 2) (by decide) hk
  have hN : t.sz * 2 ^ k ≤ 16 * 2 ^ k := Nat.mul_le_mul_right _ hz
  have hN0 : 0 < t.sz * 2 ^ k := Nat.mul_pos hz0 p
  have bF := rF_le (k := k) f1 f2 h
  have bE := rL_b (k := k) f1 f2 hN0
  rw [eF] at bF
  rw [eE] at bE
  obtain ⟨m1, m1b⟩ := mulBig f1.a1 f2.b1
  obtain ⟨m2, m2b⟩ := mulBig f2.a1 f1.b1
  obtain ⟨m3, m3b⟩ := mulBig f1.b1 f2.b1
  have up : (2 : Nat) ^ 280 ≤ 2 ^ 300 := Nat.pow_le_pow_right (by decide) (by decide)
  have hw : 0 < b * s1 := Int.mul_pos f1.b0 f2.b0
  have hs : startD 10 [.obj n, frD a b, frD s0 s1, .int k] = [some (.obj n), some (frD a b), some (frD s0 s1), some (.int k), none, none, none, none, none, none] := rfl
  generalize hc : ((2 ^ k : Nat) : Int) = c at *
  have sh1 : fShl (.int (a * s1)) (.int k) s = some (.int (a * s1 * c), s) := by rw [← hc]; exact shl5 (Nat.lt_of_lt_of_le m1b up) hk
  have sh2 : fShl (.int (s0 * b)) (.int k) s = some (.int (s0 * b * c), s) := by rw [← hc]; exact shl5 (Nat.lt_of_lt_of_le m2b up) hk
  have sh3 : fShl (.int t.sz) (.int k) s = some (.int (t.sz * c), s) := by rw [← hc]; exact shl5 (Nat.lt_of_lt_of_le (show ((t.sz : Int)).natAbs < 2 ^ 8 by omega) (Nat.pow_le_pow_right (by decide) (by decide))) hk
  have u1 : dAsg (dOp fShl (dOp fMul (dOp fIx (dVar 1) (dC (.int 0))) (dOp fIx (dVar 2) (dC (.int 1)))) (dVar 3)) (gN 4) [some (.obj n), some (frD a b), some (frD s0 s1), some (.int k), none, none, none, none, none, none] s = some (.nx [some (.obj n), some (frD a b), some (frD s0 s1), some (.int k), some (.int (a * s1 * c)), none, none, none, none, none], s) :=
    asg (op5 (s1 := s) (s2 := s) (op5 (s1 := s) (s2 := s) (op5 (s1 := s) (s2 := s) rfl rfl ix0) (op5 (s1 := s) (s2 := s) rfl rfl ix1) (mul5 m1)) rfl sh1) rfl
  have u2 : dAsg (dOp fShl (dOp fMul (dOp fIx (dVar 2) (dC (.int 0))) (dOp fIx (dVar 1) (dC (.int 1)))) (dVar 3)) (gN 5) [some (.obj n), some (frD a b), some (frD s0 s1), some (.int k), some (.int (a * s1 * c)), none, none, none, none, none] s = some (.nx [some (.obj n), some (frD a b), some (frD s0 s1), some (.int k), some (.int (a * s1 * c)), some (.int (s0 * b * c)), none, none, none, none], s) :=
    asg (op5 (s1 := s) (s2 := s) (op5 (s1 := s) (s2 := s) (op5 (s1 := s) (s2 := s) rfl rfl ix0) (op5 (s1 := s) (s2 := s) rfl rfl ix1) (mul5 m2)) rfl sh2) rfl
  have u3 : dAsg (dOp fMul (dOp fIx (dVar 1) (dC (.int 1))) (dOp fIx (dVar 2) (dC (.int 1)))) (gN 6) [some (.obj n), some (frD a b), some (frD s0 s1), some (.int k), some (.int (a * s1 * c)), some (.int (s0 * b * c)), none, none, none, none] s = some (.nx [some (.obj n), some (frD a b), some (frD s0 s1), some (.int k), some (.int (a * s1 * c)), some (.int (s0 * b * c)), some (.int (b * s1)), none, none, none], s) :=
    asg (op5 (s1 := s) (s2 := s) (op5 (s1 := s) (s2 := s) rfl rfl ix1) (op5 (s1 := s) (s2 := s) rfl rfl ix1) (mul5 m3)) rfl
  have u4 : dAsg (dCB fMaxA (dCons (dOp1 fNeg (dOp fDivW (dOp fSub (dVar 5) (dVar 4)) (dVar 6))) (dCons (dC (.int 0)) dNil))) (gN 7) [some (.obj n), some (frD a b), some (frD s0 s1), some (.int k), some (.int (a * s1 * c)), some (.int (s0 * b * c)), some (.int (b * s1)), none, none, none] s = some (.nx [some (.obj n), some (frD a b), some (frD s0 s1), some (.int k), some (.int (a * s1 * c)), some (.int (s0 * b * c)), some (.int (b * s1)), some (.int F), none, none], s) := by
    rw [← eF]
    exact asg (cb5 (s1 := s) (cn (s1 := s) (o1 (s1 := s) (op5 (s1 := s) (s2 := s) (op5 (s1 := s) (s2 := s) rfl rfl sub5) rfl (divw5 hw m3b)) rfl) (cn (s1 := s) rfl rfl)) rfl) rfl
  have u5 : dAsg (dCB fMinA (dCons (dOp fDivW (dOp fAdd (dVar 4) (dVar 5)) (dVar 6)) (dCons (dOp fSub (dOp fShl (dOp1 (fFld A.c_Metre "pulses") (dVar 0)) (dVar 3)) (dC (.int 1))) dNil))) (gN 8) [some (.obj n), some (frD a b), some (frD s0 s1), some (.int k), some (.int (a * s1 * c)), some (.int (s0 * b * c)), some (.int (b * s1)), some (.int F), none, none] s = some (.nx [some (.obj n), some (frD a b), some (frD s0 s1), some (.int k), some (.int (a * s1 * c)), some (.int (s0 * b * c)), some (.int (b * s1)), some (.int F), some (.int E), none], s) := by
    have eN : (t.sz : Int) * c - 1 = ((t.sz * 2 ^ k : Nat) : Int) - 1 := by rw [Int.natCast_mul, hc]
    rw [← eE]
    unfold rL lst'
    rw [← eN]
    exact asg (cb5 (s1 := s) (cn (s1 := s) (op5 (s1 := s) (s2 := s) (op5 (s1 := s) (s2 := s) rfl rfl add5) rfl (divw5 hw m3b)) (cn (s1 := s) (op5 (s1 := s) (s2 := s) (op5 (s1 := s) (s2 := s) (o1 (x := .obj n) (s1 := s) rfl (fFld_obj hM (fl_p t))) rfl sh3) rfl sub5) rfl)) rfl) rfl
  have tst : dTest (dOp fGe (dOp fSub (dVar 8) (dVar 7)) (dC (.int 40))) [some (.obj n), some (frD a b), some (frD s0 s1), some (.int k), some (.int (a * s1 * c)), some (.int (s0 * b * c)), some (.int (b * s1)), some (.int F), some (.int E), none] s = some (.ok (decide (40 ≤ E - F)), s) :=
    te5 (op5 (s1 := s) (s2 := s) (op5 (s1 := s) (s2 := s) rfl rfl sub5) rfl rfl)
  refine ⟨fun big => ?_, fun small => ?_⟩
  · rw [decide_eq_true big] at tst
    refine fn_ex (Δ := [some (.obj n), some (frD a b), some (frD s0 s1), some (.int k), some (.int (a * s1 * c)), some (.int (s0 * b * c)), some (.int (b * s1)), some (.int F), some (.int E), none]) ?_
    rw [ds_near_eq, hs, seq_nx u1, seq_nx u2, seq_nx u3, seq_nx u4, seq_nx u5]
    refine seq_ex ?_
    rw [if5 tst, if_pos rfl]
    rfl
  · rw [decide_eq_false small] at tst
    obtain ⟨s', l1, l2, l3⟩ := nearList A hk (F := F) (E := E) ⟨bF.1, by omega⟩ bE.1 (by omega) (some (.obj n)) (some (frD a b)) (some (frD s0 s1)) (some (.int (a * s1 * c))) (some (.int (s0 * b * c))) (some (.int (b * s1))) none s
    refine ⟨s', fn_rt ?_, l2, l3⟩
    rw [ds_near_eq, hs, seq_nx u1, seq_nx u2, seq_nx u3, seq_nx u4, seq_nx u5, seq_nx (no5 tst)]
    unfold nrH dRet sbind
    rw [l1]
end My

namespace My
open PySem L2 PyProof.Rows DV
/-! ### allowed of the program, and what the law is told -/
theorem at20 {α : Type} {x y : α} : atI [x, y] 0 = some x := rfl
theorem at21 {α : Type} {x y : α} : atI [x, y] 1 = some y := rfl
theorem frac_run (A : Ax) (s : Sto) {a b : Int} (f : Fr a b) : M_u_is_fraction A [frD a b] s = some (.ok (.bl true), s) := by
  have h1 : (0 : Int) ≤ a := f.a0
  have h2 : (1 : Int) ≤ b := f.b0
  simp [M_u_is_fraction, ds_u_is_fraction, startD, frD, truD, at20, at21, isnum_int, fGe, h1, h2]
theorem at10 {α : Type} {x : α} : atI [x] 0 = some x := rfl
def rwA (A : Ax) : DS := (dIfS (dOr (dNot (dTruth (dCB fIsiT (dCons (dVar 1) (dCons (dTup (dCons (dC (.ty "list")) (dCons (dC (.ty "tuple")) dNil))) dNil))))) (dNot (dTest (dChain fLe fLe (dC (.int 1)) (dCB fLen (dCons (dVar 1) dNil)) (dC (.int 16)))))) dStop dNx)
def rwB (A : Ax) : DS := (dIfS (dOr (dNot (dTruth (dCl (argN 1 (M_u_is_fraction A)) (dCons (dVar 5) dNil)))) (dTest (dOp fGt (dOp fIx (dVar 5) (dC (.int 0))) (dOp fMul (dOp1 (fFld A.c_Metre "pulses") (dVar 0)) (dOp fIx (dVar 5) (dC (.int 1))))))) dStop dNx)
def rwL (A : Ax) : DS := (dFor (iEnum (dCons (dVar 1) dNil)) (gTp 2 (gsCons (gN 4) (gsCons (gN 5) gsNil))) (rwB A))
def rwC (A : Ax) : DS := (dIfS (dNot (dTruth (dCl (argN 1 (M_u_is_fraction A)) (dCons (dVar 2) dNil)))) dStop dNx)
def rwD (A : Ax) : DS := (dIfS (dOr (dNot (dTruth (dCl (argN 1 (M_is_number A)) (dCons (dVar 3) dNil)))) (dNot (dTest (dChain fLe fLe (dC (.int 0)) (dVar 3) (dC (.int 8)))))) dStop dNx)
def rwE (A : Ax) : DX := (dLcX [5] (iSeqL (dVar 1)) (gN 5) dYes (dCl (argN 4 (M_u_near A)) (dCons (dVar 0) (dCons (dVar 5) (dCons (dVar 2) (dCons (dVar 3) dNil))))))
theorem ds_rows_eq (A : Ax) : ds_u_allowed_rows A = dSeq (rwA A) (dSeq (rwL A) (dSeq (rwC A) (dSeq (rwD A) (dRet (rwE A))))) := rfl
section
variable {A : Ax} {s : Sto} {n i k : Nat} {t : Tr} {a b s0 s1 : Int}
theorem rwA_run (x0 x2 x3 x4 x5 : Option D) {y : D} (e : lstAt s i = some [y]) : rwA A [x0, some (.obj i), x2, x3, x4, x5] s = some (.nx [x0, some (.obj i), x2, x3, x4, x5], s) := by
  have l2 : 2 ≤ sizeLine := le_line (by decide)
  have q : fIsiT [.obj i, .tup [.ty "list", .ty "tuple"]] s = some (.bl true, s) := by
    have e2 := lstAt_eq e
    have m1 : "list" ∈ tyNames := by decide
    have m2 : "tuple" ∈ tyNames := by decide
    simp [fIsiT, tysOf, kdOf, e2, m1, m2]
    exact .inl rfl
  simp [rwA, l2, q, truD, dChain, e, fLe]
theorem rwC_run (x0 x1 x3 x4 x5 : Option D) (f : Fr s0 s1) : rwC A [x0, x1, some (frD s0 s1), x3, x4, x5] s = some (.nx [x0, x1, some (frD s0 s1), x3, x4, x5], s) := by
  have q := frac_run A s f
  simp [rwC, q, truD]
theorem rwD_run (x0 x1 x2 x4 x5 : Option D) (hk : k ≤ 5) : rwD A [x0, x1, x2, some (.int k), x4, x5] s = some (.nx [x0, x1, x2, some (.int k), x4, x5], s) := by
  have q := isnum_int A k s
  have h1 : (0 : Int) ≤ k := by omega
  have h2 : (k : Int) ≤ 8 := by omega
  simp [rwD, q, truD, dChain, fLe, h1, h2]
theorem rwB_run (x1 x2 x3 x4 : Option D) (hM : MetreAt A s n t) (f : Fr a b) (h : a ≤ t.sz * b) (hz : t.sz ≤ 16) : rwB A [some (.obj n), x1, x2, x3, x4, some (frD a b)] s = some (.nx [some (.obj n), x1, x2, x3, x4, some (frD a b)], s) := by
  have q := frac_run A s f
  have fp := fFld_obj hM (fl_p t)
  have m : mulOk (t.sz : Int) b = true := (mulBig (Nat.lt_of_lt_of_le (show ((t.sz : Int)).natAbs < 2 ^ 8 by omega) (Nat.pow_le_pow_right (by decide) (by decide))) f.b1).1
  have t1 : dTruth (dCl (argN 1 (M_u_is_fraction A)) (dCons (dVar 5) dNil)) [some (.obj n), x1, x2, x3, x4, some (frD a b)] s = some (.ok true, s) := tr5 ((cl5 (xs := [frD a b]) (s1 := s) (cn rfl rfl)).trans ((ag5 rfl).trans q))
  have t2 : dNot (dTruth (dCl (argN 1 (M_u_is_fraction A)) (dCons (dVar 5) dNil))) [some (.obj n), x1, x2, x3, x4, some (frD a b)] s = some (.ok false, s) := by
    rw [dNot_eq, mbind_ok, t1]
    rfl
  have t3 : dTest (dOp fGt (dOp fIx (dVar 5) (dC (.int 0))) (dOp fMul (dOp1 (fFld A.c_Metre "pulses") (dVar 0)) (dOp fIx (dVar 5) (dC (.int 1))))) [some (.obj n), x1, x2, x3, x4, some (frD a b)] s = some (.ok (decide ((t.sz : Int) * b < a)), s) :=
    te5 (op5 (s1 := s) (s2 := s) (op5 (s1 := s) (s2 := s) rfl rfl ix0) (op5 (s1 := s) (s2 := s) (o1 (x := .obj n) (s1 := s) rfl fp) (op5 (s1 := s) (s2 := s) rfl rfl ix1) (mul5 m)) rfl)
  rw [decide_eq_false (by omega)] at t3
  exact no5 ((or5 t2).trans t3)
theorem rwL_run (x2 x3 x4 x5 : Option D) (hM : MetreAt A s n t) (f : Fr a b) (h : a ≤ t.sz * b) (hz : t.sz ≤ 16) (e : lstAt s i = some [frD a b]) : ∃ y4 y5, rwL A [some (.obj n), some (.obj i), x2, x3, x4, x5] s = some (.nx [some (.obj n), some (.obj i), x2, x3, y4, y5], s) := by
  have hi : iEnum (dCons (dVar 1) dNil) [some (.obj n), some (.obj i), x2, x3, x4, x5] s = some (.ok ⟨enumD 0 [frD a b], some (i, [frD a b])⟩, s) := by
    rw [iEnum_eq, mbind_ok, cn (x := .obj i) (xs := []) (s1 := s) (s2 := s) rfl rfl]
    simp only [e]
  obtain ⟨Δ', s', q1, ⟨y4, y5, rfl⟩, rfl, _⟩ := for_gen (I := ⟨enumD 0 [frD a b], some (i, [frD a b])⟩) (g := gTp 2 (gsCons (gN 4) (gsCons (gN 5) gsNil))) (b := rwB A)
    (fun r Δ s' => (∃ y4 y5, Δ = [some (.obj n), some (.obj i), x2, x3, y4, y5]) ∧ s' = s ∧ ∀ d ∈ r, d = .tup [.int (0 : Nat), frD a b]) (fun r Δ s' ⟨_, es, _⟩ => by subst es; exact still_of e) (fun d r Δ s' ⟨⟨y4, y5, eΔ⟩, es, hd⟩ => by
      subst eΔ es
      have := hd d (by simp)
      subst this
      exact ⟨_, s', rfl, _, s', rwB_run (some (.obj i)) x2 x3 (some (.int (0 : Nat))) hM f h hz, ⟨_, _, rfl⟩, rfl, fun d' h' => hd d' (by simp [h'])⟩) (enumD 0 [frD a b]) [some (.obj n), some (.obj i), x2, x3, x4, x5] s ⟨⟨_, _, rfl⟩, rfl, fun d hd => by
        have : d ∈ [D.tup [.int (0 : Nat), frD a b]] := hd
        simpa using this⟩
  exact ⟨y4, y5, for_of hi q1⟩
end
end My

set_option maxHeartbeats 4000000
namespace My
open PySem L2 PyProof.Rows DV
/-! ### _allowed_rows of several onsets -/
/-- an onset with its row's ends -/
structure Os where
  a : Int
  b : Int
  F : Int
  E : Int
def Os.d (o : Os) : D := frD o.a o.b
structure Good1 (S k : Nat) (x y : Int) (o : Os) : Prop where
  f : Fr o.a o.b
  h : o.a ≤ S * o.b
  eF : rF o.a o.b x y ((2 ^ k : Nat) : Int) = o.F
  eE : rL o.a o.b x y ((2 ^ k : Nat) : Int) (S * 2 ^ k) = o.E
theorem lcX_err' {I : Itd} {g : DGf} {tt : DT} {de : DX} {m : Nat} {d : D} {r : List D} {Δ Δ1 : Dn} {s s2 : Sto} {x : Xc} (hst : I.still s = true) (hg : g d Δ s = some (Δ1, s)) (ht : tt Δ1 s = some (.ok true, s)) (hd : de Δ1 s = some (.error x, s2)) : lcRunX I g tt de m (d :: r) Δ s = some (.error x, s2) := by
  unfold lcRunX
  rw [if_pos hst, hg]
  simp only [ht, hd]
theorem lcX_step {I : Itd} {g : DGf} {tt : DT} {de : DX} {m : Nat} {d y : D} {r : List D} {Δ Δ1 : Dn} {s s3 : Sto} {acc : List D} (hst : I.still s = true) (hg : g d Δ s = some (Δ1, s)) (ht : tt Δ1 s = some (.ok true, s)) (hd : de Δ1 s = some (.ok y, s3)) (ha : lstAt s3 m = some acc) (hz : acc.length < sizeLine) : lcRunX I g tt de m (d :: r) Δ s = lcRunX I g tt de m r Δ (s3.set m (.lst (acc ++ [y]))) := by
  rw [lcRunX.eq_def]
  simp only [if_pos hst, hg, ht, hd, ha, if_pos hz]
theorem all2_snoc {α β : Type} {R : α → β → Prop} {a : α} {b : β} : ∀ {r : List α} {t : List β}, All2 R r t → R a b → All2 R (r ++ [a]) (t ++ [b])
  | _, _, .nil, h => .cons h .nil
  | _, _, .cons x y, h => .cons x (all2_snoc y h)
abbrev nearX (A : Ax) : DX := dCl (argN 4 (M_u_near A)) (dCons (dVar 0) (dCons (dVar 5) (dCons (dVar 2) (dCons (dVar 3) dNil))))
theorem rows_loop (A : Ax) {n k i m : Nat} {t : Tr} {x y : Int} (hz : t.sz ≤ 16) (hk : k ≤ 5) (f2 : Fr x y) {s0 : Sto} {L : List D} (x4 : Option D) (hm : s0.length ≤ m) (hi : i < s0.length) :
    ∀ (r : List Os) (s : Sto) (ps : List Nat) (qs : List Os), (∀ o ∈ r, Good1 t.sz k x y o) → Gr s0 s → lstAt s i = some L → MetreAt A s n t → lstAt s m = some (ps.map D.obj) → ps.length + r.length ≤ 900 → All2 (fun (o : Os) p => lstAt s p = some (rowP o.F o.E k) ∧ p ≠ m) qs ps →
      ((∃ o ∈ r, 40 ≤ o.E - o.F) → ∃ s', lcRunX ⟨L, some (i, L)⟩ (gN 5) dYes (nearX A) m (r.map Os.d) [some (.obj n), some (.obj i), some (frD x y), some (.int k), x4, none] s = some (.error (tmX A), s') ∧ Gr s0 s') ∧
      ((∀ o ∈ r, ¬ 40 ≤ o.E - o.F) → ∃ s' ps', lcRunX ⟨L, some (i, L)⟩ (gN 5) dYes (nearX A) m (r.map Os.d) [some (.obj n), some (.obj i), some (frD x y), some (.int k), x4, none] s = some (.ok (), s') ∧ Gr s0 s' ∧ lstAt s' m = some (ps'.map D.obj) ∧ All2 (fun (o : Os) p => lstAt s' p = some (rowP o.F o.E k) ∧ p ≠ m) (qs ++ r) ps')
  | [], s, ps, qs, _, g, e, _, em, _, al => by
    refine ⟨fun ⟨o, h, _⟩ => by (cases h), fun _ => ⟨s, ps, ?_, g, em, by rw [List.append_nil]; exact al⟩⟩
    unfold lcRunX
    exact if_pos (still_of e)
  | o :: r, s, ps, qs, hr, g, e, hM, em, hl, al => by
    have go := hr o (by simp)
    obtain ⟨n1, n2⟩ := near_run A (s := s) hM hz hk go.f f2 go.h go.eF go.eE
    have ar : (dCons (dVar 0) (dCons (dVar 5) (dCons (dVar 2) (dCons (dVar 3) dNil)))) [some (.obj n), some (.obj i), some (frD x y), some (.int k), x4, some o.d] s = some (.ok [.obj n, o.d, frD x y, .int k], s) := cn (s1 := s) rfl (cn (s1 := s) rfl (cn (s1 := s) rfl (cn (s1 := s) rfl rfl)))
    rw [List.length_cons] at hl
    by_cases hb : 40 ≤ o.E - o.F
    · refine ⟨fun _ => ⟨s, lcX_err' (still_of e) (Δ1 := [some (.obj n), some (.obj i), some (frD x y), some (.int k), x4, some o.d]) rfl rfl ((cl5 ar).trans ((ag5 rfl).trans (n1 hb))), g⟩, fun h => absurd hb (h o (by simp))⟩
    · obtain ⟨s1, w1, w2, w3⟩ := n2 hb
      have em1 := w2.lst em
      have lm := lstAt_lt em
      have st := lcX_step (I := ⟨L, some (i, L)⟩) (tt := dYes) (de := nearX A) (g := gN 5) (d := o.d) (Δ := [some (.obj n), some (.obj i), some (frD x y), some (.int k), x4, none]) (r := r.map Os.d) (m := m) (still_of e) (Δ1 := [some (.obj n), some (.obj i), some (frD x y), some (.int k), x4, some o.d]) rfl rfl ((cl5 ar).trans ((ag5 rfl).trans w1)) em1 (Nat.lt_of_lt_of_le (show (ps.map D.obj).length < 1000 by rw [List.length_map]; omega) (le_line (by decide)))
      have em2 : lstAt (s1.set m (.lst (ps.map D.obj ++ [.obj s.length]))) m = some ((ps ++ [s.length]).map D.obj) := by
        rw [lstAt_set em1]
        simp
      have nm : s.length ≠ m := by omega
      have keep : ∀ p L', p ≠ m → lstAt s p = some L' → lstAt (s1.set m (.lst (ps.map D.obj ++ [.obj s.length]))) p = some L' := fun p L' hp hL => by
        rw [lstAt_ne hp]
        exact w2.lst hL
      have al2 : All2 (fun (o : Os) p => lstAt (s1.set m (.lst (ps.map D.obj ++ [.obj s.length]))) p = some (rowP o.F o.E k) ∧ p ≠ m) (qs ++ [o]) (ps ++ [s.length]) :=
        all2_snoc (al.imp fun o p h => ⟨keep p _ h.2 h.1, h.2⟩) ⟨by rw [lstAt_ne nm]; exact w3, nm⟩
      have hn : n ≠ m := fun z => by
        have q1 := insAt_eq hM
        have q2 := lstAt_eq em
        rw [z, q2] at q1
        cases q1
      have hM2 : MetreAt A (s1.set m (.lst (ps.map D.obj ++ [.obj s.length]))) n t := by
        have q := ins_gr w2 hM
        unfold MetreAt insAt at q ⊢
        rw [List.getElem?_set_ne (fun z => hn z.symm)]
        exact q
      have e2 : lstAt (s1.set m (.lst (ps.map D.obj ++ [.obj s.length]))) i = some L := by
        rw [lstAt_ne (by omega)]
        exact w2.lst e
      obtain ⟨i1, i2⟩ := rows_loop A (n := n) (i := i) (m := m) (L := L) hz hk f2 x4 hm hi r _ (ps ++ [s.length]) (qs ++ [o]) (fun o' h' => hr o' (by simp [h'])) ((g.trans w2).set hm) e2 hM2 em2 (by rw [List.length_append, List.length_singleton]; omega) al2
      refine ⟨fun ⟨o', h1, h2⟩ => ?_, fun h => ?_⟩
      · rcases List.mem_cons.mp h1 with rfl | h1
        · exact absurd h2 hb
        · obtain ⟨s', j1, j2⟩ := i1 ⟨o', h1, h2⟩
          exact ⟨s', by rw [List.map_cons, st]; exact j1, j2⟩
      · obtain ⟨s', ps', j1, j2, j3, j4⟩ := i2 fun o' h' => h o' (by simp [h'])
        exact ⟨s', ps', by rw [List.map_cons, st]; exact j1, j2, j3, by simpa using j4⟩
end My

set_option maxHeartbeats 4000000
namespace My
open PySem L2 PyProof.Rows DV
section
variable {A : Ax} {s : Sto} {n i k : Nat} {t : Tr} {x y : Int}
theorem rwA_many (x0 x2 x3 x4 x5 : Option D) {L : List D} (e : lstAt s i = some L) (h1 : 1 ≤ L.length) (h2 : L.length ≤ 16) : rwA A [x0, some (.obj i), x2, x3, x4, x5] s = some (.nx [x0, some (.obj i), x2, x3, x4, x5], s) := by
  have l2 : 2 ≤ sizeLine := le_line (by decide)
  have q : fIsiT [.obj i, .tup [.ty "list", .ty "tuple"]] s = some (.bl true, s) := by
    have e2 := lstAt_eq e
    have m1 : "list" ∈ tyNames := by decide
    have m2 : "tuple" ∈ tyNames := by decide
    simp [fIsiT, tysOf, kdOf, e2, m1, m2]
    exact .inl rfl
  have z1 : (1 : Int) ≤ (L.length : Int) := by omega
  have z2 : (L.length : Int) ≤ 16 := by omega
  simp [rwA, l2, q, truD, dChain, e, fLe, z1, z2]
theorem rwL_many (x2 x3 x4 x5 : Option D) {os : List Os} (hM : MetreAt A s n t) (ho : ∀ o ∈ os, Good1 t.sz k x y o) (hz : t.sz ≤ 16) (e : lstAt s i = some (os.map Os.d)) : ∃ y4 y5, rwL A [some (.obj n), some (.obj i), x2, x3, x4, x5] s = some (.nx [some (.obj n), some (.obj i), x2, x3, y4, y5], s) := by
  have hi : iEnum (dCons (dVar 1) dNil) [some (.obj n), some (.obj i), x2, x3, x4, x5] s = some (.ok ⟨enumD 0 (os.map Os.d), some (i, os.map Os.d)⟩, s) := by
    rw [iEnum_eq, mbind_ok, cn (x := .obj i) (xs := []) (s1 := s) (s2 := s) rfl rfl]
    simp only [e]
  obtain ⟨Δ', s', q1, ⟨y4, y5, rfl⟩, rfl, _⟩ := for_gen (I := ⟨enumD 0 (os.map Os.d), some (i, os.map Os.d)⟩) (g := gTp 2 (gsCons (gN 4) (gsCons (gN 5) gsNil))) (b := rwB A)
    (fun r Δ s' => (∃ y4 y5, Δ = [some (.obj n), some (.obj i), x2, x3, y4, y5]) ∧ s' = s ∧ ∀ d ∈ r, ∃ (j : Nat) (o : Os), o ∈ os ∧ d = .tup [.int j, o.d]) (fun r Δ s' ⟨_, es, _⟩ => by subst es; exact still_of e) (fun d r Δ s' ⟨⟨y4, y5, eΔ⟩, es, hd⟩ => by
      subst eΔ es
      obtain ⟨j, o, h1, rfl⟩ := hd d (by simp)
      exact ⟨_, s', rfl, _, s', rwB_run (some (.obj i)) x2 x3 (some (.int j)) hM (ho o h1).f (ho o h1).h hz, ⟨_, _, rfl⟩, rfl, fun d' h' => hd d' (by simp [h'])⟩) (enumD 0 (os.map Os.d)) [some (.obj n), some (.obj i), x2, x3, x4, x5] s ⟨⟨_, _, rfl⟩, rfl, fun d hd => by
        obtain ⟨j, z, _, h2, h3⟩ := enum_mem (os.map Os.d) 0 d hd
        obtain ⟨o, h4, rfl⟩ := List.mem_map.mp h2
        exact ⟨j, o, h4, h3⟩⟩
  exact ⟨y4, y5, for_of hi q1⟩
theorem rows_many {os : List Os} (hM : MetreAt A s n t) (hz : t.sz ≤ 16) (hk : k ≤ 5) (f2 : Fr x y) (ho : ∀ o ∈ os, Good1 t.sz k x y o) (h1 : 1 ≤ os.length) (h2 : os.length ≤ 16) (e : lstAt s i = some (os.map Os.d)) :
    ((∃ o ∈ os, 40 ≤ o.E - o.F) → ∃ s', M_u_allowed_rows A [.obj n, .obj i, frD x y, .int k] s = some (.error (tmX A), s') ∧ Gr s s') ∧
    ((∀ o ∈ os, ¬ 40 ≤ o.E - o.F) → ∃ s' ps, M_u_allowed_rows A [.obj n, .obj i, frD x y, .int k] s = some (.ok (.obj s.length), s') ∧ Gr s s' ∧ lstAt s' s.length = some (ps.map D.obj) ∧ All2 (fun (o : Os) p => lstAt s' p = some (rowP o.F o.E k)) os ps) := by
  have hs : startD 6 [.obj n, .obj i, frD x y, .int k] = [some (.obj n), some (.obj i), some (frD x y), some (.int k), none, none] := rfl
  have li := lstAt_lt e
  obtain ⟨y4, y5, l1⟩ := rwL_many (k := k) (x := x) (y := y) (x2 := some (frD x y)) (x3 := some (.int k)) (x4 := none) (x5 := none) hM ho hz e
  have a1 := rwA_many (A := A) (some (.obj n)) (some (frD x y)) (some (.int k)) none none e (by rw [List.length_map]; exact h1) (by rw [List.length_map]; exact h2)
  have a3 := rwC_run (A := A) (s := s) (some (.obj n)) (some (.obj i)) (some (.int k)) y4 y5 f2
  have a4 := rwD_run (A := A) (s := s) (some (.obj n)) (some (.obj i)) (some (frD x y)) y4 y5 hk
  have hi : iSeqL (dVar 1) [some (.obj n), some (.obj i), some (frD x y), some (.int k), y4, y5] s = some (.ok ⟨os.map Os.d, some (i, os.map Os.d)⟩, s) := by simp [e]
  obtain ⟨n1, n2⟩ := rows_loop A (n := n) (k := k) (i := i) (m := s.length) (t := t) (x := x) (y := y) hz hk f2 (s0 := s) (L := os.map Os.d) y4 (Nat.le_refl _) li os (s ++ [.lst []]) [] [] ho Gr.app (lstAt_app e) (ins_gr Gr.app hM) lstAt_new (by simp; omega) .nil
  refine ⟨fun big => ?_, fun small => ?_⟩
  · obtain ⟨s', w1, w2⟩ := n1 big
    have c1 : rwE A [some (.obj n), some (.obj i), some (frD x y), some (.int k), y4, y5] s = some (.error (tmX A), s') := by
      unfold rwE dLcX
      rw [mbind_ok, hi]
      show (match lcRunX _ _ _ _ _ (os.map Os.d) [some (.obj n), some (.obj i), some (frD x y), some (.int k), y4, none] (s ++ [.lst []]) with | some (.ok _, s') => _ | some (.error x, s') => _ | none => none) = _
      rw [w1]
    refine ⟨s', fn_ex (Δ := [some (.obj n), some (.obj i), some (frD x y), some (.int k), y4, y5]) ?_, w2⟩
    rw [ds_rows_eq, hs, seq_nx a1, seq_nx l1, seq_nx a3, seq_nx a4, dRet_eq, sbind_eq, c1]
  · obtain ⟨s', ps, w1, w2, w3, w4⟩ := n2 small
    have c1 : rwE A [some (.obj n), some (.obj i), some (frD x y), some (.int k), y4, y5] s = some (.ok (.obj s.length), s') := by
      unfold rwE dLcX
      rw [mbind_ok, hi]
      show (match lcRunX _ _ _ _ _ (os.map Os.d) [some (.obj n), some (.obj i), some (frD x y), some (.int k), y4, none] (s ++ [.lst []]) with | some (.ok _, s') => _ | some (.error x, s') => _ | none => none) = _
      rw [w1]
    rw [List.nil_append] at w4
    refine ⟨s', ps, fn_rt ?_, w2, w3, w4.imp fun o p h => h.1⟩
    rw [ds_rows_eq, hs, seq_nx a1, seq_nx l1, seq_nx a3, seq_nx a4, dRet_eq, sbind_eq, c1]
end
end My

namespace My
open PySem L2 PyProof.Rows DV
/-! ### the law's spots near an onset -/
theorem par5' {i j : Nat} {da : DA} {Δ : Dn} {s s1 : Sto} {x y : D} (h : da Δ s = some (.ok [x, y], s1)) : dPar i j da Δ s = some (.nx ((Δ.set i (some x)).set j (some y)), s1) := by rw [dPar_eq, sbind_eq, h]
theorem app5 {i n : Nat} {da : DA} {Δ : Dn} {s s1 : Sto} {xs zs : List D} {y : D} (h0 : dVar i Δ s = some (.ok (.obj n), s)) (e0 : lstAt s n = some zs) (ha : da Δ s = some (.ok [y], s1)) (e : lstAt s1 n = some xs) (hz : xs.length < sizeLine) : dDrop (dBM "list" fAppend (dVar i) da) Δ s = some (.nx Δ, s1.set n (.lst (xs ++ [y]))) := by
  have t := tyL e0
  have q : fAppend (.obj n) [y] s1 = some (.non, s1.set n (.lst (xs ++ [y]))) := by
    unfold fAppend
    simp only [e, if_pos hz]
  rw [dDrop_eq, sbind_eq]
  unfold dBM
  rw [mbind_ok, h0]
  simp only [mbind_ok, mTy, t, if_true, mret_eq, ha, DV.liftM, q]
abbrev dbl : DS := dAsg (dOp fMul (dC (.int 2)) (dVar 6)) (gN 6)
def spB : DS := dSeq (dAsg (dOp fMul (dCB fAbs (dCons (dOp fSub (dOp fMul (dVar 5) (dOp fIx (dVar 1) (dC (.int 1)))) (dOp fMul (dOp fIx (dVar 1) (dC (.int 0))) (dVar 6))) dNil)) (dOp fIx (dVar 2) (dC (.int 1)))) (gN 8))
  (dIfS (dTest (dOp fLe (dVar 8) (dOp fMul (dOp fMul (dOp fIx (dVar 2) (dC (.int 0))) (dVar 6)) (dOp fIx (dVar 1) (dC (.int 1)))))) (dDrop (dBM "list" fAppend (dVar 7) (dCons (dVar 5) dNil))) dNx)
theorem ds_lnear_eq (A : Ax) : ds_u_law_near A = dSeq (dPar 6 7 (dCons (dC (.int 1)) (dCons (dLst dNil) dNil))) (dSeq (dFor (iRange1 (dCons (dVar 3) dNil)) (gN 4) dbl) (dSeq (dFor (iRange1 (dCons (dOp fMul (dVar 0) (dVar 6)) dNil)) (gN 5) spB) (dRet (dVar 7)))) := rfl
theorem mulSm1 {x y : Int} (h : x.natAbs < 2 ^ 64) : mulOk x y = true := by unfold mulOk; rw [decide_eq_true h]; rfl
theorem mulSm2 {x y : Int} (h : y.natAbs < 2 ^ 64) : mulOk x y = true := by unfold mulOk; rw [decide_eq_true h]; simp
def intD (x : Nat) : D := .int (x : Int)
/-- all four are small -/
structure Sml (a b s0 s1 : Int) : Prop where
  ha : a.natAbs < 2 ^ 64
  hb : b.natAbs < 2 ^ 64
  h0 : s0.natAbs < 2 ^ 64
  h1 : s1.natAbs < 2 ^ 64
theorem sp_turn {x0 x3 x4 x8 : Option D} {a b s0 s1 c : Int} (q : Sml a b s0 s1) {s : Sto} {n x : Nat} {acc : List D} (e : lstAt s n = some acc) (hz : acc.length < sizeLine) (hx : x < 1000000) :
    ∃ y8, spB [x0, some (frD a b), some (frD s0 s1), x3, x4, some (.int x), some (.int c), some (.obj n), x8] s = some (.nx [x0, some (frD a b), some (frD s0 s1), x3, x4, some (.int x), some (.int c), some (.obj n), y8], if nearB a b s0 s1 c x = true then s.set n (.lst (acc ++ [intD x])) else s) := by
  have hx2 : ((x : Int)).natAbs < 2 ^ 64 := by omega
  have u1 : dAsg (dOp fMul (dCB fAbs (dCons (dOp fSub (dOp fMul (dVar 5) (dOp fIx (dVar 1) (dC (.int 1)))) (dOp fMul (dOp fIx (dVar 1) (dC (.int 0))) (dVar 6))) dNil)) (dOp fIx (dVar 2) (dC (.int 1)))) (gN 8) [x0, some (frD a b), some (frD s0 s1), x3, x4, some (.int x), some (.int c), some (.obj n), x8] s = some (.nx [x0, some (frD a b), some (frD s0 s1), x3, x4, some (.int x), some (.int c), some (.obj n), some (.int (absI ((x : Int) * b - a * c) * s1))], s) :=
    asg (op5 (s1 := s) (s2 := s) (cb5 (s1 := s) (cn (s1 := s) (op5 (s1 := s) (s2 := s) (op5 (s1 := s) (s2 := s) rfl (op5 (s1 := s) (s2 := s) rfl rfl ix1) (mul5 (mulSm1 hx2))) (op5 (s1 := s) (s2 := s) (op5 (s1 := s) (s2 := s) rfl rfl ix0) rfl (mul5 (mulSm1 q.ha))) sub5) rfl) rfl) (op5 (s1 := s) (s2 := s) rfl rfl ix1) (mul5 (mulSm2 q.h1))) rfl
  have u2 : dTest (dOp fLe (dVar 8) (dOp fMul (dOp fMul (dOp fIx (dVar 2) (dC (.int 0))) (dVar 6)) (dOp fIx (dVar 1) (dC (.int 1))))) [x0, some (frD a b), some (frD s0 s1), x3, x4, some (.int x), some (.int c), some (.obj n), some (.int (absI ((x : Int) * b - a * c) * s1))] s = some (.ok (nearB a b s0 s1 c x), s) :=
    te5 (op5 (s1 := s) (s2 := s) rfl (op5 (s1 := s) (s2 := s) (op5 (s1 := s) (s2 := s) (op5 (s1 := s) (s2 := s) rfl rfl ix0) rfl (mul5 (mulSm1 q.h0))) (op5 (s1 := s) (s2 := s) rfl rfl ix1) (mul5 (mulSm2 q.hb))) rfl)
  refine ⟨some (.int (absI ((x : Int) * b - a * c) * s1)), ?_⟩
  unfold spB
  rw [seq_nx u1, if5 u2]
  cases nearB a b s0 s1 c x with
  | true =>
    rw [if_pos rfl, if_pos rfl]
    exact app5 (y := intD x) rfl e (cn (s1 := s) rfl rfl) e hz
  | false =>
    rw [if_neg (by simp), if_neg (by simp)]
    rfl
theorem lnear_run (A : Ax) (s : Sto) {S k : Nat} (hS : S ≤ 16) (hk : k ≤ 5) {a b s0 s1 : Int} (q : Sml a b s0 s1) : ∃ s', M_u_law_near A [.int S, frD a b, frD s0 s1, .int k] s = some (.ok (.obj s.length), s') ∧ Gr s s' ∧ lstAt s' s.length = some (((List.range (S * 2 ^ k)).filter (nearB a b s0 s1 ((2 ^ k : Nat) : Int))).map intD) := by
  have p32 : 2 ^ k ≤ 32 := Nat.pow_le_pow_right (n := 2) (by decide) hk
  have hN : S * 2 ^ k ≤ 512 := Nat.mul_le_mul hS p32
  have hs : startD 9 [.int S, frD a b, frD s0 s1, .int k] = [some (.int S), some (frD a b), some (frD s0 s1), some (.int k), none, none, none, none, none] := rfl
  have p1 : dPar 6 7 (dCons (dC (.int 1)) (dCons (dLst dNil) dNil)) [some (.int S), some (frD a b), some (frD s0 s1), some (.int k), none, none, none, none, none] s = some (.nx [some (.int S), some (frD a b), some (frD s0 s1), some (.int k), none, none, some (.int 1), some (.obj s.length), none], s ++ [.lst []]) := par5' (cn (s1 := s) rfl (cn (s1 := s ++ [.lst []]) (ls (s1 := s) rfl (by simp)) rfl))
  obtain ⟨Δ2, s2, a2, ⟨y4, i, rfl, hi⟩, rfl⟩ := for_gen (I := rngI 0 k) (g := gN 4) (b := dbl)
    (fun r Δ s' => (∃ y4 i, Δ = [some (.int S), some (frD a b), some (frD s0 s1), some (.int k), y4, none, some (.int ((2 ^ i : Nat) : Int)), some (.obj s.length), none] ∧ i + r.length = k) ∧ s' = s ++ [.lst []]) (fun _ _ _ _ => rfl) (fun d r Δ s' ⟨⟨y4, i, eΔ, hi⟩, es⟩ => by
      subst eΔ es
      refine ⟨_, _, rfl, _, s ++ [.lst []], asg (op5 (s1 := s ++ [.lst []]) (s2 := s ++ [.lst []]) rfl rfl (mul5 (mulSm1 (by decide)))) rfl, ⟨some d, i + 1, ?_, by simp at hi ⊢; omega⟩, rfl⟩
      have e2 : (2 : Int) * ((2 ^ i : Nat) : Int) = ((2 ^ (i + 1) : Nat) : Int) := by
        rw [Nat.pow_succ, Nat.mul_comm]
        omega
      rw [← e2]
      rfl) (rngI 0 k).its [some (.int S), some (frD a b), some (frD s0 s1), some (.int k), none, none, some (.int 1), some (.obj s.length), none] (s ++ [.lst []]) ⟨⟨none, 0, rfl, by simp [rngI]⟩, rfl⟩
  have : i = k := by simpa using hi
  subst this
  generalize hc : ((2 ^ i : Nat) : Int) = c at *
  have mN : fMul (.int S) (.int c) (s ++ [.lst []]) = some (.int (S * 2 ^ i : Nat), s ++ [.lst []]) := by
    rw [mul5 (mulSm1 (by omega)), ← hc, Int.natCast_mul]
  obtain ⟨Δ3, s3, a3, y4', y5, y8, l1, l2, rfl, hr, er, g3, e3⟩ := for_gen (I := rngI 0 (S * 2 ^ i)) (g := gN 5) (b := spB)
    (fun r Δ s' => ∃ (y4 y5 y8 : Option D) (l1 l2 : List Nat), Δ = [some (.int S), some (frD a b), some (frD s0 s1), some (.int i), y4, y5, some (.int c), some (.obj s.length), y8] ∧ List.range (S * 2 ^ i) = l1 ++ l2 ∧ r = l2.map (fun (j : Nat) => D.int (0 + (j : Nat))) ∧ Gr s s' ∧ lstAt s' s.length = some ((l1.filter (nearB a b s0 s1 c)).map intD)) (fun _ _ _ _ => rfl) (fun d r Δ s' ⟨y4, y5, y8, l1, l2, eΔ, hr, er, g, e⟩ => by
      subst eΔ
      cases l2 with
      | nil => cases er
      | cons x l2 =>
        simp only [List.map_cons, List.cons.injEq] at er
        obtain ⟨rfl, rfl⟩ := er
        have hx : x < S * 2 ^ i := List.mem_range.mp (by rw [hr]; simp)
        have hl : l1.length ≤ S * 2 ^ i := by
          have := congrArg List.length hr
          simp at this
          omega
        have hf := List.length_filter_le (nearB a b s0 s1 c) l1
        obtain ⟨z8, w⟩ := sp_turn (x0 := some (.int S)) (x3 := some (.int i)) (x4 := y4) (x8 := y8) (c := c) q (x := x) e (Nat.lt_of_lt_of_le (show _ < 1000 by simp; omega) (le_line (by decide))) (by omega)
        refine ⟨_, s', rfl, _, _, by rw [Int.zero_add]; exact w, y4, _, z8, l1 ++ [x], l2, rfl, by rw [hr]; simp, rfl, ?_, ?_⟩
        · split
          · exact g.set (Nat.le_refl _)
          · exact g
        · rw [List.filter_append]
          cases hb : nearB a b s0 s1 c x with
          | true =>
            rw [if_pos rfl, lstAt_set e]
            simp [hb]
          | false =>
            rw [if_neg (by simp), e]
            simp [hb]) (rngI 0 (S * 2 ^ i)).its [some (.int S), some (frD a b), some (frD s0 s1), some (.int i), y4, none, some (.int c), some (.obj s.length), none] (s ++ [.lst []]) ⟨y4, none, none, [], List.range (S * 2 ^ i), rfl, rfl, rfl, Gr.app, lstAt_new⟩
  have l2n : l2 = [] := by
    cases l2 with
    | nil => rfl
    | cons _ _ => cases er
  subst l2n
  rw [List.append_nil] at hr
  rw [hr]
  refine ⟨s3, fn_rt ?_, g3, e3⟩
  rw [ds_lnear_eq, hs, seq_nx p1, seq_nx (for_of (range1 (k := i) (s1 := s ++ [.lst []]) rfl (by omega)) a2)]
  rw [seq_nx (for_of (range1 (k := S * 2 ^ i) (s1 := s ++ [.lst []]) (cn (s1 := s ++ [.lst []]) (op5 (s1 := s ++ [.lst []]) (s2 := s ++ [.lst []]) rfl rfl mN) rfl) (by omega)) a3)]
  rfl
end My

namespace My
open PySem L2 PyProof.Rows DV
/-! ### the law's trees, its onsets -/
def nine : List Tr := [.lf, pair, three, .two pair pair, .two three three, .tri pair pair pair, .two pair three, .two .lf pair, .tri pair .lf pair]
def duo : List Tr := [.tri three pair pair, .two pair (.two .lf pair)]
theorem ele_good : ∀ t ∈ nine ++ duo, Good t ∧ t.ht ≤ 3 := by
  intro t h
  simp only [nine, duo, List.cons_append, List.nil_append, List.mem_cons, List.not_mem_nil, or_false] at h
  rcases h with rfl | rfl | rfl | rfl | rfl | rfl | rfl | rfl | rfl | rfl | rfl <;> exact ⟨⟨by decide, by decide, by decide⟩, by decide⟩
theorem ltree (A : Ax) {s : Sto} {n k : Nat} (h : Rnd s n (k + 1)) : ∃ t s', M_u_law_tree A [.obj n] s = some (.ok (Tr.d t), s') ∧ Good t ∧ t.ht ≤ 3 ∧ Rnd s' n k ∧ Sm n s s' := by
  have l9 : 9 ≤ sizeLine := le_line (by decide)
  have l11 : 11 ≤ sizeLine := le_line (by decide)
  have l3 : 3 ≤ sizeLine := le_line (by decide)
  have l2 : 2 ≤ sizeLine := le_line (by decide)
  have hn := h.lt
  obtain ⟨d, s', p1, p2, p3, p4⟩ := pick A (s := s ++ [.lst (nine.map Tr.d), .lst (duo.map Tr.d), .lst ((nine ++ duo).map Tr.d)]) (j := s.length + 2) (xs := (nine ++ duo).map Tr.d) h.app (by
    have := lstAt_new (s := s ++ [.lst (nine.map Tr.d), .lst (duo.map Tr.d)]) (xs := (nine ++ duo).map Tr.d)
    simpa using this) (by omega) (by simp [nine, duo]) (by simp [nine, duo])
  obtain ⟨t, ht, rfl⟩ := List.mem_map.mp p2
  have g := ele_good t ht
  refine ⟨t, s', ?_, g.1, g.2, p3, Sm.app.trans p4⟩
  have a1 : lstAt (s ++ [DO.lst (nine.map Tr.d)]) s.length = some (nine.map Tr.d) := lstAt_new
  simp [nine, duo, three, pair, Tr.d] at p1 a1
  simp [M_u_law_tree, ds_u_law_tree, startD, l2, l3, l9, l11, fAdd, fAddI, fAddS, fAddL, orOp, p1, a1]
def On (S : Nat) (d : D) : Prop := ∃ a b : Nat, d = frD a b ∧ a ≤ S * b ∧ 0 < b ∧ b ≤ 24
def Rc (d : D) : Prop := ∃ a b : Nat, d = frD a b ∧ a ≤ 2 ∧ 0 < b ∧ b ≤ 24
theorem all2_flat {R : D → List D → Prop} {Q : D → Prop} : ∀ {r : List D} {yss : List (List D)}, All2 R r yss → (∀ d ys, R d ys → ys.length = 1 ∧ ∀ y ∈ ys, Q y) → yss.flatten.length = r.length ∧ ∀ y ∈ yss.flatten, Q y
  | _, _, .nil, _ => ⟨rfl, fun y h => by cases h⟩
  | d :: r, ys :: yss, .cons h t, q => by
    obtain ⟨i1, i2⟩ := all2_flat t q
    obtain ⟨j1, j2⟩ := q d ys h
    refine ⟨by simp only [List.flatten_cons, List.length_append, List.length_cons, i1, j1]; omega, fun y hy => ?_⟩
    rw [List.flatten_cons, List.mem_append] at hy
    exact hy.elim (j2 y) (i2 y)
def KeyD (n : Nat) (d : D) : Prop := ∃ (v : Int) (j : Nat), j < n ∧ d = .tup [.int v, .int j]
theorem keys_py (s : Sto) {n : Nat} : ∀ ys : List D, (∀ y ∈ ys, KeyD n y) → ∃ ps, omap (toPy s 64) ys = some ps ∧ ps.length = ys.length ∧ ∀ p ∈ ps, ∃ v j : Int, p = .tuple [.int v, .int j]
  | [], _ => ⟨[], rfl, rfl, fun p h => by cases h⟩
  | y :: ys, h => by
    obtain ⟨ps, h1, h2, h3⟩ := keys_py s ys fun z hz => h z (by simp [hz])
    obtain ⟨v, j, _, rfl⟩ := h y (by simp)
    refine ⟨.tuple [.int v, .int j] :: ps, ?_, by simp [h2], fun p hp => ?_⟩
    · have q : toPy s 64 (.tup [.int v, .int j]) = some (.tuple [.int v, .int j]) := rfl
      simp [omap, q, h1]
    · rcases List.mem_cons.mp hp with rfl | hp
      · exact ⟨v, j, rfl⟩
      · exact h3 p hp
theorem keys_ok {ps : List PyData} (h : ∀ p ∈ ps, ∃ v j : Int, p = .tuple [.int v, .int j]) (hl : ps.length ≤ 1000) : sortOk ps = true := by
  have a1 : alikeB ps = true := by
    unfold alikeB
    rw [List.all_eq_true]
    intro d hd
    rw [List.all_eq_true]
    intro e he
    obtain ⟨v, j, rfl⟩ := h d hd
    obtain ⟨v', j', rfl⟩ := h e he
    rfl
  have a2 : ps.all tup1 = true := by
    rw [List.all_eq_true]
    intro d hd
    obtain ⟨v, j, rfl⟩ := h d hd
    rfl
  have a3 : (ps.all fun d => decide (d.depth ≤ 64)) = true := by
    rw [List.all_eq_true]
    intro d hd
    obtain ⟨v, j, rfl⟩ := h d hd
    rfl
  unfold sortOk
  rw [a1, a2, a3, decide_eq_true (le_line hl)]
  rfl
theorem sorted_keys {s : Sto} {m n : Nat} {ys : List D} (e : lstAt s m = some ys) (h : ∀ y ∈ ys, KeyD n y) (hl : ys.length ≤ 1000) : ∃ zs, fSortedL [.obj m] s = some (.obj s.length, s ++ [.lst zs]) ∧ zs.length = ys.length ∧ ∀ z ∈ zs, KeyD n z := by
  obtain ⟨ps, h1, h2, h3⟩ := keys_py s ys h
  refine ⟨sortP (ys.zip ps), ?_, ?_, fun z hz => ?_⟩
  · unfold fSortedL
    simp only [e, h1, if_pos (keys_ok h3 (by omega))]
  · unfold sortP
    rw [List.length_map, List.length_mergeSort, List.length_zip, h2, Nat.min_self]
  · unfold sortP at hz
    obtain ⟨p, hp, rfl⟩ := List.mem_map.mp hz
    rw [List.mem_mergeSort] at hp
    exact h p.1 (List.of_mem_zip (a := p.1) (b := p.2) hp).1
end My

namespace My
open PySem L2 PyProof.Rows DV
def oB (A : Ax) : DS := (dSeq (dAsg (dCl (argN 2 (M_u_law_pick A)) (dCons (dVar 0) (dCons (dLst (dCons (dC (.int 1)) (dCons (dC (.int 2)) (dCons (dC (.int 3)) (dCons (dC (.int 5)) (dCons (dC (.int 7)) (dCons (dC (.int 24)) dNil))))))) dNil))) (gN 7))
  (dDrop (dBM "list" fAppend (dVar 3) (dCons (dTup (dCons (dCl (argN 2 (M_u_law_draw A)) (dCons (dVar 0) (dCons (dOp fAdd (dOp fMul (dVar 1) (dVar 7)) (dC (.int 1))) dNil))) (dCons (dVar 7) dNil))) dNil))))
def o1s : DS := (dAsg (dLst dNil) (gN 3))
def o2s (A : Ax) : DS := (dFor (iRange1 (dCons (dOp fAdd (dC (.int 1)) (dCl (argN 2 (M_u_law_draw A)) (dCons (dVar 0) (dCons (dVar 2) dNil)))) dNil)) (gN 4) (oB A))
def o3s (A : Ax) : DS := (dAsg (dCl (argN 2 (M_u_law_pick A)) (dCons (dVar 0) (dCons (dLst (dCons (dTup (dCons (dC (.int 0)) (dCons (dC (.int 1)) dNil))) (dCons (dTup (dCons (dC (.int 1)) (dCons (dC (.int 8)) dNil))) (dCons (dTup (dCons (dC (.int 1)) (dCons (dC (.int 5)) dNil))) (dCons (dTup (dCons (dC (.int 1)) (dCons (dC (.int 4)) dNil))) (dCons (dTup (dCons (dC (.int 1)) (dCons (dC (.int 3)) dNil))) (dCons (dTup (dCons (dC (.int 2)) (dCons (dC (.int 3)) dNil))) (dCons (dTup (dCons (dC (.int 1)) (dCons (dC (.int 24)) dNil))) dNil)))))))) dNil))) (gN 5))
def o4x : DX := dLc [4, 9] (iEnum (dCons (dVar 3) dNil)) (gTp 2 (gsCons (gN 4) (gsCons (gN 9) gsNil))) dYes (dTup (dCons (dOp fDiv (dOp fMul (dOp fMul (dC (.int 24)) (dC (.int 35))) (dOp fIx (dVar 9) (dC (.int 0)))) (dOp fIx (dVar 9) (dC (.int 1)))) (dCons (dVar 4) dNil)))
def o4s : DS := (dAsg (dCB fSortedL (dCons o4x dNil)) (gN 6))
def o5s (A : Ax) : DS := (dIfS (dTest (dOp fEq (dCl (argN 2 (M_u_law_draw A)) (dCons (dVar 0) (dCons (dC (.int 4)) dNil))) (dC (.int 0)))) (dRet (dTup (dCons (dVar 3) (dCons (dVar 5) dNil)))) dNx)
def o6x : DX := dLc [8] (iSeqL (dVar 6)) (gN 8) dYes (dOp fIx (dVar 3) (dOp fIx (dVar 8) (dC (.int 1))))
def o6s : DS := (dRet (dTup (dCons o6x (dCons (dVar 5) dNil))))
theorem ds_ons_eq (A : Ax) : ds_u_law_onsets A = dSeq o1s (dSeq (o2s A) (dSeq (o3s A) (dSeq o4s (dSeq (o5s A) o6s)))) := rfl
def six : List D := [.int 1, .int 2, .int 3, .int 5, .int 7, .int 24]
def sev : List D := [frD 0 1, frD 1 8, frD 1 5, frD 1 4, frD 1 3, frD 2 3, frD 1 24]
theorem six_mem {d : D} (h : d ∈ six) : ∃ b : Nat, d = .int b ∧ 0 < b ∧ b ≤ 24 := by
  simp only [six, List.mem_cons, List.not_mem_nil, or_false] at h
  rcases h with rfl | rfl | rfl | rfl | rfl | rfl
  · exact ⟨1, rfl, by decide, by decide⟩
  · exact ⟨2, rfl, by decide, by decide⟩
  · exact ⟨3, rfl, by decide, by decide⟩
  · exact ⟨5, rfl, by decide, by decide⟩
  · exact ⟨7, rfl, by decide, by decide⟩
  · exact ⟨24, rfl, by decide, by decide⟩
theorem sev_mem {d : D} (h : d ∈ sev) : Rc d := by
  simp only [sev, List.mem_cons, List.not_mem_nil, or_false] at h
  rcases h with rfl | rfl | rfl | rfl | rfl | rfl | rfl
  · exact ⟨0, 1, rfl, by decide, by decide, by decide⟩
  · exact ⟨1, 8, rfl, by decide, by decide, by decide⟩
  · exact ⟨1, 5, rfl, by decide, by decide, by decide⟩
  · exact ⟨1, 4, rfl, by decide, by decide, by decide⟩
  · exact ⟨1, 3, rfl, by decide, by decide, by decide⟩
  · exact ⟨2, 3, rfl, by decide, by decide, by decide⟩
  · exact ⟨1, 24, rfl, by decide, by decide, by decide⟩
section
variable {A : Ax} {s : Sto} {st S K : Nat}
/-- pick(state, [..]) -/
theorem pick_new {da : DA} {Δ : Dn} {xs : List D} {i : Nat} (hi : Δ[i]? = some (some (.obj st))) (hx : da Δ s = some (.ok xs, s)) (h : Rnd s st (K + 1)) (h0 : 0 < xs.length) (h1 : xs.length < 1000) : ∃ d s', dCl (argN 2 (M_u_law_pick A)) (dCons (dVar i) (dCons (dLst da) dNil)) Δ s = some (.ok d, s') ∧ d ∈ xs ∧ Rnd s' st K ∧ Sm st s s' := by
  have lt := h.lt
  obtain ⟨d, s', p1, p2, p3, p4⟩ := pick A (s := s ++ [.lst xs]) (j := s.length) (xs := xs) h.app lstAt_new (by omega) h0 (by omega)
  have v : dVar i Δ s = some (.ok (.obj st), s) := by rw [dVar_eq, hi]
  exact ⟨d, s', (cl5 (xs := [.obj st, .obj s.length]) (cn v (cn (ls hx (by omega)) rfl))).trans ((ag5 rfl).trans p1), p2, p3, Sm.app.trans p4⟩
theorem oB_run (x2 x4 x5 x6 x7 x8 x9 : Option D) {m : Nat} {L : List D} (hm : m ≠ st) (h : Rnd s st (K + 2)) (e : lstAt s m = some L) (hS0 : 0 < S) (hS : S ≤ 16) (hz : L.length ≤ 900) :
    ∃ y7 d s', oB A [some (.obj st), some (.int S), x2, some (.obj m), x4, x5, x6, x7, x8, x9] s = some (.nx [some (.obj st), some (.int S), x2, some (.obj m), x4, x5, x6, y7, x8, x9], s') ∧ On S d ∧ lstAt s' m = some (L ++ [d]) ∧ Rnd s' st K ∧ (∀ s0, Sm st s0 s → s0.length ≤ m → Sm st s0 s') := by
  have l2 : 2 ≤ 1000 := by decide
  obtain ⟨d, s1, p1, p2, p3, p4⟩ := pick_new (A := A) (Δ := [some (.obj st), some (.int S), x2, some (.obj m), x4, x5, x6, x7, x8, x9]) (i := 0) (xs := six) (da := (dCons (dC (.int 1)) (dCons (dC (.int 2)) (dCons (dC (.int 3)) (dCons (dC (.int 5)) (dCons (dC (.int 7)) (dCons (dC (.int 24)) dNil))))))) (K := K + 1) rfl rfl h (by decide) (by decide)
  obtain ⟨b, rfl, b0, b1⟩ := six_mem p2
  have sb : S * b ≤ 16 * 24 := Nat.mul_le_mul hS b1
  obtain ⟨v, s2, hd, v0, v1, r2, m2⟩ := draw A (m := ((S * b + 1 : Nat) : Int)) p3 (by omega) (by omega)
  obtain ⟨a, rfl⟩ : ∃ a : Nat, v = a := ⟨v.toNat, by omega⟩
  have e1 := p4.lst e hm
  have e2 := m2.lst e1 hm
  have u1 : dAsg (dCl (argN 2 (M_u_law_pick A)) (dCons (dVar 0) (dCons (dLst (dCons (dC (.int 1)) (dCons (dC (.int 2)) (dCons (dC (.int 3)) (dCons (dC (.int 5)) (dCons (dC (.int 7)) (dCons (dC (.int 24)) dNil))))))) dNil))) (gN 7) [some (.obj st), some (.int S), x2, some (.obj m), x4, x5, x6, x7, x8, x9] s = some (.nx [some (.obj st), some (.int S), x2, some (.obj m), x4, x5, x6, some (.int b), x8, x9], s1) := asg p1 rfl
  have mm : fMul (.int S) (.int b) s1 = some (.int (S * b : Nat), s1) := by
    rw [mul5 (mulSm1 (by omega)), Int.natCast_mul]
  have ad : fAdd (.int (S * b : Nat)) (.int 1) s1 = some (.int (S * b + 1 : Nat), s1) := by
    rw [add5]
    rfl
  have dr : dCl (argN 2 (M_u_law_draw A)) (dCons (dVar 0) (dCons (dOp fAdd (dOp fMul (dVar 1) (dVar 7)) (dC (.int 1))) dNil)) [some (.obj st), some (.int S), x2, some (.obj m), x4, x5, x6, some (.int b), x8, x9] s1 = some (.ok (.int a), s2) :=
    (cl5 (xs := [.obj st, .int (S * b + 1 : Nat)]) (s1 := s1) (cn rfl (cn (op5 (s1 := s1) (s2 := s1) (op5 (s1 := s1) (s2 := s1) rfl rfl mm) rfl ad) rfl))).trans ((ag5 rfl).trans hd)
  have u2 := app5 (i := 3) (Δ := [some (.obj st), some (.int S), x2, some (.obj m), x4, x5, x6, some (.int b), x8, x9]) (da := dCons (dTup (dCons (dCl (argN 2 (M_u_law_draw A)) (dCons (dVar 0) (dCons (dOp fAdd (dOp fMul (dVar 1) (dVar 7)) (dC (.int 1))) dNil))) (dCons (dVar 7) dNil))) dNil) (y := frD a b) rfl e1 (cn (tp (cn dr (cn rfl rfl)) l2) rfl) e2 (Nat.lt_of_lt_of_le (show L.length < 1000 by omega) (le_line (by decide)))
  refine ⟨some (.int b), frD a b, s2.set m (.lst (L ++ [frD a b])), ?_, ⟨a, b, rfl, by omega, b0, b1⟩, lstAt_set e2, r2.set (fun z => hm z.symm), fun s0 h0 hle => ((h0.trans p4).trans m2).setN hle⟩
  unfold oB
  rw [seq_nx u1, u2]
end
end My

set_option maxHeartbeats 4000000
namespace My
open PySem L2 PyProof.Rows DV
section
variable {A : Ax} {s : Sto} {st S K : Nat}
/-- the keys, unsorted -/
theorem keys_run (x0 x1 x2 x4 x5 x6 x7 x8 x9 : Option D) {m : Nat} {L : List D} (e : lstAt s m = some L) (hL : ∀ x ∈ L, On S x) (hS : S ≤ 16) (hz : L.length ≤ 4) :
    ∃ s' ks, o4x [x0, x1, x2, some (.obj m), x4, x5, x6, x7, x8, x9] s = some (.ok (.obj s.length), s') ∧ Gr s s' ∧ lstAt s' s.length = some ks ∧ ks.length = L.length ∧ ∀ y ∈ ks, KeyD L.length y := by
  have l2 : 2 ≤ 1000 := by decide
  have hi : iEnum (dCons (dVar 3) dNil) [x0, x1, x2, some (.obj m), x4, x5, x6, x7, x8, x9] s = some (.ok ⟨enumD 0 L, some (m, L)⟩, s) := by
    rw [iEnum_eq, mbind_ok, cn (x := .obj m) (xs := []) (s1 := s) (s2 := s) rfl rfl]
    simp only [e]
  have en : (enumD 0 L).length = L.length := enumD_len L 0
  obtain ⟨s', yss, e1, e2, e3, e4⟩ := lc_pure (I := ⟨enumD 0 L, some (m, L)⟩) (g := gTp 2 (gsCons (gN 4) (gsCons (gN 9) gsNil))) (tt := dYes) (de := dTup (dCons (dOp fDiv (dOp fMul (dOp fMul (dC (.int 24)) (dC (.int 35))) (dOp fIx (dVar 9) (dC (.int 0)))) (dOp fIx (dVar 9) (dC (.int 1)))) (dCons (dVar 4) dNil))) (Δ := [x0, x1, x2, some (.obj m), none, x5, x6, x7, x8, none]) (s := s) (fun d ys => ys.length = 1 ∧ ∀ y ∈ ys, KeyD L.length y) (fun s' g => still_of (g.lst e)) (fun d s1 hd _ => by
    obtain ⟨i, x, h1, h2, rfl⟩ := enum_mem L 0 d hd
    obtain ⟨a, b, rfl, ha, b0, b1⟩ := hL x h2
    have sb : S * b ≤ 16 * 24 := Nat.mul_le_mul hS b1
    have dv : divOk ((24 * 35 : Int) * a) b = true := by
      unfold divOk
      rw [decide_eq_true (by omega), decide_eq_true (by omega)]
      rfl
    refine ⟨_, rfl, .inr ⟨s1, .tup [.int (((24 * 35 : Int) * a).fdiv b), .int i], s1, rfl, ?_, Gr.refl _, rfl, fun y hy => ?_⟩⟩
    · refine tp (cn (s1 := s1) (op5 (s1 := s1) (s2 := s1) (op5 (s1 := s1) (s2 := s1) (op5 (s1 := s1) (s2 := s1) rfl rfl (mul5 (mulSm1 (by decide)))) (op5 (s1 := s1) (s2 := s1) rfl rfl ix0) (mul5 (mulSm1 (by decide)))) (op5 (s1 := s1) (s2 := s1) rfl rfl ix1) ?_) (cn (s1 := s1) rfl rfl)) l2
      unfold fDiv
      rw [fI_eq, if_pos dv]
    · rw [List.mem_singleton] at hy
      exact ⟨_, i, by omega, hy⟩) (le_line (by show (enumD 0 L).length ≤ 1000; omega))
  obtain ⟨q1, q2⟩ := all2_flat (Q := KeyD L.length) e3 (fun d ys h => h)
  exact ⟨s', yss.flatten, lc_of hi e1, e4, e2, q1.trans en, q2⟩
/-- the onsets in the order of the keys -/
theorem pick_run (x0 x1 x2 x4 x5 x7 x8 x9 : Option D) {m q : Nat} {L ks : List D} (e : lstAt s m = some L) (ek : lstAt s q = some ks) (hk : ∀ y ∈ ks, KeyD L.length y) (hz : ks.length ≤ 900) {Qd : D → Prop} (hL : ∀ x ∈ L, Qd x) :
    ∃ s' zs, o6x [x0, x1, x2, some (.obj m), x4, x5, some (.obj q), x7, x8, x9] s = some (.ok (.obj s.length), s') ∧ Gr s s' ∧ lstAt s' s.length = some zs ∧ zs.length = ks.length ∧ ∀ y ∈ zs, Qd y := by
  have hi : iSeqL (dVar 6) [x0, x1, x2, some (.obj m), x4, x5, some (.obj q), x7, x8, x9] s = some (.ok ⟨ks, some (q, ks)⟩, s) := by simp [ek]
  obtain ⟨s', yss, e1, e2, e3, e4⟩ := lc_pure (I := ⟨ks, some (q, ks)⟩) (g := gN 8) (tt := dYes) (de := dOp fIx (dVar 3) (dOp fIx (dVar 8) (dC (.int 1)))) (Δ := [x0, x1, x2, some (.obj m), x4, x5, some (.obj q), x7, none, x9]) (s := s) (fun d ys => ys.length = 1 ∧ ∀ y ∈ ys, Qd y) (fun s' g => still_of (g.lst ek)) (fun d s1 hd g1 => by
    obtain ⟨v, j, hj, rfl⟩ := hk d hd
    have ha : atI L (j : Int) = some L[j] := by
      unfold atI ixN
      rw [if_pos (by omega), if_pos (by omega)]
      exact List.getElem?_eq_getElem hj
    have fx : fIx (.obj m) (.int j) s1 = some (L[j], s1) := by rw [fIx_obj, g1.lst e]; simp only [ha]
    exact ⟨_, rfl, .inr ⟨s1, L[j], s1, rfl, op5 (s1 := s1) (s2 := s1) rfl (op5 (s1 := s1) (s2 := s1) rfl rfl ix1) fx, Gr.refl _, rfl, fun y hy => by rw [List.mem_singleton] at hy; rw [hy]; exact hL _ (List.getElem_mem hj)⟩⟩) (le_line (by show ks.length ≤ 1000; omega))
  obtain ⟨q1, q2⟩ := all2_flat (Q := Qd) e3 (fun d ys h => h)
  exact ⟨s', yss.flatten, lc_of hi e1, e4, e2, q1, q2⟩
theorem onsets_run (h : Rnd s st (K + 11)) (hS0 : 0 < S) (hS : S ≤ 16) :
    ∃ p L rc s', M_u_law_onsets A [.obj st, .int S, .int 4] s = some (.ok (.tup [.obj p, rc]), s') ∧ lstAt s' p = some L ∧ (∀ x ∈ L, On S x) ∧ Rc rc ∧ Rnd s' st K ∧ Sm st s s' ∧ s.length ≤ p ∧ 1 ≤ L.length ∧ L.length ≤ 4 := by
  have l2 : 2 ≤ 1000 := by decide
  have lt := h.lt
  have hs : startD 10 [.obj st, .int S, .int 4] = [some (.obj st), some (.int S), some (.int 4), none, none, none, none, none, none, none] := rfl
  have u1 : o1s [some (.obj st), some (.int S), some (.int 4), none, none, none, none, none, none, none] s = some (.nx [some (.obj st), some (.int S), some (.int 4), some (.obj s.length), none, none, none, none, none, none], s ++ [.lst []]) := asg (ls (s1 := s) rfl (by simp)) rfl
  obtain ⟨v, s1, hd, v0, v1, r1, m1⟩ := draw A (s := s ++ [.lst []]) (m := 4) (k := K + 10) h.app (by decide) (by decide)
  obtain ⟨c, rfl⟩ : ∃ c : Nat, v = c := ⟨v.toNat, by omega⟩
  have ra : (dCons (dOp fAdd (dC (.int 1)) (dCl (argN 2 (M_u_law_draw A)) (dCons (dVar 0) (dCons (dVar 2) dNil)))) dNil) [some (.obj st), some (.int S), some (.int 4), some (.obj s.length), none, none, none, none, none, none] (s ++ [.lst []]) = some (.ok [.int ((1 + c : Nat) : Int)], s1) := by
    refine cn (op5 (s1 := s ++ [.lst []]) (s2 := s1) rfl ((cl5 (xs := [.obj st, .int 4]) (s1 := s ++ [.lst []]) (cn rfl (cn rfl rfl))).trans ((ag5 rfl).trans hd)) ?_) rfl
    rw [add5, Int.natCast_add]
    rfl
  have en : lstAt s1 s.length = some [] := m1.lst lstAt_new (by omega)
  obtain ⟨Δ2, s2, a2, y4, y7, L, rfl, e2, hL, hz, r2, m2⟩ := for_gen (I := rngI 0 (1 + c)) (g := gN 4) (b := oB A)
    (fun r Δ s' => ∃ (y4 y7 : Option D) (L : List D), Δ = [some (.obj st), some (.int S), some (.int 4), some (.obj s.length), y4, none, none, y7, none, none] ∧ lstAt s' s.length = some L ∧ (∀ x ∈ L, On S x) ∧ L.length + r.length = 1 + c ∧ Rnd s' st (K + 2 + r.length * 2) ∧ Sm st s s') (fun _ _ _ _ => rfl) (fun d r Δ s' ⟨y4, y7, L, eΔ, e, hL, hz, hr, hm⟩ => by
      subst eΔ
      rw [List.length_cons] at hz hr
      obtain ⟨z7, x, s3, w1, w2, w3, w4, w5⟩ := oB_run (A := A) (K := K + 2 + r.length * 2) (some (.int 4)) (some d) none none y7 none none (show s.length ≠ st by omega) (hr.mono (by omega)) e hS0 hS (by omega)
      exact ⟨_, s', rfl, _, s3, w1, some d, z7, L ++ [x], rfl, w3, fun y hy => by
        rw [List.mem_append, List.mem_singleton] at hy
        rcases hy with hy | rfl
        · exact hL y hy
        · exact w2, by rw [List.length_append, List.length_singleton]; omega, w4, w5 s hm (Nat.le_refl _)⟩) (rngI 0 (1 + c)).its [some (.obj st), some (.int S), some (.int 4), some (.obj s.length), none, none, none, none, none, none] s1 ⟨none, none, [], rfl, en, (fun x h => by cases h), by rw [rng_len]; simp, r1.mono (by rw [rng_len]; omega), Sm.app.trans m1⟩
  have u2 : o2s A [some (.obj st), some (.int S), some (.int 4), some (.obj s.length), none, none, none, none, none, none] (s ++ [.lst []]) = _ := for_of (range1 ra (by omega)) a2
  obtain ⟨rc, s3, p1, p2, p3, p4⟩ := pick_new (A := A) (s := s2) (Δ := [some (.obj st), some (.int S), some (.int 4), some (.obj s.length), y4, none, none, y7, none, none]) (i := 0) (xs := sev) (da := (dCons (dTup (dCons (dC (.int 0)) (dCons (dC (.int 1)) dNil))) (dCons (dTup (dCons (dC (.int 1)) (dCons (dC (.int 8)) dNil))) (dCons (dTup (dCons (dC (.int 1)) (dCons (dC (.int 5)) dNil))) (dCons (dTup (dCons (dC (.int 1)) (dCons (dC (.int 4)) dNil))) (dCons (dTup (dCons (dC (.int 1)) (dCons (dC (.int 3)) dNil))) (dCons (dTup (dCons (dC (.int 2)) (dCons (dC (.int 3)) dNil))) (dCons (dTup (dCons (dC (.int 1)) (dCons (dC (.int 24)) dNil))) dNil)))))))) (K := K + 1) rfl (by
    have w : ∀ a b : Int, dTup (dCons (dC (.int a)) (dCons (dC (.int b)) dNil)) [some (.obj st), some (.int S), some (.int 4), some (.obj s.length), y4, none, none, y7, none, none] s2 = some (.ok (frD a b), s2) := fun a b => tp (cn (s1 := s2) rfl (cn (s1 := s2) rfl rfl)) l2
    exact cn (w 0 1) (cn (w 1 8) (cn (w 1 5) (cn (w 1 4) (cn (w 1 3) (cn (w 2 3) (cn (w 1 24) rfl))))))) (r2.mono (by omega)) (by decide) (by decide)
  have hrc := sev_mem p2
  have e3 := p4.lst e2 (by omega)
  have u3 : o3s A [some (.obj st), some (.int S), some (.int 4), some (.obj s.length), y4, none, none, y7, none, none] s2 = some (.nx [some (.obj st), some (.int S), some (.int 4), some (.obj s.length), y4, some rc, none, y7, none, none], s3) := asg p1 rfl
  have hz1 : L.length = 1 + c := by simpa using hz
  have hz' : L.length ≤ 4 := by omega
  obtain ⟨s4, ks, k1, k2, k3, k4, k5⟩ := keys_run (S := S) (some (.obj st)) (some (.int S)) (some (.int 4)) y4 (some rc) none y7 none none e3 hL hS hz'
  obtain ⟨zs, z1, z2, z3⟩ := sorted_keys k3 k5 (by omega)
  have u4 : o4s [some (.obj st), some (.int S), some (.int 4), some (.obj s.length), y4, some rc, none, y7, none, none] s3 = some (.nx [some (.obj st), some (.int S), some (.int 4), some (.obj s.length), y4, some rc, some (.obj s4.length), y7, none, none], s4 ++ [.lst zs]) := asg (cb5 (cn k1 rfl) z1) rfl
  have m4 : Sm st s (s4 ++ [.lst zs]) := ((m2.trans p4).trans (Gr.sm k2)).trans Sm.app
  have r4 : Rnd (s4 ++ [.lst zs]) st (K + 1) := (p3.gr k2).app
  obtain ⟨w, s5, hw, w0, w1, r5, m5⟩ := draw A (m := 4) r4 (by decide) (by decide)
  have e5 : lstAt s5 s.length = some L := m5.lst (lstAt_app (k2.lst e3)) (by omega)
  have l5 : s4.length ≠ st := by
    have := k2.len
    have := (m2.trans p4).1
    omega
  have q5 : lstAt s5 s4.length = some zs := m5.lst lstAt_new l5
  have t5 : dTest (dOp fEq (dCl (argN 2 (M_u_law_draw A)) (dCons (dVar 0) (dCons (dC (.int 4)) dNil))) (dC (.int 0))) [some (.obj st), some (.int S), some (.int 4), some (.obj s.length), y4, some rc, some (.obj s4.length), y7, none, none] (s4 ++ [.lst zs]) = some (.ok (w == 0), s5) :=
    te5 (op5 (s2 := s5) ((cl5 (xs := [.obj st, .int 4]) (s1 := s4 ++ [.lst zs]) (cn rfl (cn rfl rfl))).trans ((ag5 rfl).trans hw)) rfl (fEq_int s5 w 0))
  by_cases hw0 : (w == 0) = true
  · rw [hw0] at t5
    refine ⟨s.length, L, rc, s5, fn_rt ?_, e5, hL, hrc, r5, m4.trans m5, Nat.le_refl _, by omega, hz'⟩
    rw [ds_ons_eq, hs, seq_nx u1, seq_nx u2, seq_nx u3, seq_nx u4]
    exact seq_rt (yes5 t5 (tp (cn (s1 := s5) rfl (cn (s1 := s5) rfl rfl)) l2))
  · have hw1 : (w == 0) = false := by simpa using hw0
    rw [hw1] at t5
    obtain ⟨s6, ys, b1, b2, b3, b4, b5⟩ := pick_run (some (.obj st)) (some (.int S)) (some (.int 4)) y4 (some rc) y7 none none e5 q5 z3 (by omega) hL
    refine ⟨s5.length, ys, rc, s6, fn_rt ?_, b3, b5, hrc, r5.gr b2, (m4.trans m5).trans (Gr.sm b2), (m4.trans m5).1, by omega, by omega⟩
    rw [ds_ons_eq, hs, seq_nx u1, seq_nx u2, seq_nx u3, seq_nx u4]
    have c6 : dTup (dCons o6x (dCons (dVar 5) dNil)) [some (.obj st), some (.int S), some (.int 4), some (.obj s.length), y4, some rc, some (.obj s4.length), y7, none, none] s5 = some (.ok (.tup [.obj s5.length, rc]), s6) := tp (cn b1 (cn (s1 := s6) rfl rfl)) l2
    unfold o5s o6s
    rw [seq_nx (no5 t5), dRet_eq, sbind_eq, c6]
end
end My

set_option maxHeartbeats 4000000
namespace My
open PySem L2 PyProof.Rows DV
/-! ### points judged, their order, rows of them -/
theorem strip4 (l : List Bool) (h : l.length ≤ 4) : Txt.stripChars (txt l) ("01" : Str) = ("" : Str) := by
  match l, h with
  | [], _ => decide +kernel
  | [x], _ => cases x <;> decide +kernel
  | [x, y], _ => cases x <;> cases y <;> decide +kernel
  | [x, y, z], _ => cases x <;> cases y <;> cases z <;> decide +kernel
  | [x, y, z, b], _ => cases x <;> cases y <;> cases z <;> cases b <;> decide +kernel
theorem ends4 (r : List Bool) (h : r.length ≤ 3) : Txt.endswith (txt (r ++ [true])) ("1" : Str) = true := by
  match r, h with
  | [], _ => rfl
  | [x], _ => cases x <;> rfl
  | [x, y], _ => cases x <;> cases y <;> rfl
  | [x, y, z], _ => cases x <;> cases y <;> cases z <;> rfl
theorem str1 : PyData.canLay0 (.str "") = true := by rw [e_nil]; exact strOk_txt [] (by decide)
theorem ne_eq (l : List Bool) (h : l.length ≤ 4) : (txt l == ("" : Str)) = l.isEmpty := by
  match l, h with
  | [], _ => decide +kernel
  | [x], _ => cases x <;> decide +kernel
  | [x, y], _ => cases x <;> cases y <;> decide +kernel
  | [x, y, z], _ => cases x <;> cases y <;> cases z <;> decide +kernel
  | [x, y, z, b], _ => cases x <;> cases y <;> cases z <;> cases b <;> decide +kernel
theorem fNe_str {x y : Str} {s : Sto} (hx : PyData.canLay0 (.str x) = true) (hy : PyData.canLay0 (.str y) = true) : fNe (.str x) (.str y) s = some (.bl (!(x == y)), s) := by
  have h1 : toPy s 64 (.str x) = some (.str x) := rfl
  have h2 : toPy s 64 (.str y) = some (.str y) := rfl
  have h3 : py2 s (.str x) (.str y) = some (.str x, .str y) := by
    simp only [py2, h1, h2, SeqAt.shaped, hx, hy, PyData.depth]
    rfl
  unfold fNe
  rw [h3]
  rfl
/-- as trim leaves it -/
def Trm (l : List Bool) : Prop := l = [] ∨ ∃ r, l = r ++ [true]
theorem trm_trim : ∀ l : List Bool, Trm (trim l)
  | [] => .inl rfl
  | b :: r => by
    have ih := trm_trim r
    rw [trim]
    split
    · rename_i e
      cases b
      · exact .inl rfl
      · exact .inr ⟨[], rfl⟩
    · rename_i c q e
      rw [e] at ih
      rcases ih with ih | ⟨r', ih⟩
      · cases ih
      · exact .inr ⟨b :: r', by rw [ih]; rfl⟩
theorem tyS {x : Str} {s : Sto} : tyD "str" (.str x) s = true := rfl
theorem bits_ok (A : Ax) (s : Sto) (l : List Bool) (h : l.length ≤ 4) (ht : Trm l) : M_is_bits A [.str (txt l)] s = some (.ok (.bl true), s) := by
  have z : lenOk (txt l) = true := by unfold lenOk; rw [txt_size]; exact decide_eq_true (le_line (by omega))
  have q1 := strip4 l h
  have q2 := fNe_str (s := s) str1 str1
  have e1 : (("" : Str) == "") = true := by decide
  rw [e1] at q2
  have q3 := fEq_str (s := s) (strOk_txt l (by omega)) str1
  rw [ne_eq l h] at q3
  have fs : fStrip (.str (txt l)) [.str "01"] s = some (.str "", s) := by simp [fStrip, fS1, z, q1]
  rcases ht with rfl | ⟨r, rfl⟩
  · have e2 : ([] : List Bool).isEmpty = true := rfl
    rw [e2] at q3
    simp [M_is_bits, ds_is_bits, startD, truD, dBM, mTy, tyS, DV.liftM, fs, q2, q3]
  · have q4 := ends4 r (by simp at h; omega)
    have fe : fEndswith (.str (txt (r ++ [true]))) [.str "1"] s = some (.bl true, s) := by simp [fEndswith, fS1, q4]
    have e2 : (r ++ [true]).isEmpty = false := by cases r <;> rfl
    rw [e2] at q3
    simp [M_is_bits, ds_is_bits, startD, truD, dBM, mTy, tyS, DV.liftM, fs, q2, q3, fe]
theorem isp_ok (A : Ax) {s : Sto} {n : Nat} {t : Tr} (hM : MetreAt A s n t) (q : Nat) (l : List Bool) (h : l.length ≤ 4) (ht : Trm l) (hq : q < t.sz ∨ q = t.sz ∧ l = []) : M_Metre_is_point A [.obj n, .tup [.int q, .str (txt l)]] s = some (.ok (.bl true), s) := by
  have f1 := fFld_obj hM (fl_p t)
  have b := bits_ok A s l h ht
  have q3 := fEq_str (s := s) (strOk_txt l (by omega)) str1
  rw [ne_eq l h] at q3
  rcases hq with hq | ⟨rfl, rfl⟩
  · have hq' : (q : Int) < t.sz := by omega
    simp [M_Metre_is_point, ds_Metre_is_point, startD, truD, isnum_int, b, lift1, f1, dChain, fLe, fLt, hq']
  · have e2 : ([] : List Bool).isEmpty = true := rfl
    rw [e2] at q3
    simp [M_Metre_is_point, ds_Metre_is_point, startD, truD, isnum_int, b, lift1, f1, dChain, fLe, fLt, q3]
theorem lay_bits (l : List Bool) : PyData.canLay0 (.str (txt l)) = true := by
  simp [PyData.canLay0, PyData.strOk, txt]
abbrev Mo := Nat × List Bool
def mdD (m : Mo) : D := .tup [.int m.1, .str (txt m.2)]
def mdP (m : Mo) : PyData := .tuple [.int m.1, .str (txt m.2)]
def code (l : List Bool) : List Nat := l.map fun b => if b then 49 else 48
def mlt (m k : Mo) : Prop := m.1 < k.1 ∨ (m.1 = k.1 ∧ code m.2 < code k.2)
instance (m k : Mo) : Decidable (mlt m k) := by unfold mlt; exact inferInstance
theorem code_inj : ∀ {l r : List Bool}, code l = code r → l = r
  | [], [], _ => rfl
  | [], _ :: _, h => by simp [code] at h
  | _ :: _, [], h => by simp [code] at h
  | a :: l, b :: r, h => by
    simp only [code, List.map_cons, List.cons.injEq] at h
    have := code_inj h.2
    cases a <;> cases b <;> simp_all
theorem txt_code (l : List Bool) : (txt l).cps.toList = code l := by simp [txt, code]
theorem txt_inj {l r : List Bool} (h : txt l = txt r) : l = r := code_inj (by rw [← txt_code, ← txt_code, h])
theorem mlt_irrefl (m : Mo) : ¬ mlt m m := fun h => by
  rcases h with h | ⟨_, h⟩
  · omega
  · exact List.lt_irrefl _ h
theorem mlt_trans {a b c : Mo} (h : mlt a b) (k : mlt b c) : mlt a c := by
  rcases h with h | ⟨h1, h2⟩ <;> rcases k with k | ⟨k1, k2⟩
  · exact .inl (by omega)
  · exact .inl (by omega)
  · exact .inl (by omega)
  · exact .inr ⟨by omega, List.lt_trans h2 k2⟩
theorem mlt_total {a b : Mo} (h : ¬ mlt a b) (k : ¬ mlt b a) : a = b := by
  unfold mlt at h k
  have e1 : a.1 = b.1 := by omega
  have e2 : code a.2 = code b.2 := by
    have h1 : ¬ code a.2 < code b.2 := fun z => h (.inr ⟨e1, z⟩)
    have h2 : ¬ code b.2 < code a.2 := fun z => k (.inr ⟨e1.symm, z⟩)
    exact List.le_antisymm (List.not_lt.mp h2) (List.not_lt.mp h1)
  exact Prod.ext e1 (code_inj e2)
theorem dlt_int (x y : Int) : PySem.W.dataLt (.int x) (.int y) = decide (x < y) := by
  have h := congrFun (congrFun (PySem.W.dataLe_int (fun b : Int => b)) y) x
  have h2 : PySem.W.dataLe false (fun b : Int => PyData.int b) y x = !PySem.W.dataLt (.int x) (.int y) := rfl
  rw [h2] at h
  have h3 : PySem.W.dataLt (.int x) (.int y) = !decide (y ≤ x) := by rw [← h, Bool.not_not]
  rw [h3]
  by_cases c : x < y
  · rw [decide_eq_true c, decide_eq_false (by omega)]; rfl
  · rw [decide_eq_false c, decide_eq_true (by omega)]; rfl
theorem dlt_str (x y : Str) : PySem.W.dataLt (.str x) (.str y) = decide (x.cps.toList < y.cps.toList) := by
  have h := congrFun (congrFun (PySem.W.dataLe_str (fun b : Str => b)) y) x
  have h2 : PySem.W.dataLe false (fun b : Str => PyData.str b) y x = !PySem.W.dataLt (.str x) (.str y) := rfl
  rw [h2] at h
  have h3 : PySem.W.dataLt (.str x) (.str y) = !decide (y.cps.toList ≤ x.cps.toList) := by rw [← h, Bool.not_not]
  rw [h3]
  by_cases c : x.cps.toList < y.cps.toList
  · rw [decide_eq_true c, decide_eq_false (List.not_le.mpr c)]; rfl
  · rw [decide_eq_false c, decide_eq_true (List.not_lt.mp c)]; rfl
theorem dlt_md (m k : Mo) : PySem.W.dataLt (mdP m) (mdP k) = decide (mlt m k) := by
  unfold mdP
  rw [PySem.W.dataLt_pair (by rfl) (by rfl), dlt_int, dlt_str, txt_code, txt_code]
  have e1 : PyData.eqv (.int m.1) (.int k.1) = decide (m.1 = k.1) := by
    show ((m.1 : Int) == k.1) = _
    by_cases c : m.1 = k.1
    · simp [c]
    · have : ¬ ((m.1 : Int) = k.1) := by omega
      simp [c, this]
  have e2 : PyData.eqv (.str (txt m.2)) (.str (txt k.2)) = decide (m.2 = k.2) := by
    show (txt m.2 == txt k.2) = _
    by_cases c : m.2 = k.2
    · simp [c]
    · have : ¬ (txt m.2 = txt k.2) := fun z => c (txt_inj z)
      simp [c, this]
  rw [e1, e2]
  by_cases c : m.1 = k.1
  · rw [if_pos (decide_eq_true c)]
    by_cases d : m.2 = k.2
    · rw [if_pos (decide_eq_true d)]
      refine (decide_eq_false fun z => ?_).symm
      rcases z with z | ⟨_, z⟩
      · omega
      · rw [d] at z; exact List.lt_irrefl _ z
    · rw [if_neg (by simpa using d)]
      have : mlt m k ↔ code m.2 < code k.2 := ⟨fun z => by
        rcases z with z | ⟨_, z⟩
        · omega
        · exact z, fun z => .inr ⟨c, z⟩⟩
      exact (decide_eq_decide.mpr this).symm
  · rw [if_neg (by simpa using c)]
    have : mlt m k ↔ (m.1 : Int) < k.1 := ⟨fun z => by
      rcases z with z | ⟨z, _⟩
      · omega
      · exact absurd z c, fun z => .inl (by omega)⟩
    exact (decide_eq_decide.mpr this).symm
theorem toPy_md (s : Sto) (n : Nat) (m : Mo) : toPy s (n + 2) (mdD m) = some (mdP m) := rfl
theorem shp_md (m : Mo) : SeqAt.shaped (mdP m) = true := by
  have h := lay_bits m.2
  simp only [PyData.canLay0] at h
  simp [SeqAt.shaped, mdP, PyData.canLay0, PyData.canLayAll0, PyData.depth, PyData.depthAll, h]
theorem cmp_md (m k : Mo) : cmpOk (mdP m) (mdP k) = true := by
  simp [cmpOk, mdP, PySem.W.alike, PySem.W.alikeAll, notN, PyData.depth, PyData.depthAll]
theorem fGt_md (m k : Mo) (s : Sto) : fGtP (mdD m) (mdD k) s = some (.bl (decide (mlt k m)), s) := by
  have h1 := toPy_md s 62 m
  have h2 := toPy_md s 62 k
  unfold fGtP fCmpP
  rw [h1, h2]
  simp only [cmp_md, if_true, dlt_md]
theorem fLe_md (m k : Mo) (s : Sto) : fLeP (mdD m) (mdD k) s = some (.bl (!decide (mlt k m)), s) := by
  have h1 := toPy_md s 62 m
  have h2 := toPy_md s 62 k
  unfold fLeP fCmpP
  rw [h1, h2]
  simp only [cmp_md, if_true, dlt_md]
theorem eqv_md (m k : Mo) : PyData.eqv (mdP m) (mdP k) = decide (m = k) := by
  show (((m.1 : Int) == k.1) && ((txt m.2 == txt k.2) && true)) = _
  by_cases c : m = k
  · subst c; simp
  · rw [decide_eq_false c]
    by_cases d : m.1 = k.1
    · have e : ¬ (txt m.2 = txt k.2) := fun z => c (Prod.ext d (txt_inj z))
      simp [e]
    · have : ¬ ((m.1 : Int) = k.1) := by omega
      simp [this]
theorem py2_md (s : Sto) (m k : Mo) : py2 s (mdD m) (mdD k) = some (mdP m, mdP k) := by
  unfold py2
  rw [toPy_md s 62 m, toPy_md s 62 k]
  simp [shp_md]
theorem fEq_md (m k : Mo) (s : Sto) : fEq (mdD m) (mdD k) s = some (.bl (decide (m = k)), s) := by
  unfold fEq
  rw [py2_md]
  simp only [eqv_md]
theorem fLt_md (m k : Mo) (s : Sto) : fLtP (mdD m) (mdD k) s = some (.bl (decide (mlt m k)), s) := by
  have h1 := toPy_md s 62 m
  have h2 := toPy_md s 62 k
  unfold fLtP fCmpP
  rw [h1, h2]
  simp only [cmp_md, if_true, dlt_md]
theorem md_zero (b : Nat) : (D.tup [.int b, .str ""]) = mdD (b, []) := by rw [e_nil]; rfl
def pP (c k : Nat) : PyData := .tuple [.int (c / 2 ^ k : Nat), .str (txt (trim (lp k c [])))]
theorem py_pts (s : Sto) (k : Nat) (f : Nat → Nat) : ∀ l : List Nat, omap (toPy s 63) (l.map fun i => P (f i) k) = some (l.map fun i => pP (f i) k)
  | [] => rfl
  | i :: l => by
    have q : toPy s 63 (P (f i) k) = some (pP (f i) k) := rfl
    simp [omap, q, py_pts s k f l]
theorem lay_pt (c k : Nat) : PyData.canLay0 (pP c k) = true := by
  have h := lay_bits (trim (lp k c []))
  have h0 : PyData.canLay0 (.int (c / 2 ^ k : Nat)) = true := rfl
  unfold pP
  simp only [PyData.canLay0, PyData.canLayAll0] at h ⊢
  simp [h]
theorem lay_pts (k : Nat) (f : Nat → Nat) : ∀ l : List Nat, PyData.canLayAll0 (l.map fun i => pP (f i) k) = true
  | [] => rfl
  | i :: l => by simp [PyData.canLayAll0, lay_pt, lay_pts k f l]
theorem dep_pt (c k : Nat) : (pP c k).depth ≤ 2 := by
  unfold pP
  simp [PyData.depth, PyData.depthAll]
theorem dep_pts (k : Nat) (f : Nat → Nat) : ∀ l : List Nat, PyData.depthAll (l.map fun i => pP (f i) k) ≤ 2
  | [] => by simp [PyData.depthAll]
  | i :: l => by
    have h1 := dep_pt (f i) k
    have h2 := dep_pts k f l
    simp only [List.map_cons, PyData.depthAll]
    omega
theorem fNe_same {x y : D} {s : Sto} {p : PyData} (hx : toPy s 64 x = some p) (hy : toPy s 64 y = some p) (h : SeqAt.shaped p = true) : fNe x y s = some (.bl false, s) := by
  have e := SeqAt.eqv_refl p (SeqAt.canLay_of_shaped h)
  unfold fNe py2
  rw [hx, hy]
  simp [h, e]
def OkT (x : Str) (n : Nat) : Prop := (∀ c ∈ x.cps.toList, c < 1114112) ∧ x.cps.size ≤ n
def okT (x : Str) : Bool := (x.cps.toList.all fun c => decide (c < 1114112)) && decide (x.cps.size ≤ 20)
theorem okT_of {x : Str} (h : okT x = true) : OkT x 20 := by
  unfold okT at h
  rw [Bool.and_eq_true] at h
  exact ⟨fun c hc => of_decide_eq_true (List.all_eq_true.mp h.1 c hc), of_decide_eq_true h.2⟩
theorem OkT.app {x y : Str} {m n : Nat} (h : OkT x m) (k : OkT y n) : OkT (x ++ y) (m + n) := by
  have e : (x ++ y).cps = x.cps ++ y.cps := rfl
  refine ⟨fun c hc => ?_, ?_⟩
  · rw [e, Array.toList_append] at hc
    rcases List.mem_append.mp hc with hc | hc
    · exact h.1 c hc
    · exact k.1 c hc
  · rw [e, Array.size_append]
    have := h.2
    have := k.2
    omega
theorem OkT.lay {x : Str} {n : Nat} (h : OkT x n) : PyData.canLay0 (.str x) = true := by
  unfold PyData.canLay0 PyData.strOk
  rw [Array.all_eq_true']
  intro c hc
  exact decide_eq_true (h.1 c (by simpa using hc))
structure Small (p : PyData) : Prop where
  sh : p.showable = true
  nd : p.hasDict = false
  dp : p.depth ≤ 2
  ok : OkT p.shown 20
def smallB (p : PyData) : Bool := p.showable && !p.hasDict && decide (p.depth ≤ 2) && okT p.shown
theorem small_of {p : PyData} (h : smallB p = true) : Small p := by
  unfold smallB at h
  simp only [Bool.and_eq_true, Bool.not_eq_true', decide_eq_true_eq] at h
  exact ⟨h.1.1.1, h.1.1.2, h.1.2, okT_of h.2⟩
/-- data that may be shown -/
structure Show (p : PyData) : Prop where
  ok : shOk p = true
  lay : PyData.canLay0 (.str p.shown) = true
theorem show_of {p : PyData} (h1 : p.showable = true) (h2 : p.hasDict = false) (h3 : p.depth ≤ 64) {n : Nat} (h4 : OkT p.shown n) (h5 : n ≤ 1000) : Show p := by
  refine ⟨?_, h4.lay⟩
  have e : decide (p.shown.length ≤ sizeLine) = true := decide_eq_true (le_line (by have := h4.2; show p.shown.cps.size ≤ 1000; omega))
  unfold shOk
  rw [h1, h2, e, decide_eq_true h3]
  rfl
theorem show_small {p : PyData} (h : Small p) : Show p := show_of h.sh h.nd (by have := h.dp; omega) h.ok (by decide)
theorem cut_hi (xs : List D) (k : Nat) : DV.cutD xs none (some (k : Int)) = xs.take k := by
  unfold DV.cutD
  have h1 : HT.sIx xs.length 0 none = 0 := rfl
  rw [h1, HT.sIx_nat, List.drop_zero, Nat.sub_zero]
  by_cases c : k ≤ xs.length
  · rw [Nat.min_eq_left c]
  · rw [Nat.min_eq_right (by omega), List.take_of_length_le (Nat.le_refl _), List.take_of_length_le (by omega)]
theorem cut_lo (xs : List D) (k : Nat) : DV.cutD xs (some (k : Int)) none = xs.drop k := by
  unfold DV.cutD
  have h1 : HT.sIx xs.length xs.length none = xs.length := rfl
  rw [h1, HT.sIx_nat]
  by_cases c : k ≤ xs.length
  · rw [Nat.min_eq_left c, List.take_of_length_le (by rw [List.length_drop]; exact Nat.le_refl _)]
  · rw [Nat.min_eq_right (by omega), Nat.sub_self, List.drop_eq_nil_of_le (Nat.le_refl _), List.drop_eq_nil_of_le (by omega)]
    rfl
end My

set_option maxHeartbeats 4000000
namespace My
open PySem L2 PyProof.Rows DV
/-! ### the points of places, at most three halvings -/
def pm (c k : Nat) : Mo := (c / 2 ^ k, trim (lp k c []))
theorem P_md (c k : Nat) : P c k = mdD (pm c k) := rfl
theorem pP_md (c k : Nat) : pP c k = mdP (pm c k) := rfl
theorem fin_lt : ∀ k : Fin 4, ∀ a b : Fin 8, a.val < 2 ^ k.val → b.val < 2 ^ k.val → decide (code (trim (lp k.val a.val [])) < code (trim (lp k.val b.val []))) = decide (a.val < b.val) := by decide +kernel
theorem lt_rest {k a b : Nat} (hk : k ≤ 3) : code (trim (lp k a [])) < code (trim (lp k b [])) ↔ a % 2 ^ k < b % 2 ^ k := by
  have p := Nat.two_pow_pos k
  have p8 : 2 ^ k ≤ 8 := Nat.pow_le_pow_right (n := 2) (by decide) hk
  have ha : a % 2 ^ k < 2 ^ k := Nat.mod_lt _ p
  have hb : b % 2 ^ k < 2 ^ k := Nat.mod_lt _ p
  have h := fin_lt ⟨k, by omega⟩ ⟨a % 2 ^ k, by omega⟩ ⟨b % 2 ^ k, by omega⟩ ha hb
  simp only [lp_mod] at h
  exact decide_eq_decide.mp h
theorem mlt_pm {k a b : Nat} (hk : k ≤ 3) : mlt (pm a k) (pm b k) ↔ a < b := by
  have q := lt_rest (a := a) (b := b) hk
  unfold mlt pm
  simp only [q]
  have : k = 0 ∨ k = 1 ∨ k = 2 ∨ k = 3 := by omega
  rcases this with rfl | rfl | rfl | rfl <;> simp only [Nat.pow_zero, Nat.reducePow] <;> omega
theorem pm_inj {k a b : Nat} (hk : k ≤ 3) (h : pm a k = pm b k) : a = b := by
  have h1 : ¬ a < b := fun z => mlt_irrefl (pm b k) (by have := (mlt_pm hk).mpr z; rwa [h] at this)
  have h2 : ¬ b < a := fun z => mlt_irrefl (pm b k) (by have := (mlt_pm hk).mpr z; rwa [h] at this)
  omega
theorem P_inj {k a b : Nat} (hk : k ≤ 3) (h : P a k = P b k) : a = b := by
  rw [P_md, P_md] at h
  unfold mdD at h
  injection h with q
  injection q with q1 q2
  injection q1 with q1
  injection q2 with q2 _
  injection q2 with q2
  refine pm_inj hk (Prod.ext ?_ (txt_inj q2))
  omega
theorem fLt_P {k a b : Nat} (hk : k ≤ 3) (s : Sto) : fLtP (P a k) (P b k) s = some (.bl (decide (a < b)), s) := by
  rw [P_md, P_md, fLt_md]
  simp only [mlt_pm hk]
theorem trim_le : ∀ l : List Bool, (trim l).length ≤ l.length
  | [] => by simp [trim]
  | b :: r => by
    have ih := trim_le r
    unfold trim
    split
    · cases b <;> simp
    · rename_i q c e
      rw [e] at ih
      simp at ih ⊢
      omega
theorem lp0 : ∀ k : Fin 4, trim (lp k.val 0 []) = [] := by decide
/-- each is a point of the bar -/
theorem isp_P (A : Ax) {s : Sto} {n : Nat} {t : Tr} (hM : MetreAt A s n t) {k c : Nat} (hk : k ≤ 3) (hc : c ≤ t.sz * 2 ^ k) : M_Metre_is_point A [.obj n, P c k] s = some (.ok (.bl true), s) := by
  have p := Nat.two_pow_pos k
  have hl : (trim (lp k c [])).length ≤ 4 := by
    have h1 := trim_le (lp k c [])
    rw [lp_len] at h1
    simp at h1
    omega
  refine isp_ok A hM (c / 2 ^ k) (trim (lp k c [])) hl (trm_trim _) ?_
  by_cases e : c = t.sz * 2 ^ k
  · refine .inr ⟨by rw [e]; exact Nat.mul_div_cancel _ p, ?_⟩
    rw [← lp_mod, e, Nat.mul_mod_left]
    exact lp0 ⟨k, by omega⟩
  · left
    rw [Nat.div_lt_iff_lt_mul p]
    omega
/-- a point in a row -/
theorem fIn_row {s : Sto} {q k c : Nat} {F E : Int} (hk : k ≤ 3) (hF : 0 ≤ F) (e : lstAt s q = some (rowP F E k)) : fIn (P c k) (.obj q) s = some (.bl (decide (F ≤ c ∧ (c : Int) ≤ E)), s) := by
  have w : toPy s 64 (.obj q) = some (.list ((List.range (E + 1 - F).toNat).map fun i => pP (F.toNat + i) k)) := by
    show (match lstAt s q with | some xs => (omap (toPy s 63) xs).map PyData.list | none => none) = _
    rw [e]
    unfold rowP
    simp only [py_pts s k (fun i => F.toNat + i)]
    rfl
  have l := lay_pts k (fun i => F.toNat + i) (List.range (E + 1 - F).toNat)
  have d := dep_pts k (fun i => F.toNat + i) (List.range (E + 1 - F).toNat)
  have sh : SeqAt.shaped (PyData.list ((List.range (E + 1 - F).toNat).map fun i => pP (F.toNat + i) k)) = true := by
    unfold SeqAt.shaped
    rw [decide_eq_true (show (PyData.list _).depth ≤ 64 by rw [PyData.depth]; omega)]
    simp [PyData.canLay0, l]
  have w1 : toPy s 64 (P c k) = some (mdP (pm c k)) := rfl
  have py : py2 s (P c k) (.obj q) = some (mdP (pm c k), .list ((List.range (E + 1 - F).toNat).map fun i => pP (F.toNat + i) k)) := by
    unfold py2
    rw [w1, w]
    simp only [shp_md, sh, Bool.and_self, if_true]
  have an : (((List.range (E + 1 - F).toNat).map fun i => pP (F.toNat + i) k).any fun z => PyData.eqv z (mdP (pm c k))) = decide (F ≤ c ∧ (c : Int) ≤ E) := by
    rw [List.any_map, Bool.eq_iff_iff, List.any_eq_true, decide_eq_true_iff]
    constructor
    · rintro ⟨i, hi, h⟩
      have h2 : PyData.eqv (mdP (pm (F.toNat + i) k)) (mdP (pm c k)) = true := h
      rw [eqv_md, decide_eq_true_iff] at h2
      have := pm_inj hk h2
      rw [List.mem_range] at hi
      omega
    · rintro ⟨h1, h2⟩
      refine ⟨c - F.toNat, List.mem_range.mpr (by omega), ?_⟩
      show PyData.eqv (mdP (pm (F.toNat + (c - F.toNat)) k)) (mdP (pm c k)) = true
      rw [eqv_md, decide_eq_true_iff]
      have : F.toNat + (c - F.toNat) = c := by omega
      rw [this]
  have f1 : fInS false (P c k) (.obj q) s = none := rfl
  have f2 : fInP false (P c k) (.obj q) s = some (.bl (decide (F ≤ c ∧ (c : Int) ≤ E)), s) := by
    unfold fInP
    rw [py]
    simp only [pyItems, an]
    rfl
  unfold fIn orOp
  rw [f1]
  exact f2
end My

set_option maxHeartbeats 4000000
namespace My
open PySem L2 PyProof.Rows DV
/-! ### other values, and what repr says -/
inductive OddD (s : Sto) : D → Prop
  | non : OddD s .non
  | z0 : OddD s (.tup [.int 0, .str "0"])
  | li (m : Nat) : lstAt s m = some [.int 0, .str ""] → OddD s (.obj m)
  | bo : OddD s (.tup [.bl true, .str ""])
  | tr : OddD s (.tup [.int 0, .str "", .int 1])
  | ng : OddD s (.tup [.int (-1), .str ""])
  | tw : OddD s (.tup [.int 0, .str "2"])
  | nu : OddD s (.int 0)
def odds : List PyData := [.none, .tuple [.int 0, .str "0"], .list [.int 0, .str ""], .tuple [.bool true, .str ""], .tuple [.int 0, .str "", .int 1], .tuple [.int (-1), .str ""], .tuple [.int 0, .str "2"], .int 0]
theorem odd_py {s : Sto} {d : D} (h : OddD s d) : ∃ p, p ∈ odds ∧ toPy s 64 d = some p := by
  cases h with
  | non => exact ⟨.none, by simp [odds], rfl⟩
  | z0 => exact ⟨.tuple [.int 0, .str "0"], by simp [odds], rfl⟩
  | li m h =>
    refine ⟨.list [.int 0, .str ""], by simp [odds], ?_⟩
    show (match lstAt s m with | some xs => (omap (toPy s 63) xs).map PyData.list | none => none) = _
    rw [h]
    rfl
  | bo => exact ⟨.tuple [.bool true, .str ""], by simp [odds], rfl⟩
  | tr => exact ⟨.tuple [.int 0, .str "", .int 1], by simp [odds], rfl⟩
  | ng => exact ⟨.tuple [.int (-1), .str ""], by simp [odds], rfl⟩
  | tw => exact ⟨.tuple [.int 0, .str "2"], by simp [odds], rfl⟩
  | nu => exact ⟨.int 0, by simp [odds], rfl⟩
theorem isi_lst {n : Nat} {s : Sto} {xs : List D} (h : lstAt s n = some xs) : fIsi [.obj n, .ty "tuple"] s = some (.bl false, s) := by
  have e := lstAt_eq h
  simp [fIsi, kdOf, e, tyNames, Kd.is, Kd.name]
theorem isnum_bl (A : Ax) (b : Bool) (s : Sto) : M_is_number A [.bl b] s = some (.ok (.bl false), s) := by
  have i1 : fIsi [.bl b, .ty "int"] s = some (.bl true, s) := rfl
  have i2 : fIsi [.bl b, .ty "bool"] s = some (.bl true, s) := rfl
  simp [M_is_number, ds_is_number, startD, truD, i1, i2]
theorem txt_0 : ("0" : Str) = txt [false] := by decide
theorem bits_0 (A : Ax) (s : Sto) : M_is_bits A [.str "0"] s = some (.ok (.bl false), s) := by
  rw [txt_0]
  have z : lenOk (txt [false]) = true := by unfold lenOk; rw [txt_size]; exact decide_eq_true (le_line (by decide))
  have q1 := strip4 [false] (by decide)
  have q2 := fNe_str (s := s) str1 str1
  have e1 : (("" : Str) == "") = true := by decide
  rw [e1] at q2
  have q3 := fEq_str (s := s) (strOk_txt [false] (by decide)) str1
  rw [ne_eq [false] (by decide)] at q3
  have e2 : [false].isEmpty = false := rfl
  rw [e2] at q3
  have fs : fStrip (.str (txt [false])) [.str "01"] s = some (.str "", s) := by simp [fStrip, fS1, z, q1]
  have q4 : Txt.endswith (txt [false]) ("1" : Str) = false := rfl
  have fe : fEndswith (.str (txt [false])) [.str "1"] s = some (.bl false, s) := by simp [fEndswith, fS1, q4]
  simp [M_is_bits, ds_is_bits, startD, truD, dBM, mTy, tyS, DV.liftM, fs, q2, q3, fe]
theorem bits_2 (A : Ax) (s : Sto) : M_is_bits A [.str "2"] s = some (.ok (.bl false), s) := by
  have z : lenOk ("2" : Str) = true := by unfold lenOk; exact decide_eq_true (le_line (by decide))
  have q1 : Txt.stripChars ("2" : Str) ("01" : Str) = ("2" : Str) := by decide +kernel
  have la : PyData.canLay0 (.str "2") = true := by decide +kernel
  have q2 := fNe_str (s := s) la str1
  have e1 : (("2" : Str) == "") = false := by decide
  rw [e1] at q2
  have fs : fStrip (.str "2") [.str "01"] s = some (.str "2", s) := by simp [fStrip, fS1, z, q1]
  simp [M_is_bits, ds_is_bits, startD, truD, dBM, mTy, tyS, DV.liftM, fs, q2]
theorem isp_odd (A : Ax) {s : Sto} {n : Nat} {t : Tr} (hM : MetreAt A s n t) {d : D} (h : OddD s d) : M_Metre_is_point A [.obj n, d] s = some (.ok (.bl false), s) := by
  have f1 := fFld_obj hM (fl_p t)
  have l2 : (2 : Nat) ≤ sizeLine := le_line (by decide)
  have l3 : (3 : Nat) ≤ sizeLine := le_line (by decide)
  have bE : M_is_bits A [.str ""] s = some (.ok (.bl true), s) := by rw [e_nil]; exact bits_ok A s [] (by decide) (.inl rfl)
  have i1 : fIsi [.non, .ty "tuple"] s = some (.bl false, s) := rfl
  have i2 : fIsi [.int 0, .ty "tuple"] s = some (.bl false, s) := rfl
  cases h with
  | non => simp [M_Metre_is_point, ds_Metre_is_point, startD, truD, i1]
  | nu => simp [M_Metre_is_point, ds_Metre_is_point, startD, truD, i2]
  | li m h => simp [M_Metre_is_point, ds_Metre_is_point, startD, truD, isi_lst h]
  | z0 => simp [M_Metre_is_point, ds_Metre_is_point, startD, truD, l2, isnum_int, bits_0]
  | bo => simp [M_Metre_is_point, ds_Metre_is_point, startD, truD, l2, isnum_bl]
  | tr => simp [M_Metre_is_point, ds_Metre_is_point, startD, truD, l3]
  | tw => simp [M_Metre_is_point, ds_Metre_is_point, startD, truD, l2, isnum_int, bits_2]
  | ng =>
    have h1 : ¬ ((0 : Int) ≤ -1) := by decide
    have h2 : ¬ ((-1 : Int) = t.sz) := by omega
    have q : fEq (.int (-1)) (.int t.sz) s = some (.bl false, s) := by
      show some (D.bl ((-1 : Int) == t.sz), s) = _
      rw [show ((-1 : Int) == t.sz) = false by simpa using h2]
    simp [M_Metre_is_point, ds_Metre_is_point, startD, truD, l2, isnum_int, bE, lift1, f1, dChain, fLe, fLt, q]
/-- the place that a text of a point tells -/
def dec (k : Nat) (x : Str) : Nat :=
  ((x.cps.toList.takeWhile (· != 44)).foldl (fun a c => if 48 ≤ c ∧ c ≤ 57 then a * 10 + (c - 48) else a) 0) * 2 ^ k +
  (((x.cps.toList.dropWhile (· != 44)).filter fun c => c == 48 || c == 49).foldl (fun a c => a * 2 + (c - 48)) 0) * 2 ^ (k - ((x.cps.toList.dropWhile (· != 44)).filter fun c => c == 48 || c == 49).length)
theorem fin_rep : ∀ k : Fin 4, ∀ c : Fin 129, dec k.val (mdP (pm c.val k.val)).shown = c.val ∧ smallB (mdP (pm c.val k.val)) = true := by decide +kernel
theorem fin_odd : ∀ k : Fin 4, ∀ p ∈ odds, smallB p = true ∧ (p.shown == (mdP (pm (dec k.val p.shown) k.val)).shown) = false := by decide +kernel
theorem rep_run {s : Sto} {d : D} {p : PyData} (h : toPy s 64 d = some p) (b : smallB p = true) : fRepr [d] s = some (.str p.shown, s) ∧ PyData.canLay0 (.str p.shown) = true := by
  have q := show_small (small_of b)
  unfold fRepr
  simp only [h, q.ok, if_true]
  exact ⟨trivial, q.lay⟩
/-- what an item of a row is: the point of a place, or another value -/
def Itm (B k : Nat) (s : Sto) (v : Option Nat) (d : D) : Prop := match v with
  | some c => c ≤ B ∧ d = P c k
  | none => OddD s d
theorem bl_same {b c : Bool} {s : Sto} (h : b = c) : (some (D.bl b, s) : Option (D × Sto)) = some (.bl c, s) := by rw [h]
theorem OddD.gr {s s' : Sto} {d : D} (g : Gr s s') (h : OddD s d) : OddD s' d := by
  cases h with
  | li m h => exact .li m (g.lst h)
  | non => exact .non
  | z0 => exact .z0
  | bo => exact .bo
  | tr => exact .tr
  | ng => exact .ng
  | tw => exact .tw
  | nu => exact .nu
theorem Itm.gr {B k : Nat} {s s' : Sto} {v : Option Nat} {d : D} (g : Gr s s') (h : Itm B k s v d) : Itm B k s' v d := by
  cases v with
  | some c => exact h
  | none => exact OddD.gr g h
theorem rep_eq {s : Sto} {B k c : Nat} {v : Option Nat} {d : D} (hk : k ≤ 3) (hB : B ≤ 128) (hc : c ≤ B) (h : Itm B k s v d) : ∃ x y : Str, fRepr [P c k] s = some (.str x, s) ∧ fRepr [d] s = some (.str y, s) ∧ fEq (.str x) (.str y) s = some (.bl (decide (v = some c)), s) := by
  obtain ⟨a1, a2⟩ := fin_rep ⟨k, by omega⟩ ⟨c, by omega⟩
  simp only at a1 a2
  obtain ⟨b1, b2⟩ := rep_run (s := s) (d := P c k) (p := mdP (pm c k)) rfl a2
  cases v with
  | some c' =>
    obtain ⟨hc', rfl⟩ := h
    obtain ⟨a3, a4⟩ := fin_rep ⟨k, by omega⟩ ⟨c', by omega⟩
    simp only at a3 a4
    obtain ⟨b3, b4⟩ := rep_run (s := s) (d := P c' k) (p := mdP (pm c' k)) rfl a4
    refine ⟨_, _, b1, b3, ?_⟩
    refine (fEq_str b2 b4).trans (bl_same ?_)
    by_cases e : c' = c
    · subst e; simp
    · have : ¬ ((mdP (pm c k)).shown = (mdP (pm c' k)).shown) := fun z => e (by rw [← a3, ← a1, z])
      simp [this, e]
  | none =>
    obtain ⟨p, hp, hd⟩ := odd_py h
    obtain ⟨o1, o2⟩ := fin_odd ⟨k, by omega⟩ p hp
    simp only at o1 o2
    obtain ⟨b3, b4⟩ := rep_run hd o1
    refine ⟨_, _, b1, b3, ?_⟩
    refine (fEq_str b2 b4).trans (bl_same ?_)
    have : ¬ ((mdP (pm c k)).shown = p.shown) := fun z => by
      rw [← z, a1] at o2
      simp at o2
    simp [this]
end My

set_option maxHeartbeats 4000000
namespace My
open PySem L2 PyProof.Rows DV
/-! ### is_hearing -/
theorem all2_spec {T : Type} {Q : T → D → Prop} {R : D → List D → Prop} {f : T → D} : ∀ {ts : List T} {r : List D} {yss : List (List D)}, All2 Q ts r → All2 R r yss → (∀ t d ys, Q t d → R d ys → ys = [f t]) → yss.flatten = ts.map f
  | _, _, _, .nil, .nil, _ => rfl
  | _, _, _, .cons q qs, .cons r rs, h => by
    rw [List.flatten_cons, h _ _ _ q r, List.map_cons, all2_spec qs rs h]
    rfl
theorem all2_mem {T : Type} {Q : T → D → Prop} : ∀ {ts : List T} {r : List D}, All2 Q ts r → ∀ d ∈ r, ∃ t, Q t d
  | _, _, .cons q qs, d, hd => by
    rcases List.mem_cons.mp hd with rfl | hd
    · exact ⟨_, q⟩
    · exact all2_mem qs d hd
theorem boolsOf_map : ∀ bs : List Bool, boolsOf (bs.map D.bl) = some bs
  | [] => rfl
  | b :: r => by
    show (boolsOf (r.map D.bl)).map (b :: ·) = _
    rw [boolsOf_map r]
    rfl
theorem fAll_run {s : Sto} {p : Nat} {bs : List Bool} (e : lstAt s p = some (bs.map D.bl)) : fAll [.obj p] s = some (.bl (bs.all id), s) := by
  unfold fAll fBs
  simp only [e, boolsOf_map]
theorem and5 {a b : DX} {Δ : Dn} {s s1 s2 : Sto} {d : D} (h1 : a Δ s = some (.ok (.bl true), s1)) (h2 : b Δ s1 = some (.ok d, s2)) : dAndT a b Δ s = some (.ok d, s2) := by
  rw [dAndT_eq, mbind_ok, h1]
  show mbind (dTru (.bl true)) (fun c => if c = true then b Δ else mret (.bl true)) s1 = _
  rw [mbind_ok]
  show (if true = true then b Δ else mret (.bl true)) s1 = _
  rw [if_pos rfl]
  exact h2
theorem andF5 {a b : DX} {Δ : Dn} {s s1 : Sto} (h1 : a Δ s = some (.ok (.bl false), s1)) : dAndT a b Δ s = some (.ok (.bl false), s1) := by
  rw [dAndT_eq, mbind_ok, h1]
  rfl
def hitB (t : Os × Option Nat) : Bool := match t.2 with
  | some c => decide (t.1.F ≤ c ∧ (c : Int) ≤ t.1.E)
  | none => false
def adjB (cs : List Nat) : Bool := (cs.zip (cs.drop 1)).all fun t => decide (t.1 < t.2)
def hearB (os : List Os) (vs : List (Option Nat)) : Bool := (os.zip vs).all hitB && adjB (vs.filterMap id)
/-- an item and its row -/
def Zr (B k : Nat) (s : Sto) (t : Os × Option Nat) (d : D) : Prop := ∃ x p, d = .tup [x, .obj p] ∧ Itm B k s t.2 x ∧ lstAt s p = some (rowP t.1.F t.1.E k) ∧ 0 ≤ t.1.F
theorem Zr.gr {B k : Nat} {s s' : Sto} {t : Os × Option Nat} {d : D} (g : Gr s s') (h : Zr B k s t d) : Zr B k s' t d := by
  obtain ⟨x, p, h1, h2, h3, h4⟩ := h
  exact ⟨x, p, h1, h2.gr g, g.lst h3, h4⟩
theorem zr_zip {B k : Nat} {s : Sto} : ∀ {os : List Os} {vs : List (Option Nat)} {xs : List D} {ps : List Nat}, All2 (Itm B k s) vs xs → All2 (fun (o : Os) p => lstAt s p = some (rowP o.F o.E k)) os ps → (∀ o ∈ os, 0 ≤ o.F) → All2 (Zr B k s) (os.zip vs) (zipD xs (ps.map D.obj))
  | _, _, _, _, .nil, _, _ => by
    rw [List.zip_nil_right]
    exact .nil
  | _, _, _, _, .cons _ _, .nil, _ => by
    rw [List.zip_nil_left]
    unfold zipD
    rw [List.map_nil, List.zip_nil_right]
    exact .nil
  | o :: os, v :: vs, x :: xs, p :: ps, .cons h1 h2, .cons h3 h4, hF => .cons ⟨x, p, rfl, h1, h3, hF o (by simp)⟩ (zr_zip h2 h4 fun o' h' => hF o' (by simp [h']))
abbrev h3e (A : Ax) : DX := dAndT (dMe A.c_Metre "is_point" (argN 2 (M_Metre_is_point A)) (dVar 0) (dCons (dVar 6) dNil)) (dOp fIn (dVar 6) (dVar 8))
abbrev h3x (A : Ax) : DX := dLc [6, 8] (iZipM (dCons (dVar 4) (dCons (dVar 5) dNil))) (gTp 2 (gsCons (gN 6) (gsCons (gN 8) gsNil))) dYes (h3e A)
abbrev h4x : DX := dLc [6, 7] (iZipM (dCons (dVar 4) (dCons (dSl fSlA (dVar 4) (dPt (dC (.int 1))) dNoPt) dNil))) (gTp 2 (gsCons (gN 6) (gsCons (gN 7) gsNil))) dYes (dOp fLtP (dVar 6) (dVar 7))
abbrev h1s (A : Ax) : DS := dAsg (dCl (argN 4 (M_u_allowed_rows A)) (dCons (dVar 0) (dCons (dVar 1) (dCons (dVar 2) (dCons (dVar 3) dNil))))) (gN 5)
abbrev h2t : DT := dOr (dNot (dTruth (dCB fIsi (dCons (dVar 4) (dCons (dC (.ty "tuple")) dNil))))) (dTest (dOp fNe (dCB fLen (dCons (dVar 4) dNil)) (dCB fLen (dCons (dVar 5) dNil))))
abbrev noS (t : DT) : DS := dIfS t (dRet (dC (.bl false))) dNx
theorem ds_hear_eq (A : Ax) : ds_is_hearing A = dSeq (h1s A) (dSeq (noS h2t) (dSeq (noS (dNot (dTruth (dCB fAll (dCons (h3x A) dNil))))) (dRet (dCB fAll (dCons h4x dNil))))) := rfl
theorem mi_isp {A : Ax} {s : Sto} {n : Nat} {t : Tr} (hM : MetreAt A s n t) : mIns A.c_Metre "is_point" (.obj n) s = some (.ok (), s) := by
  have e : (flds t).lookup ("is_point" : Str) = none := rfl
  have h : insAt s n = some (A.c_Metre, flds t) := hM
  simp [mIns, h, e]
theorem no_t {t : DT} {Δ : Dn} {s s1 : Sto} {b : Bool} (h : t Δ s = some (.ok b, s1)) : dNot t Δ s = some (.ok (!b), s1) := by
  rw [dNot_eq, mbind_ok, h]
  rfl
section
variable {A : Ax} {s : Sto} {n k B : Nat} {t : Tr}
theorem h3_item (hM : MetreAt A s n t) (hk : k ≤ 3) (hB : B ≤ t.sz * 2 ^ k) {z : Os × Option Nat} {x : D} {p : Nat} (h : Itm B k s z.2 x) (e : lstAt s p = some (rowP z.1.F z.1.E k)) (hF : 0 ≤ z.1.F) (x1 x2 x3 x4 x5 x7 : Option D) :
    h3e A [some (.obj n), x1, x2, x3, x4, x5, some x, x7, some (.obj p)] s = some (.ok (.bl (hitB z)), s) := by
  obtain ⟨o, v⟩ := z
  have me : ∀ r, M_Metre_is_point A [.obj n, x] s = some (.ok r, s) → dMe A.c_Metre "is_point" (argN 2 (M_Metre_is_point A)) (dVar 0) (dCons (dVar 6) dNil) [some (.obj n), x1, x2, x3, x4, x5, some x, x7, some (.obj p)] s = some (.ok r, s) := fun r h =>
    (me5 (x := .obj n) (xs := [x]) (s1 := s) (s2 := s) rfl (mi_isp hM) (cn (s1 := s) rfl rfl)).trans ((ag5 rfl).trans h)
  cases v with
  | some c =>
    obtain ⟨hc, rfl⟩ := h
    exact and5 (me _ (isp_P A hM hk (Nat.le_trans hc hB))) (op5 (s1 := s) (s2 := s) rfl rfl (fIn_row hk hF e))
  | none => exact andF5 (me _ (isp_odd A hM h))
theorem h3_run (hM : MetreAt A s n t) (hk : k ≤ 3) (hB : B ≤ t.sz * 2 ^ k) {os : List Os} {vs : List (Option Nat)} {xs : List D} {ps : List Nat} {r : Nat} (er : lstAt s r = some (ps.map D.obj)) (hx : All2 (Itm B k s) vs xs) (hp : All2 (fun (o : Os) p => lstAt s p = some (rowP o.F o.E k)) os ps) (hF : ∀ o ∈ os, 0 ≤ o.F) (hz : xs.length ≤ 900) (x1 x2 x3 : Option D) :
    ∃ s', h3x A [some (.obj n), x1, x2, x3, some (.tup xs), some (.obj r), none, none, none] s = some (.ok (.obj s.length), s') ∧ Gr s s' ∧ lstAt s' s.length = some (((os.zip vs).map hitB).map D.bl) := by
  have hi : iZipM (dCons (dVar 4) (dCons (dVar 5) dNil)) [some (.obj n), x1, x2, x3, some (.tup xs), some (.obj r), none, none, none] s = some (.ok ⟨zipD xs (ps.map D.obj), some (r, ps.map D.obj)⟩, s) := by
    unfold iZipM
    rw [mbind_ok, cn (x := .tup xs) (xs := [.obj r]) (s1 := s) (s2 := s) rfl (cn (s1 := s) rfl rfl)]
    simp only [er]
  have zr := zr_zip hx hp hF
  obtain ⟨s', yss, e1, e2, e3, e4⟩ := lc_pure (I := ⟨zipD xs (ps.map D.obj), some (r, ps.map D.obj)⟩) (g := gTp 2 (gsCons (gN 6) (gsCons (gN 8) gsNil))) (tt := dYes) (de := h3e A) (Δ := [some (.obj n), x1, x2, x3, some (.tup xs), some (.obj r), none, none, none]) (s := s) (fun d ys => ∀ z, Zr B k s z d → ys = [.bl (hitB z)]) (fun s' g => still_of (g.lst er)) (fun d s1 hd g1 => by
    obtain ⟨z, hz⟩ := all2_mem zr d hd
    obtain ⟨x, p, rfl, h1, h2, h3⟩ := hz
    have ev := h3_item (A := A) (s := s1) (ins_gr g1 hM) hk hB (z := z) (h1.gr g1) (g1.lst h2) h3 x1 x2 x3 (some (.tup xs)) (some (.obj r)) none
    refine ⟨_, rfl, .inr ⟨s1, _, s1, rfl, ev, Gr.refl _, fun z' hz' => ?_⟩⟩
    obtain ⟨x', p', e', h1', h2', h3'⟩ := hz'
    cases e'
    have ev' := h3_item (A := A) (s := s1) (ins_gr g1 hM) hk hB (z := z') (h1'.gr g1) (g1.lst h2') h3' x1 x2 x3 (some (.tup xs)) (some (.obj r)) none
    rw [ev] at ev'
    injection ev' with q
    injection q with q _
    injection q with q
    rw [q]) (le_line (by
      show (zipD xs (ps.map D.obj)).length ≤ 1000
      unfold zipD
      rw [List.length_map, List.length_zip]
      omega))
  have e5 : yss.flatten = (os.zip vs).map fun z => D.bl (hitB z) := all2_spec zr e3 fun z d ys h1 h2 => h2 z h1
  exact ⟨s', lc_of hi e1, e4, by rw [e2, e5, List.map_map]; rfl⟩
theorem h4_run (hk : k ≤ 3) (cs : List Nat) (hz : cs.length ≤ 900) (x0 x1 x2 x3 x5 : Option D) :
    ∃ s', h4x [x0, x1, x2, x3, some (.tup (cs.map (P · k))), x5, none, none, none] s = some (.ok (.obj s.length), s') ∧ Gr s s' ∧ lstAt s' s.length = some (((cs.zip (cs.drop 1)).map fun z => decide (z.1 < z.2)).map D.bl) := by
  have sl : dSl fSlA (dVar 4) (dPt (dC (.int 1))) dNoPt [x0, x1, x2, x3, some (.tup (cs.map (P · k))), x5, none, none, none] s = some (.ok (.tup ((cs.drop 1).map (P · k))), s) := by
    have c := cut_lo (cs.map (P · k)) 1
    rw [← List.map_drop] at c
    rw [← c]
    rfl
  have zz : zipD (cs.map (P · k)) ((cs.drop 1).map (P · k)) = (cs.zip (cs.drop 1)).map fun z => D.tup [P z.1 k, P z.2 k] := by
    unfold zipD
    rw [List.zip_map, List.map_map]
    rfl
  have hi : iZipM (dCons (dVar 4) (dCons (dSl fSlA (dVar 4) (dPt (dC (.int 1))) dNoPt) dNil)) [x0, x1, x2, x3, some (.tup (cs.map (P · k))), x5, none, none, none] s = some (.ok ⟨(cs.zip (cs.drop 1)).map fun z => D.tup [P z.1 k, P z.2 k], none⟩, s) := by
    unfold iZipM
    rw [mbind_ok, cn (x := .tup (cs.map (P · k))) (xs := [.tup ((cs.drop 1).map (P · k))]) (s1 := s) (s2 := s) rfl (cn (s1 := s) sl rfl), ← zz]
  obtain ⟨s', yss, e1, e2, e3, e4⟩ := lc_pure (I := ⟨(cs.zip (cs.drop 1)).map fun z => D.tup [P z.1 k, P z.2 k], none⟩) (g := gTp 2 (gsCons (gN 6) (gsCons (gN 7) gsNil))) (tt := dYes) (de := dOp fLtP (dVar 6) (dVar 7)) (Δ := [x0, x1, x2, x3, some (.tup (cs.map (P · k))), x5, none, none, none]) (s := s) (fun d ys => ∀ z : Nat × Nat, d = D.tup [P z.1 k, P z.2 k] → ys = [.bl (decide (z.1 < z.2))]) (fun s' g => rfl) (fun d s1 hd g1 => by
    obtain ⟨z, hz, rfl⟩ := List.mem_map.mp hd
    have ev : ∀ z : Nat × Nat, dOp fLtP (dVar 6) (dVar 7) [x0, x1, x2, x3, some (.tup (cs.map (P · k))), x5, some (P z.1 k), some (P z.2 k), none] s1 = some (.ok (.bl (decide (z.1 < z.2))), s1) := fun z => op5 (s1 := s1) (s2 := s1) rfl rfl (fLt_P hk s1)
    refine ⟨_, rfl, .inr ⟨s1, _, s1, rfl, ev z, Gr.refl _, fun z' hz' => ?_⟩⟩
    obtain ⟨a, b⟩ := z
    obtain ⟨a', b'⟩ := z'
    have q1 : P a k = P a' k := by
      injection hz' with q
      injection q
    have q2 : P b k = P b' k := by
      injection hz' with q
      injection q with _ q
      injection q
    have i1 : a = a' := P_inj hk q1
    have i2 : b = b' := P_inj hk q2
    subst i1 i2
    rfl) (le_line (by
      show ((cs.zip (cs.drop 1)).map _).length ≤ 1000
      rw [List.length_map, List.length_zip]
      omega))
  have e5 : yss = (cs.zip (cs.drop 1)).map fun z => [D.bl (decide (z.1 < z.2))] := All2.map_of (g := fun z : Nat × Nat => D.tup [P z.1 k, P z.2 k]) e3 fun z hz y q => q z rfl
  rw [e5, flat_one] at e2
  exact ⟨s', lc_of hi e1, e4, by rw [e2, List.map_map]; rfl⟩
end
end My

set_option maxHeartbeats 4000000
namespace My
open PySem L2 PyProof.Rows DV
theorem hits_pts {B k : Nat} {s : Sto} : ∀ {os : List Os} {vs : List (Option Nat)} {xs : List D}, All2 (Itm B k s) vs xs → vs.length = os.length → (os.zip vs).all hitB = true → xs = (vs.filterMap id).map (P · k)
  | _, _, _, .nil, _, _ => rfl
  | [], _, _, .cons _ _, hl, _ => by simp at hl
  | o :: os, v :: vs, x :: xs, .cons h1 h2, hl, ha => by
    rw [List.zip_cons_cons, List.all_cons, Bool.and_eq_true] at ha
    have ih := hits_pts h2 (by simpa using hl) ha.2
    cases v with
    | none => exact absurd ha.1 (by simp [hitB])
    | some c =>
      obtain ⟨_, rfl⟩ := h1
      simp [← ih]
theorem all_map (f : α → Bool) : ∀ l : List α, (l.map f).all id = l.all f
  | [] => rfl
  | a :: l => by simp
section
variable {A : Ax} {s s1 : Sto} {n i k B r : Nat} {t : Tr} {rc : D} {ps : List Nat}
theorem hear_1 (hr : M_u_allowed_rows A [.obj n, .obj i, rc, .int k] s = some (.ok (.obj r), s1)) (d : D) : h1s A [some (.obj n), some (.obj i), some rc, some (.int k), some d, none, none, none, none] s = some (.nx [some (.obj n), some (.obj i), some rc, some (.int k), some d, some (.obj r), none, none, none], s1) :=
  asg ((cl5 (xs := [.obj n, .obj i, rc, .int k]) (s1 := s) (cn (s1 := s) rfl (cn (s1 := s) rfl (cn (s1 := s) rfl (cn (s1 := s) rfl rfl))))).trans ((ag5 rfl).trans hr)) rfl
theorem hear_a (hr : M_u_allowed_rows A [.obj n, .obj i, rc, .int k] s = some (.ok (.obj r), s1)) {d : D} (hd : fIsi [d, .ty "tuple"] s1 = some (.bl false, s1)) : M_is_hearing A [.obj n, .obj i, rc, .int k, d] s = some (.ok (.bl false), s1) := by
  have hs : startD 9 [.obj n, .obj i, rc, .int k, d] = [some (.obj n), some (.obj i), some rc, some (.int k), some d, none, none, none, none] := rfl
  refine fn_rt ?_
  have t1 : h2t [some (.obj n), some (.obj i), some rc, some (.int k), some d, some (.obj r), none, none, none] s1 = some (.ok true, s1) :=
    ort5 (no_t (b := false) (tr5 (cb5 (s1 := s1) (cn (s1 := s1) rfl (cn (s1 := s1) rfl rfl)) hd)))
  rw [ds_hear_eq, hs, seq_nx (hear_1 hr d)]
  exact seq_rt (yes5 t1 rfl)
theorem isi_tup (xs : List D) (s : Sto) : fIsi [.tup xs, .ty "tuple"] s = some (.bl true, s) := rfl
theorem fLen_tup (xs : List D) (s : Sto) (h : xs.length ≤ 1000) : fLen [.tup xs] s = some (.int xs.length, s) := by
  simp [fLen, le_line h]
theorem h2_run (er : lstAt s1 r = some (ps.map D.obj)) {xs : List D} (hz : xs.length ≤ 1000) (x0 x1 x2 x3 : Option D) : h2t [x0, x1, x2, x3, some (.tup xs), some (.obj r), none, none, none] s1 = some (.ok (!decide (xs.length = ps.length)), s1) := by
  refine (or5 (no_t (b := true) (tr5 (cb5 (s1 := s1) (cn (s1 := s1) rfl (cn (s1 := s1) rfl rfl)) (isi_tup xs s1))))).trans (te5 ?_)
  have l1 : dCB fLen (dCons (dVar 4) dNil) [x0, x1, x2, x3, some (.tup xs), some (.obj r), none, none, none] s1 = some (.ok (.int xs.length), s1) := cb5 (s1 := s1) (cn (s1 := s1) rfl rfl) (fLen_tup xs s1 hz)
  have l2 : dCB fLen (dCons (dVar 5) dNil) [x0, x1, x2, x3, some (.tup xs), some (.obj r), none, none, none] s1 = some (.ok (.int ps.length), s1) := cb5 (s1 := s1) (cn (s1 := s1) rfl rfl) (by rw [fLen_obj, er]; simp)
  refine op5 l1 l2 ?_
  show some (D.bl (!((xs.length : Int) == ps.length)), s1) = _
  refine bl_same ?_
  by_cases c : xs.length = ps.length
  · simp [c]
  · have : ¬ ((xs.length : Int) = ps.length) := by omega
    simp [c, this]
theorem hear_b (hr : M_u_allowed_rows A [.obj n, .obj i, rc, .int k] s = some (.ok (.obj r), s1)) (er : lstAt s1 r = some (ps.map D.obj)) {xs : List D} (hz : xs.length ≤ 1000) (hl : xs.length ≠ ps.length) : M_is_hearing A [.obj n, .obj i, rc, .int k, .tup xs] s = some (.ok (.bl false), s1) := by
  have hs : startD 9 [.obj n, .obj i, rc, .int k, .tup xs] = [some (.obj n), some (.obj i), some rc, some (.int k), some (.tup xs), none, none, none, none] := rfl
  refine fn_rt ?_
  have t1 := h2_run er hz (some (.obj n)) (some (.obj i)) (some rc) (some (.int k))
  rw [decide_eq_false hl] at t1
  rw [ds_hear_eq, hs, seq_nx (hear_1 hr (.tup xs))]
  exact seq_rt (yes5 t1 rfl)
theorem hear_c (hr : M_u_allowed_rows A [.obj n, .obj i, rc, .int k] s = some (.ok (.obj r), s1)) (er : lstAt s1 r = some (ps.map D.obj)) {xs : List D} {os : List Os} {vs : List (Option Nat)} (hz : xs.length ≤ 900) (hl : xs.length = ps.length) (hM : MetreAt A s1 n t) (hk : k ≤ 3) (hB : B ≤ t.sz * 2 ^ k) (hx : All2 (Itm B k s1) vs xs) (hp : All2 (fun (o : Os) p => lstAt s1 p = some (rowP o.F o.E k)) os ps) (hF : ∀ o ∈ os, 0 ≤ o.F) :
    ∃ s2, M_is_hearing A [.obj n, .obj i, rc, .int k, .tup xs] s = some (.ok (.bl (hearB os vs)), s2) ∧ Gr s1 s2 := by
  have hs : startD 9 [.obj n, .obj i, rc, .int k, .tup xs] = [some (.obj n), some (.obj i), some rc, some (.int k), some (.tup xs), none, none, none, none] := rfl
  have t1 := h2_run er (xs := xs) (by omega) (some (.obj n)) (some (.obj i)) (some rc) (some (.int k))
  rw [decide_eq_true hl] at t1
  obtain ⟨s2, e1, g1, e2⟩ := h3_run hM hk hB er hx hp hF hz (some (.obj i)) (some rc) (some (.int k))
  have t2 : dNot (dTruth (dCB fAll (dCons (h3x A) dNil))) [some (.obj n), some (.obj i), some rc, some (.int k), some (.tup xs), some (.obj r), none, none, none] s1 = some (.ok (!(os.zip vs).all hitB), s2) :=
    no_t (tr5 (cb5 (cn e1 rfl) (by rw [fAll_run e2, all_map])))
  unfold hearB
  by_cases c : (os.zip vs).all hitB = true
  · rw [c] at t2 ⊢
    have ex := hits_pts hx (by have := hx.length; have := hp.length; omega) c
    have lc : (vs.filterMap id).length ≤ 900 := by
      have := congrArg List.length ex
      rw [List.length_map] at this
      omega
    obtain ⟨s3, f1, g2, f2⟩ := h4_run hk (vs.filterMap id) lc (s := s2) (some (.obj n)) (some (.obj i)) (some rc) (some (.int k)) (some (.obj r))
    rw [← ex] at f1
    refine ⟨s3, fn_rt ?_, g1.trans g2⟩
    rw [ds_hear_eq, hs, seq_nx (hear_1 hr (.tup xs)), seq_nx (no5 t1), seq_nx (no5 t2), dRet_eq, sbind_eq, cb5 (cn f1 rfl) (fAll_run f2), all_map]
    rfl
  · have c' : (os.zip vs).all hitB = false := by simpa using c
    rw [c'] at t2 ⊢
    refine ⟨s2, fn_rt ?_, g1⟩
    rw [ds_hear_eq, hs, seq_nx (hear_1 hr (.tup xs)), seq_nx (no5 t1)]
    exact seq_rt (yes5 t2 rfl)
theorem hear_x {x : Xc} (hr : M_u_allowed_rows A [.obj n, .obj i, rc, .int k] s = some (.error x, s1)) (d : D) : M_is_hearing A [.obj n, .obj i, rc, .int k, d] s = some (.error x, s1) := by
  have hs : startD 9 [.obj n, .obj i, rc, .int k, d] = [some (.obj n), some (.obj i), some rc, some (.int k), some d, none, none, none, none] := rfl
  have c1 : dCl (argN 4 (M_u_allowed_rows A)) (dCons (dVar 0) (dCons (dVar 1) (dCons (dVar 2) (dCons (dVar 3) dNil)))) [some (.obj n), some (.obj i), some rc, some (.int k), some d, none, none, none, none] s = some (.error x, s1) := (cl5 (xs := [.obj n, .obj i, rc, .int k]) (s1 := s) (cn (s1 := s) rfl (cn (s1 := s) rfl (cn (s1 := s) rfl (cn (s1 := s) rfl rfl))))).trans ((ag5 rfl).trans hr)
  refine fn_ex (Δ := [some (.obj n), some (.obj i), some rc, some (.int k), some d, none, none, none, none]) ?_
  rw [ds_hear_eq, hs]
  refine seq_ex ?_
  unfold h1s
  rw [dAsg_eq, sbind_eq, c1]
/-! ### what the law is told -/
abbrev td1 : DS := dAsg (dVar 1) (gTp 3 (gsCons (gN 5) (gsCons (gN 6) (gsCons (gN 7) gsNil))))
abbrev td2 : DS := dAsg (dC .non) (gN 3)
abbrev td3 (A : Ax) : DS := dAsg (dCl (argN 5 (M_is_hearing A)) (dCons (dVar 0) (dCons (dVar 5) (dCons (dVar 6) (dCons (dVar 7) (dCons (dVar 2) dNil)))))) (gN 3)
theorem ds_told_eq (A : Ax) : ds_u_law_told A = dSeq td1 (dSeq td2 (dSeq (dTryN [A.c_TooMany] "most" (40) 4 3 (td3 A)) (dRet (dVar 3)))) := rfl
theorem told_ok {d b : D} (h : M_is_hearing A [.obj n, .obj i, rc, .int k, d] s = some (.ok b, s1)) : M_u_law_told A [.obj n, .tup [.obj i, rc, .int k], d] s = some (.ok b, s1) := by
  have hs : startD 8 [.obj n, .tup [.obj i, rc, .int k], d] = [some (.obj n), some (.tup [.obj i, rc, .int k]), some d, none, none, none, none, none] := rfl
  have a1 : td1 [some (.obj n), some (.tup [.obj i, rc, .int k]), some d, none, none, none, none, none] s = some (.nx [some (.obj n), some (.tup [.obj i, rc, .int k]), some d, none, none, some (.obj i), some rc, some (.int k)], s) := rfl
  have a2 : td2 [some (.obj n), some (.tup [.obj i, rc, .int k]), some d, none, none, some (.obj i), some rc, some (.int k)] s = some (.nx [some (.obj n), some (.tup [.obj i, rc, .int k]), some d, some .non, none, some (.obj i), some rc, some (.int k)], s) := rfl
  have a3 : td3 A [some (.obj n), some (.tup [.obj i, rc, .int k]), some d, some .non, none, some (.obj i), some rc, some (.int k)] s = some (.nx [some (.obj n), some (.tup [.obj i, rc, .int k]), some d, some b, none, some (.obj i), some rc, some (.int k)], s1) :=
    asg ((cl5 (xs := [.obj n, .obj i, rc, .int k, d]) (s1 := s) (cn (s1 := s) rfl (cn (s1 := s) rfl (cn (s1 := s) rfl (cn (s1 := s) rfl (cn (s1 := s) rfl rfl)))))).trans ((ag5 rfl).trans h)) rfl
  have a4 : dTryN [A.c_TooMany] "most" (40) 4 3 (td3 A) [some (.obj n), some (.tup [.obj i, rc, .int k]), some d, some .non, none, some (.obj i), some rc, some (.int k)] s = some (.nx [some (.obj n), some (.tup [.obj i, rc, .int k]), some d, some b, none, some (.obj i), some rc, some (.int k)], s1) := by
    unfold dTryN
    rw [a3]
  refine fn_rt ?_
  rw [ds_told_eq, hs, seq_nx a1, seq_nx a2, seq_nx a4]
  rfl
theorem told_x {d : D} (h : M_is_hearing A [.obj n, .obj i, rc, .int k, d] s = some (.error (tmX A), s1)) : M_u_law_told A [.obj n, .tup [.obj i, rc, .int k], d] s = some (.ok .non, s1) := by
  have hs : startD 8 [.obj n, .tup [.obj i, rc, .int k], d] = [some (.obj n), some (.tup [.obj i, rc, .int k]), some d, none, none, none, none, none] := rfl
  have a1 : td1 [some (.obj n), some (.tup [.obj i, rc, .int k]), some d, none, none, none, none, none] s = some (.nx [some (.obj n), some (.tup [.obj i, rc, .int k]), some d, none, none, some (.obj i), some rc, some (.int k)], s) := rfl
  have a2 : td2 [some (.obj n), some (.tup [.obj i, rc, .int k]), some d, none, none, some (.obj i), some rc, some (.int k)] s = some (.nx [some (.obj n), some (.tup [.obj i, rc, .int k]), some d, some .non, none, some (.obj i), some rc, some (.int k)], s) := rfl
  have a3 : td3 A [some (.obj n), some (.tup [.obj i, rc, .int k]), some d, some .non, none, some (.obj i), some rc, some (.int k)] s = some (.ex (tmX A) [some (.obj n), some (.tup [.obj i, rc, .int k]), some d, some .non, none, some (.obj i), some rc, some (.int k)], s1) := by
    have c1 : dCl (argN 5 (M_is_hearing A)) (dCons (dVar 0) (dCons (dVar 5) (dCons (dVar 6) (dCons (dVar 7) (dCons (dVar 2) dNil))))) [some (.obj n), some (.tup [.obj i, rc, .int k]), some d, some .non, none, some (.obj i), some rc, some (.int k)] s = some (.error (tmX A), s1) := (cl5 (xs := [.obj n, .obj i, rc, .int k, d]) (s1 := s) (cn (s1 := s) rfl (cn (s1 := s) rfl (cn (s1 := s) rfl (cn (s1 := s) rfl (cn (s1 := s) rfl rfl)))))).trans ((ag5 rfl).trans h)
    unfold td3
    rw [dAsg_eq, sbind_eq, c1]
  have a4 : dTryN [A.c_TooMany] "most" (40) 4 3 (td3 A) [some (.obj n), some (.tup [.obj i, rc, .int k]), some d, some .non, none, some (.obj i), some rc, some (.int k)] s = some (.nx [some (.obj n), some (.tup [.obj i, rc, .int k]), some d, some .non, none, some (.obj i), some rc, some (.int k)], s1) := by
    unfold dTryN
    rw [a3]
    simp only
    rw [if_pos ⟨by simp [tmX], by simp, by simp, by rfl⟩]
    rfl
  refine fn_rt ?_
  rw [ds_told_eq, hs, seq_nx a1, seq_nx a2, seq_nx a4]
  rfl
end
end My

set_option maxHeartbeats 4000000
namespace My
open PySem L2 PyProof.Rows DV
/-! ### spots found, and sorted without doubles -/
def rowN (o : Os) : List Nat := (List.range (o.E + 1 - o.F).toNat).map (o.F.toNat + ·)
def cell (t : Os × Option Nat) : List Nat := (rowN t.1).filter fun j => decide (t.2 = some j)
theorem filter_one (c : Nat) : ∀ (n a : Nat), ((List.range n).map (a + ·)).filter (fun j => decide (some c = some j)) = if a ≤ c ∧ c < a + n then [c] else []
  | 0, a => by
    rw [if_neg (by omega)]
    rfl
  | n + 1, a => by
    rw [List.range_succ, List.map_append, List.filter_append, filter_one c n a]
    by_cases e : a + n = c
    · rw [if_neg (by omega), if_pos (by omega)]
      simp [e]
    · by_cases h : a ≤ c ∧ c < a + n
      · rw [if_pos h, if_pos (by omega)]
        have : ¬ c = a + n := fun z => e z.symm
        simp [this]
      · rw [if_neg h, if_neg (by omega)]
        have : ¬ c = a + n := fun z => e z.symm
        simp [this]
theorem cell_eq {t : Os × Option Nat} (hF : 0 ≤ t.1.F) : cell t = if hitB t = true then t.2.toList else [] := by
  obtain ⟨o, v⟩ := t
  unfold cell
  cases v with
  | none => simp [hitB]
  | some c =>
    unfold rowN
    rw [filter_one]
    by_cases h : o.F ≤ c ∧ (c : Int) ≤ o.E
    · have h1 : hitB (o, some c) = true := decide_eq_true h
      rw [if_pos h1, if_pos (by simp only at hF ⊢; omega)]
      rfl
    · have h1 : ¬ hitB (o, some c) = true := by simp only [hitB, decide_eq_true_iff]; exact h
      rw [if_neg h1, if_neg (by simp only at hF ⊢; omega)]
theorem spots_all : ∀ {os : List Os} {vs : List (Option Nat)}, (∀ o ∈ os, 0 ≤ o.F) → vs.length = os.length → (os.zip vs).all hitB = true → (os.zip vs).flatMap cell = vs.filterMap id ∧ (vs.filterMap id).length = os.length
  | [], [], _, _, _ => ⟨rfl, rfl⟩
  | [], _ :: _, _, hl, _ => by simp at hl
  | _ :: _, [], _, hl, _ => by simp at hl
  | o :: os, v :: vs, hF, hl, ha => by
    rw [List.zip_cons_cons, List.all_cons, Bool.and_eq_true] at ha
    obtain ⟨i1, i2⟩ := spots_all (fun o' h' => hF o' (by simp [h'])) (by simpa using hl) ha.2
    rw [List.zip_cons_cons, List.flatMap_cons, i1, cell_eq (hF o (by simp)), if_pos ha.1]
    cases v with
    | none => exact absurd ha.1 (by simp [hitB])
    | some c =>
      simp [i2]
theorem spots_le : ∀ {os : List Os} {vs : List (Option Nat)}, (∀ o ∈ os, 0 ≤ o.F) → ((os.zip vs).flatMap cell).length ≤ (os.zip vs).length ∧ ((os.zip vs).all hitB = false → ((os.zip vs).flatMap cell).length < (os.zip vs).length)
  | [], _, _ => by simp
  | _ :: _, [], _ => by simp
  | o :: os, v :: vs, hF => by
    obtain ⟨i1, i2⟩ := spots_le (os := os) (vs := vs) (fun o' h' => hF o' (by simp [h']))
    rw [List.zip_cons_cons, List.flatMap_cons, List.all_cons, List.length_append, List.length_cons, cell_eq (hF o (by simp))]
    cases c : hitB (o, v) with
    | false =>
      rw [if_neg (by simp), List.length_nil]
      exact ⟨by omega, fun _ => by omega⟩
    | true =>
      have l1 : (v.toList).length ≤ 1 := by cases v <;> simp
      simp only [if_true, Bool.true_and]
      refine ⟨by omega, fun h => ?_⟩
      have := i2 h
      omega
theorem adj_pw : ∀ l : List Nat, adjB l = true ↔ l.Pairwise (· < ·)
  | [] => by simp [adjB]
  | [a] => by simp [adjB]
  | a :: b :: r => by
    have ih := adj_pw (b :: r)
    have e : adjB (a :: b :: r) = (decide (a < b) && adjB (b :: r)) := rfl
    rw [e, Bool.and_eq_true, ih, decide_eq_true_iff]
    constructor
    · rintro ⟨h1, h2⟩
      refine List.pairwise_cons.mpr ⟨fun c hc => ?_, h2⟩
      rcases List.mem_cons.mp hc with rfl | hc
      · exact h1
      · exact Nat.lt_trans h1 ((List.pairwise_cons.mp h2).1 c hc)
    · intro h
      obtain ⟨h1, h2⟩ := List.pairwise_cons.mp h
      exact ⟨h1 b (by simp), h2⟩
def one (i : Int) : Key × D := (.inl i, .bl true)
def ins (ks : List Int) (i : Int) : List Int := if i ∈ ks then ks else ks ++ [i]
theorem put_one (ks : List Int) (i : Int) : putKD (ks.map one) (.inl i) (.bl true) = (ins ks i).map one := by
  unfold putKD ins
  by_cases h : i ∈ ks
  · have a : ((ks.map one).any fun kv => decide (kv.1 = (.inl i : Key))) = true := List.any_eq_true.mpr ⟨one i, List.mem_map.mpr ⟨i, h, rfl⟩, by simp [one]⟩
    rw [if_pos a, if_pos h, List.map_map]
    refine List.map_congr_left fun j hj => ?_
    simp [one]
  · have a : ¬ ((ks.map one).any fun kv => decide (kv.1 = (.inl i : Key))) = true := fun z => by
      obtain ⟨kv, h1, h2⟩ := List.any_eq_true.mp z
      obtain ⟨j, hj, rfl⟩ := List.mem_map.mp h1
      have : j = i := by simpa [one] using h2
      exact h (this ▸ hj)
    rw [if_neg a, if_neg h, List.map_append]
    rfl
theorem merge_one : ∀ (l ks : List Int), mergeD (ks.map one) (l.map one) = (l.foldl ins ks).map one
  | [], _ => rfl
  | i :: l, ks => by
    unfold mergeD
    rw [List.map_cons, List.foldl_cons, List.foldl_cons]
    show mergeD (putKD (ks.map one) (.inl i) (.bl true)) (l.map one) = _
    rw [put_one]
    exact merge_one l _
theorem ins_nd : ∀ (l ks : List Int), ks.Nodup → (l.foldl ins ks).Nodup ∧ (l.foldl ins ks).length ≤ ks.length + l.length
  | [], _, h => ⟨h, by simp⟩
  | i :: l, ks, h => by
    rw [List.foldl_cons]
    have h2 : (ins ks i).Nodup ∧ (ins ks i).length ≤ ks.length + 1 := by
      unfold ins
      split
      · exact ⟨h, by omega⟩
      · rename_i c
        refine ⟨List.nodup_append.mpr ⟨h, by simp, fun a ha b hb e => c ?_⟩, by simp⟩
        rw [List.mem_singleton] at hb
        rw [← hb, ← e]
        exact ha
    have ih := ins_nd l (ins ks i) h2.1
    refine ⟨ih.1, ?_⟩
    rw [List.length_cons]
    omega
theorem ins_same : ∀ (l ks : List Int), (ks ++ l).Nodup → l.foldl ins ks = ks ++ l
  | [], ks, _ => by simp
  | i :: l, ks, h => by
    rw [List.foldl_cons]
    have c : ¬ i ∈ ks := fun z => by
      have := (List.nodup_append.mp h).2.2 i z i (by simp)
      exact this rfl
    have e : ins ks i = ks ++ [i] := if_neg c
    rw [e, ins_same l (ks ++ [i]) (by rw [List.append_assoc]; exact h), List.append_assoc]
    rfl
/-- the spots are what is left when sorted without doubles, exactly if they rise -/
theorem rise_iff (l : List Nat) : (l.map fun (c : Nat) => (c : Int)) = sortI ((l.map fun (c : Nat) => (c : Int)).foldl ins []) ↔ adjB l = true := by
  rw [adj_pw]
  have pw : l.Pairwise (· < ·) ↔ (l.map fun (c : Nat) => (c : Int)).Pairwise (· < ·) := by
    rw [List.pairwise_map]
    exact ⟨fun h => h.imp fun z => by omega, fun h => h.imp fun z => by omega⟩
  rw [pw]
  generalize (l.map fun (c : Nat) => (c : Int)) = m
  constructor
  · intro h
    have nd : m.Nodup := by
      rw [h]
      exact (sortI_perm _).nodup_iff.mpr (ins_nd m [] List.nodup_nil).1
    have le : m.Pairwise (· ≤ ·) := by
      rw [h]
      exact sortI_le _
    exact (le.and nd).imp fun z => by
      obtain ⟨z1, z2⟩ := z
      omega
  · intro h
    have nd : m.Nodup := h.imp fun z => by omega
    have e := ins_same m [] (by simpa using nd)
    rw [List.nil_append] at e
    rw [e]
    exact sorted_one (sortI_perm m).symm (h.imp fun z => by omega) (sortI_le m)
end My

set_option maxHeartbeats 4000000
namespace My
open PySem L2 PyProof.Rows DV
/-! ### _law_right -/
abbrev r1t : DT := dOr (dNot (dTruth (dCB fIsi (dCons (dVar 1) (dCons (dC (.ty "tuple")) dNil))))) (dTest (dOp fNe (dCB fLen (dCons (dVar 1) dNil)) (dCB fLen (dCons (dVar 0) dNil))))
abbrev r2s : DS := dAsg (dLst dNil) (gN 3)
abbrev r3c (A : Ax) : DX := dLc [8] (iSeqL (dVar 5)) (gN 8) (dTest (dOp fEq (dCB fRepr (dCons (dCl (argN 2 (M_u_law_point A)) (dCons (dVar 8) (dCons (dVar 2) dNil))) dNil)) (dCB fRepr (dCons (dVar 6) dNil)))) (dVar 8)
def r3b (A : Ax) : DS := dSeq (dAsg (r3c A) (gN 7)) (dDrop (dBM "list" fExtend (dVar 3) (dCons (dVar 7) dNil)))
abbrev r3s (A : Ax) : DS := dFor (iZipM (dCons (dVar 0) (dCons (dVar 1) dNil))) (gTp 2 (gsCons (gN 5) (gsCons (gN 6) gsNil))) (r3b A)
abbrev r4c : DX := dLc [8] (iSeqL (dVar 3)) (gN 8) dYes (dTup (dCons (dVar 8) (dCons (dC (.bl true)) dNil)))
abbrev r4s : DS := dAsg (dCB fSortedK (dCons (dCB fDictP (dCons r4c dNil)) dNil)) (gN 4)
abbrev r5x : DX := dAndT (dOp fEq (dCB fLen (dCons (dVar 3) dNil)) (dCB fLen (dCons (dVar 0) dNil))) (dOp fEq (dVar 3) (dVar 4))
theorem ds_right_eq (A : Ax) : ds_u_law_right A = dSeq (noS r1t) (dSeq r2s (dSeq (r3s A) (dSeq r4s (dRet r5x)))) := rfl
theorem ext5 {i p q : Nat} {da : DA} {Δ : Dn} {s s1 : Sto} {xs zs ys : List D} (h0 : dVar i Δ s = some (.ok (.obj p), s)) (e0 : lstAt s p = some zs) (ha : da Δ s = some (.ok [.obj q], s1)) (e : lstAt s1 p = some xs) (e2 : lstAt s1 q = some ys) (hz : xs.length + ys.length ≤ sizeLine) : dDrop (dBM "list" fExtend (dVar i) da) Δ s = some (.nx Δ, s1.set p (.lst (xs ++ ys))) := by
  have t := tyL e0
  have w : fExtend (.obj p) [.obj q] s1 = some (.non, s1.set p (.lst (xs ++ ys))) := by
    unfold fExtend
    simp only [e, e2, if_pos hz]
  rw [dDrop_eq, sbind_eq]
  unfold dBM
  rw [mbind_ok, h0]
  simp only [mbind_ok, mTy, t, if_true, mret_eq, ha, DV.liftM, w]
section
variable {A : Ax} {s : Sto} {k B : Nat}
/-- the spots of one layer whose point looks like the item -/
theorem r3c_run (hk : k ≤ 3) (hB : B ≤ 128) {o : Os} {v : Option Nat} {x : D} {p : Nat} (hx : Itm B k s v x) (e : lstAt s p = some ((rowN o).map intD)) (hb : ∀ j ∈ rowN o, j ≤ B) (hz : (rowN o).length ≤ 900) (x0 x1 x3 x4 x7 : Option D) :
    ∃ s', r3c A [x0, x1, some (.int (k : Nat)), x3, x4, some (.obj p), some x, x7, none] s = some (.ok (.obj s.length), s') ∧ Gr s s' ∧ lstAt s' s.length = some ((cell (o, v)).map intD) := by
  have hi : iSeqL (dVar 5) [x0, x1, some (.int (k : Nat)), x3, x4, some (.obj p), some x, x7, none] s = some (.ok ⟨(rowN o).map intD, some (p, (rowN o).map intD)⟩, s) := by simp [e]
  obtain ⟨s', yss, e1, e2, e3, e4⟩ := lc_pure (I := ⟨(rowN o).map intD, some (p, (rowN o).map intD)⟩) (g := gN 8) (tt := dTest (dOp fEq (dCB fRepr (dCons (dCl (argN 2 (M_u_law_point A)) (dCons (dVar 8) (dCons (dVar 2) dNil))) dNil)) (dCB fRepr (dCons (dVar 6) dNil)))) (de := dVar 8) (Δ := [x0, x1, some (.int (k : Nat)), x3, x4, some (.obj p), some x, x7, none]) (s := s) (fun d ys => ∀ j : Nat, d = intD j → ys = if decide (v = some j) = true then [intD j] else []) (fun s' g => still_of (g.lst e)) (fun d s1 hd g1 => by
    obtain ⟨j, hj, rfl⟩ := List.mem_map.mp hd
    obtain ⟨a, b, f1, f2, f3⟩ := rep_eq (s := s1) hk hB (hb j hj) (hx.gr g1)
    have tt : dTest (dOp fEq (dCB fRepr (dCons (dCl (argN 2 (M_u_law_point A)) (dCons (dVar 8) (dCons (dVar 2) dNil))) dNil)) (dCB fRepr (dCons (dVar 6) dNil))) [x0, x1, some (.int (k : Nat)), x3, x4, some (.obj p), some x, x7, some (intD j)] s1 = some (.ok (decide (v = some j)), s1) :=
      te5 (op5 (cb5 (cn ((cl5 (xs := [.int (j : Nat), .int (k : Nat)]) (s1 := s1) (cn (s1 := s1) rfl (cn (s1 := s1) rfl rfl))).trans ((ag5 rfl).trans (lpoint A s1 j k (by omega)))) rfl) f1) (cb5 (s1 := s1) (cn (s1 := s1) rfl rfl) f2) f3)
    have uq : ∀ i : Nat, intD j = intD i → j = i := fun i h => by
      simp only [intD, D.int.injEq] at h
      omega
    refine ⟨_, rfl, ?_⟩
    by_cases c : v = some j
    · rw [decide_eq_true c] at tt
      exact .inr ⟨s1, intD j, s1, tt, rfl, Gr.refl _, fun i h => by rw [← uq i h, if_pos (decide_eq_true c)]⟩
    · rw [decide_eq_false c] at tt
      exact .inl ⟨s1, tt, Gr.refl _, fun i h => by rw [← uq i h, if_neg (by simpa using c)]⟩) (le_line (by show ((rowN o).map intD).length ≤ 1000; rw [List.length_map]; omega))
  have e5 : yss = (rowN o).map fun j => if decide (v = some j) = true then [intD j] else [] := All2.map_of (g := intD) e3 fun j hj y q => q j rfl
  refine ⟨s', lc_of hi e1, e4, ?_⟩
  rw [e2, e5]
  congr 1
  unfold cell
  generalize rowN o = l
  clear e5 e3 e2 e1 e hb hz hi
  induction l with
  | nil => rfl
  | cons a l ih =>
    rw [List.map_cons, List.flatten_cons, ih, List.filter_cons]
    split <;> rfl
/-- a layer and an item -/
def Zl (B k : Nat) (s : Sto) (t : Os × Option Nat) (d : D) : Prop := ∃ x p, d = .tup [.obj p, x] ∧ Itm B k s t.2 x ∧ lstAt s p = some ((rowN t.1).map intD) ∧ 0 ≤ t.1.F ∧ ∀ j ∈ rowN t.1, j ≤ B
theorem zl_zip : ∀ {os : List Os} {vs : List (Option Nat)} {xs : List D} {ps : List Nat}, All2 (Itm B k s) vs xs → All2 (fun (o : Os) p => lstAt s p = some ((rowN o).map intD)) os ps → (∀ o ∈ os, 0 ≤ o.F ∧ ∀ j ∈ rowN o, j ≤ B) → All2 (Zl B k s) (os.zip vs) (zipD (ps.map D.obj) xs)
  | _, _, _, _, .nil, _, _ => by
    rw [List.zip_nil_right]
    unfold zipD
    rw [List.zip_nil_right]
    exact .nil
  | _, _, _, _, .cons _ _, .nil, _ => by
    rw [List.zip_nil_left]
    exact .nil
  | o :: os, v :: vs, x :: xs, p :: ps, .cons h1 h2, .cons h3 h4, hF => .cons ⟨x, p, rfl, h1, h3, (hF o (by simp)).1, (hF o (by simp)).2⟩ (zl_zip h2 h4 fun o' h' => hF o' (by simp [h']))
end
end My

set_option maxHeartbeats 4000000
namespace My
open PySem L2 PyProof.Rows DV
theorem eqvAll_ints : ∀ l m : List Int, PyData.eqvAll (l.map PyData.int) (m.map PyData.int) = decide (l = m)
  | [], [] => rfl
  | [], _ :: _ => rfl
  | _ :: _, [] => rfl
  | a :: l, b :: m => by
    have e : PyData.eqvAll ((a :: l).map PyData.int) ((b :: m).map PyData.int) = ((a == b) && PyData.eqvAll (l.map PyData.int) (m.map PyData.int)) := rfl
    rw [e, eqvAll_ints l m]
    by_cases c : a = b <;> by_cases d : l = m <;> simp [c, d]
theorem lay_ints : ∀ l : List Int, PyData.canLayAll0 (l.map PyData.int) = true
  | [] => rfl
  | i :: l => by
    have h := lay_ints l
    have h0 : PyData.canLay0 (.int i) = true := rfl
    simp [PyData.canLayAll0, h0, h]
theorem dep_ints : ∀ l : List Int, PyData.depthAll (l.map PyData.int) ≤ 1
  | [] => by simp [PyData.depthAll]
  | i :: l => by
    have h := dep_ints l
    simp only [List.map_cons, PyData.depthAll]
    have h0 : (PyData.int i).depth ≤ 1 := by simp [PyData.depth]
    omega
theorem py_ints (s : Sto) : ∀ l : List Int, omap (toPy s 63) (l.map D.int) = some (l.map PyData.int)
  | [] => rfl
  | i :: l => by
    have q : toPy s 63 (.int i) = some (.int i) := rfl
    simp [omap, q, py_ints s l]
theorem toPy_ints {s : Sto} {p : Nat} {l : List Int} (e : lstAt s p = some (l.map D.int)) : toPy s 64 (.obj p) = some (.list (l.map PyData.int)) := by
  show (match lstAt s p with | some xs => (omap (toPy s 63) xs).map PyData.list | none => none) = _
  rw [e]
  simp only [py_ints s l]
  rfl
theorem shp_ints (l : List Int) : SeqAt.shaped (.list (l.map PyData.int)) = true := by
  have d := dep_ints l
  unfold SeqAt.shaped
  rw [decide_eq_true (show (PyData.list _).depth ≤ 64 by rw [PyData.depth]; omega)]
  simp [PyData.canLay0, lay_ints l]
theorem py2_ints {s : Sto} {p q : Nat} {l m : List Int} (e1 : lstAt s p = some (l.map D.int)) (e2 : lstAt s q = some (m.map D.int)) : py2 s (.obj p) (.obj q) = some (.list (l.map PyData.int), .list (m.map PyData.int)) := by
  unfold py2
  rw [toPy_ints e1, toPy_ints e2]
  simp only [shp_ints, Bool.and_self, if_true]
theorem fEq_ints {s : Sto} {p q : Nat} {l m : List Int} (e1 : lstAt s p = some (l.map D.int)) (e2 : lstAt s q = some (m.map D.int)) : fEq (.obj p) (.obj q) s = some (.bl (decide (l = m)), s) := by
  unfold fEq
  rw [py2_ints e1 e2]
  refine bl_same ?_
  rw [PyData.eqv]
  exact eqvAll_ints l m
theorem fNe_ints {s : Sto} {p q : Nat} {l m : List Int} (e1 : lstAt s p = some (l.map D.int)) (e2 : lstAt s q = some (m.map D.int)) : fNe (.obj p) (.obj q) s = some (.bl (!decide (l = m)), s) := by
  unfold fNe
  rw [py2_ints e1 e2]
  refine bl_same ?_
  rw [PyData.eqv, eqvAll_ints l m]
theorem pairs_one : ∀ l : List Nat, pairsD (l.map fun c => D.tup [intD c, .bl true]) = some ((l.map fun (c : Nat) => (c : Int)).map one)
  | [] => rfl
  | c :: l => by
    have h : keyD (intD c) = some (.inl (c : Int)) := rfl
    rw [List.map_cons, pairsD]
    simp only [h, pairs_one l]
    rfl
theorem keys_one : ∀ ks : List Int, omap keyI (ks.map one) = some ks
  | [] => rfl
  | i :: r => by
    have h : keyI (one i) = some i := rfl
    simp [omap, h, keys_one r]
section
variable {A : Ax} {s : Sto} {k B : Nat}
theorem r3_run (hk : k ≤ 3) (hB : B ≤ 128) {os : List Os} {vs : List (Option Nat)} {xs : List D} {qs : List Nat} {m : Nat} (er : lstAt s m = some (qs.map D.obj)) (hx : All2 (Itm B k s) vs xs) (hp : All2 (fun (o : Os) p => lstAt s p = some ((rowN o).map intD)) os qs) (hF : ∀ o ∈ os, 0 ≤ o.F ∧ ∀ j ∈ rowN o, j ≤ B) (hn : ∀ o ∈ os, (rowN o).length ≤ 900) (hz : ((os.zip vs).flatMap cell).length ≤ 900) :
    ∃ y5 y6 y7 s', r3s A [some (.obj m), some (.tup xs), some (.int (k : Nat)), some (.obj s.length), none, none, none, none, none] (s ++ [.lst []]) = some (.nx [some (.obj m), some (.tup xs), some (.int (k : Nat)), some (.obj s.length), none, y5, y6, y7, none], s') ∧ Gr s s' ∧ lstAt s' s.length = some (((os.zip vs).flatMap cell).map intD) ∧ s.length < s'.length := by
  have hi : iZipM (dCons (dVar 0) (dCons (dVar 1) dNil)) [some (.obj m), some (.tup xs), some (.int (k : Nat)), some (.obj s.length), none, none, none, none, none] (s ++ [.lst []]) = some (.ok ⟨zipD (qs.map D.obj) xs, some (m, qs.map D.obj)⟩, s ++ [.lst []]) := by
    unfold iZipM
    rw [mbind_ok, cn (x := .obj m) (xs := [.tup xs]) (s1 := s ++ [.lst []]) (s2 := s ++ [.lst []]) rfl (cn (s1 := s ++ [.lst []]) rfl rfl)]
    simp only [lstAt_app er]
  have zl := zl_zip hx hp hF
  have zn : ∀ t ∈ os.zip vs, (rowN t.1).length ≤ 900 := fun t ht => hn t.1 (List.of_mem_zip (show (t.1, t.2) ∈ os.zip vs from ht)).1
  obtain ⟨Δ', s', a1, y5, y6, y7, ts, acc, rfl, ha, hm, g, e, et, hl⟩ := for_gen (I := ⟨zipD (qs.map D.obj) xs, some (m, qs.map D.obj)⟩) (g := gTp 2 (gsCons (gN 5) (gsCons (gN 6) gsNil))) (b := r3b A)
    (fun r Δ s' => ∃ (y5 y6 y7 : Option D) (ts : List (Os × Option Nat)) (acc : List Nat), Δ = [some (.obj m), some (.tup xs), some (.int (k : Nat)), some (.obj s.length), none, y5, y6, y7, none] ∧ All2 (Zl B k s) ts r ∧ (∀ t ∈ ts, (rowN t.1).length ≤ 900) ∧ Gr s s' ∧ lstAt s' s.length = some (acc.map intD) ∧ acc ++ ts.flatMap cell = (os.zip vs).flatMap cell ∧ s.length < s'.length) (fun r Δ s' ⟨_, _, _, _, _, _, _, _, g, _⟩ => still_of (g.lst er)) (fun d r Δ s' ⟨y5, y6, y7, ts, acc, eΔ, ha, hm, g, e, et, hl⟩ => by
      subst eΔ
      cases ha with
      | @cons t _ ts _ q qs' =>
        obtain ⟨x, p, rfl, h1, h2, h3, h4⟩ := q
        have lt : (acc ++ cell t).length ≤ 900 := by
          have := congrArg List.length et
          rw [List.flatMap_cons, List.length_append, List.length_append] at this
          rw [List.length_append]
          omega
        obtain ⟨s1, c1, c2, c3⟩ := r3c_run (A := A) (s := s') (o := t.1) (v := t.2) hk hB (h1.gr g) (g.lst h2) h4 (hm t (by simp)) (some (.obj m)) (some (.tup xs)) (some (.obj s.length)) none y7
        have e1 := c2.lst e
        have b1 : r3b A [some (.obj m), some (.tup xs), some (.int (k : Nat)), some (.obj s.length), none, some (.obj p), some x, y7, none] s' = some (.nx [some (.obj m), some (.tup xs), some (.int (k : Nat)), some (.obj s.length), none, some (.obj p), some x, some (.obj s'.length), none], s1.set s.length (.lst (acc.map intD ++ (cell t).map intD))) := by
          have u1 : dAsg (r3c A) (gN 7) [some (.obj m), some (.tup xs), some (.int (k : Nat)), some (.obj s.length), none, some (.obj p), some x, y7, none] s' = some (.nx [some (.obj m), some (.tup xs), some (.int (k : Nat)), some (.obj s.length), none, some (.obj p), some x, some (.obj s'.length), none], s1) := asg c1 rfl
          unfold r3b
          rw [seq_nx u1]
          refine ext5 (q := s'.length) (s1 := s1) rfl e1 (cn (s1 := s1) rfl rfl) e1 c3 (le_line ?_)
          rw [List.length_map, List.length_map, ← List.length_append]
          omega
        refine ⟨_, s', rfl, _, _, b1, some (.obj p), some x, some (.obj s'.length), ts, acc ++ cell t, rfl, qs', fun t' h' => hm t' (by simp [h']), (g.trans c2).set (Nat.le_refl _), ?_, ?_, ?_⟩
        · rw [lstAt_set e1, List.map_append]
        · rw [List.append_assoc]
          exact et
        · rw [List.length_set]
          have := c2.len
          omega) (zipD (qs.map D.obj) xs) [some (.obj m), some (.tup xs), some (.int (k : Nat)), some (.obj s.length), none, none, none, none, none] (s ++ [.lst []]) ⟨none, none, none, os.zip vs, [], rfl, zl, zn, Gr.app, lstAt_new, rfl, by simp⟩
  cases ha
  refine ⟨y5, y6, y7, s', for_of hi a1, g, ?_, hl⟩
  have : acc = (os.zip vs).flatMap cell := by simpa using et
  rw [e, this]
/-- the spots in order, each once -/
theorem r4_run {l : List Nat} {n : Nat} (e : lstAt s n = some (l.map intD)) (hz : l.length < 64) (x0 x1 x2 x4 x5 x6 x7 : Option D) :
    ∃ q s', r4s [x0, x1, x2, some (.obj n), x4, x5, x6, x7, none] s = some (.nx [x0, x1, x2, some (.obj n), some (.obj q), x5, x6, x7, none], s') ∧ Gr s s' ∧ lstAt s' q = some ((sortI ((l.map fun (c : Nat) => (c : Int)).foldl ins [])).map D.int) := by
  have l2 : 2 ≤ 1000 := by decide
  have hi : iSeqL (dVar 3) [x0, x1, x2, some (.obj n), x4, x5, x6, x7, none] s = some (.ok ⟨l.map intD, some (n, l.map intD)⟩, s) := by simp [e]
  obtain ⟨s1, yss, e1, e2, e3, e4⟩ := lc_pure (I := ⟨l.map intD, some (n, l.map intD)⟩) (g := gN 8) (tt := dYes) (de := dTup (dCons (dVar 8) (dCons (dC (.bl true)) dNil))) (Δ := [x0, x1, x2, some (.obj n), x4, x5, x6, x7, none]) (s := s) (fun d ys => ys = [D.tup [d, .bl true]]) (fun s' g => still_of (g.lst e)) (fun d s1 hd g1 => ⟨_, rfl, .inr ⟨s1, D.tup [d, .bl true], s1, rfl, tp (cn (s1 := s1) rfl (cn (s1 := s1) rfl rfl)) l2, Gr.refl _, rfl⟩⟩) (le_line (by show (l.map intD).length ≤ 1000; rw [List.length_map]; omega))
  have e5 : yss = l.map fun j => [D.tup [intD j, .bl true]] := All2.map_of (g := intD) e3 fun j hj y q => q
  rw [e5, flat_one] at e2
  have d1 : fDictP [.obj s.length] s1 = some (.obj s1.length, s1 ++ [.dK (((l.map fun (c : Nat) => (c : Int)).foldl ins []).map one)]) := by
    unfold fDictP
    simp only [e2, pairs_one]
    have := merge_one (l.map fun (c : Nat) => (c : Int)) []
    rw [List.map_nil] at this
    rw [this]
  have da : dctAt (s1 ++ [.dK (((l.map fun (c : Nat) => (c : Int)).foldl ins []).map one)]) s1.length = some (((l.map fun (c : Nat) => (c : Int)).foldl ins []).map one) := by
    unfold dctAt
    rw [List.getElem?_append_right (Nat.le_refl _), Nat.sub_self]
    rfl
  have kl : ((l.map fun (c : Nat) => (c : Int)).foldl ins []).length < 64 := by
    have := (ins_nd (l.map fun (c : Nat) => (c : Int)) [] List.nodup_nil).2
    rw [List.length_map, List.length_nil] at this
    omega
  have d2 : fSortedK [.obj s1.length] (s1 ++ [.dK (((l.map fun (c : Nat) => (c : Int)).foldl ins []).map one)]) = some (.obj (s1 ++ [DO.dK (((l.map fun (c : Nat) => (c : Int)).foldl ins []).map one)]).length, (s1 ++ [.dK (((l.map fun (c : Nat) => (c : Int)).foldl ins []).map one)]) ++ [.lst ((sortI ((l.map fun (c : Nat) => (c : Int)).foldl ins [])).map D.int)]) := by
    unfold fSortedK
    simp only [da, keys_one, if_pos kl]
  exact ⟨_, _, asg (cb5 (cn (cb5 (cn (lc_of hi e1) rfl) d1) rfl) d2) rfl, (e4.trans Gr.app).trans Gr.app, lstAt_new⟩
theorem right_a {m : Nat} {d : D} (hd : fIsi [d, .ty "tuple"] s = some (.bl false, s)) : M_u_law_right A [.obj m, d, .int (k : Nat)] s = some (.ok (.bl false), s) := by
  have hs : startD 9 [.obj m, d, .int (k : Nat)] = [some (.obj m), some d, some (.int (k : Nat)), none, none, none, none, none, none] := rfl
  have t1 : r1t [some (.obj m), some d, some (.int (k : Nat)), none, none, none, none, none, none] s = some (.ok true, s) :=
    ort5 (no_t (b := false) (tr5 (cb5 (s1 := s) (cn (s1 := s) rfl (cn (s1 := s) rfl rfl)) hd)))
  refine fn_rt ?_
  rw [ds_right_eq, hs]
  exact seq_rt (yes5 t1 rfl)
theorem len_eq {a b : Nat} : ((a : Int) == b) = decide (a = b) := by
  by_cases c : a = b
  · simp [c]
  · have : ¬ ((a : Int) = b) := by omega
    simp [c, this]
theorem r1_run {m : Nat} {L : List D} (er : lstAt s m = some L) {xs : List D} (hz : xs.length ≤ 1000) (x2 x3 x4 x5 x6 x7 x8 : Option D) : r1t [some (.obj m), some (.tup xs), x2, x3, x4, x5, x6, x7, x8] s = some (.ok (!decide (xs.length = L.length)), s) := by
  refine (or5 (no_t (b := true) (tr5 (cb5 (s1 := s) (cn (s1 := s) rfl (cn (s1 := s) rfl rfl)) (isi_tup xs s))))).trans (te5 ?_)
  have l1 : dCB fLen (dCons (dVar 1) dNil) [some (.obj m), some (.tup xs), x2, x3, x4, x5, x6, x7, x8] s = some (.ok (.int xs.length), s) := cb5 (s1 := s) (cn (s1 := s) rfl rfl) (fLen_tup xs s hz)
  have l2 : dCB fLen (dCons (dVar 0) dNil) [some (.obj m), some (.tup xs), x2, x3, x4, x5, x6, x7, x8] s = some (.ok (.int L.length), s) := cb5 (s1 := s) (cn (s1 := s) rfl rfl) (by rw [fLen_obj, er])
  refine op5 l1 l2 ?_
  show some (D.bl (!((xs.length : Int) == L.length)), s) = _
  exact bl_same (by rw [len_eq])
theorem right_b {m : Nat} {L : List D} (er : lstAt s m = some L) {xs : List D} (hz : xs.length ≤ 1000) (hl : xs.length ≠ L.length) : M_u_law_right A [.obj m, .tup xs, .int (k : Nat)] s = some (.ok (.bl false), s) := by
  have hs : startD 9 [.obj m, .tup xs, .int (k : Nat)] = [some (.obj m), some (.tup xs), some (.int (k : Nat)), none, none, none, none, none, none] := rfl
  have t1 := r1_run er hz (some (.int (k : Nat))) none none none none none none
  rw [decide_eq_false hl] at t1
  refine fn_rt ?_
  rw [ds_right_eq, hs]
  exact seq_rt (yes5 t1 rfl)
theorem right_c (hk : k ≤ 3) (hB : B ≤ 128) {os : List Os} {vs : List (Option Nat)} {xs : List D} {qs : List Nat} {m : Nat} (er : lstAt s m = some (qs.map D.obj)) (hx : All2 (Itm B k s) vs xs) (hp : All2 (fun (o : Os) p => lstAt s p = some ((rowN o).map intD)) os qs) (hF : ∀ o ∈ os, 0 ≤ o.F ∧ ∀ j ∈ rowN o, j ≤ B) (hn : ∀ o ∈ os, (rowN o).length ≤ 900) (hz : xs.length ≤ 60) (hl : xs.length = qs.length) :
    ∃ s', M_u_law_right A [.obj m, .tup xs, .int (k : Nat)] s = some (.ok (.bl (hearB os vs)), s') ∧ Gr s s' := by
  have hs : startD 9 [.obj m, .tup xs, .int (k : Nat)] = [some (.obj m), some (.tup xs), some (.int (k : Nat)), none, none, none, none, none, none] := rfl
  have t1 := r1_run er (show xs.length ≤ 1000 by omega) (some (.int (k : Nat))) none none none none none none
  rw [List.length_map, decide_eq_true hl] at t1
  have lv : vs.length = os.length := by
    have := hx.length
    have := hp.length
    omega
  have sl := spots_le (os := os) (vs := vs) fun o ho => (hF o ho).1
  rw [List.length_zip] at sl
  have lo : os.length ≤ 60 := by
    have := hp.length
    omega
  have a2 : r2s [some (.obj m), some (.tup xs), some (.int (k : Nat)), none, none, none, none, none, none] s = some (.nx [some (.obj m), some (.tup xs), some (.int (k : Nat)), some (.obj s.length), none, none, none, none, none], s ++ [.lst []]) := asg (ls (s1 := s) rfl (by simp)) rfl
  obtain ⟨y5, y6, y7, s3, a3, g3, e3, l3⟩ := r3_run (A := A) hk hB er hx hp hF hn (by omega)
  obtain ⟨q, s4, a4, g4, e4⟩ := r4_run e3 (by omega) (some (.obj m)) (some (.tup xs)) (some (.int (k : Nat))) none y5 y6 y7
  have e3' := g4.lst e3
  have l1 : dOp fEq (dCB fLen (dCons (dVar 3) dNil)) (dCB fLen (dCons (dVar 0) dNil)) [some (.obj m), some (.tup xs), some (.int (k : Nat)), some (.obj s.length), some (.obj q), y5, y6, y7, none] s4 = some (.ok (.bl (decide (((os.zip vs).flatMap cell).length = os.length))), s4) := by
    refine op5 (x := .int ((os.zip vs).flatMap cell).length) (y := .int os.length) (s1 := s4) (s2 := s4) (cb5 (s1 := s4) (cn (s1 := s4) rfl rfl) ?_) (cb5 (s1 := s4) (cn (s1 := s4) rfl rfl) ?_) ?_
    · rw [fLen_obj, e3']
      simp
    · rw [fLen_obj, (g3.trans g4).lst er]
      have := hp.length
      simp [this]
    · rw [fEq_int]
      exact bl_same len_eq
  have ei : ((os.zip vs).flatMap cell).map intD = (((os.zip vs).flatMap cell).map fun (c : Nat) => (c : Int)).map D.int := by
    rw [List.map_map]
    rfl
  rw [ei] at e3'
  have l2 : dOp fEq (dVar 3) (dVar 4) [some (.obj m), some (.tup xs), some (.int (k : Nat)), some (.obj s.length), some (.obj q), y5, y6, y7, none] s4 = some (.ok (.bl (decide ((((os.zip vs).flatMap cell).map fun (c : Nat) => (c : Int)) = sortI ((((os.zip vs).flatMap cell).map fun (c : Nat) => (c : Int)).foldl ins [])))), s4) :=
    op5 (s1 := s4) (s2 := s4) rfl rfl (fEq_ints e3' e4)
  have r5 : r5x [some (.obj m), some (.tup xs), some (.int (k : Nat)), some (.obj s.length), some (.obj q), y5, y6, y7, none] s4 = some (.ok (.bl (hearB os vs)), s4) := by
    by_cases c : (os.zip vs).all hitB = true
    · obtain ⟨j1, j2⟩ := spots_all (fun o ho => (hF o ho).1) lv c
      rw [decide_eq_true (by rw [j1]; exact j2)] at l1
      have eb : decide ((((os.zip vs).flatMap cell).map fun (c : Nat) => (c : Int)) = sortI ((((os.zip vs).flatMap cell).map fun (c : Nat) => (c : Int)).foldl ins [])) = hearB os vs := by
        unfold hearB
        rw [c, Bool.true_and, ← j1, Bool.eq_iff_iff, decide_eq_true_iff]
        exact rise_iff _
      rw [eb] at l2
      exact and5 l1 l2
    · have c' : (os.zip vs).all hitB = false := by simpa using c
      have := sl.2 c'
      rw [decide_eq_false (by omega)] at l1
      have eb : hearB os vs = false := by
        unfold hearB
        rw [c']
        rfl
      rw [eb]
      exact andF5 l1
  refine ⟨s4, fn_rt ?_, g3.trans g4⟩
  rw [ds_right_eq, hs, seq_nx (no5 t1), seq_nx a2, seq_nx a3, seq_nx a4, dRet_eq, sbind_eq, r5]
end
end My

set_option maxHeartbeats 4000000
namespace My
open PySem L2 PyProof.Rows DV
/-! ### _law_row: one point for each layer -/
abbrev drw (A : Ax) (i : Nat) (n : DX) : DX := dCl (argN 2 (M_u_law_draw A)) (dCons (dVar i) (dCons n dNil))
abbrev w2a (A : Ax) : DS := dAsg (drw A 0 (dVar 2)) (gN 6)
abbrev w2t (A : Ax) : DT := dAnd (dTest (dOp fNe (dVar 5) (dLst dNil))) (dTest (dOp fGt (drw A 0 (dC (.int 6))) (dC (.int 0))))
abbrev w2p (A : Ax) : DS := dAsg (dCl (argN 2 (M_u_law_pick A)) (dCons (dVar 0) (dCons (dVar 5) dNil))) (gN 6)
abbrev w2b (A : Ax) : DS := dIfS (w2t A) (w2p A) dNx
abbrev six0 : DA := dCons (dC (.int 0)) (dCons (dC (.int 0)) (dCons (dC (.int 0)) (dCons (dC (.int 0)) (dCons (dC (.int 0)) (dCons (dC (.int 1)) dNil)))))
abbrev w2x (A : Ax) : DX := dCl (argN 2 (M_u_law_point A)) (dCons (dOp fAdd (dVar 6) (dCl (argN 2 (M_u_law_pick A)) (dCons (dVar 0) (dCons (dLst six0) dNil)))) (dCons (dVar 3) dNil))
abbrev w2c (A : Ax) : DS := dDrop (dBM "list" fAppend (dVar 4) (dCons (w2x A) dNil))
abbrev w2 (A : Ax) : DS := dSeq (w2a A) (dSeq (w2b A) (w2c A))
section
variable {A : Ax} {s : Sto} {st S K k B : Nat}
theorem pick_gen {da : DA} {Δ : Dn} {xs : List D} {i : Nat} {s1 : Sto} (hi : Δ[i]? = some (some (.obj st))) (hx : da Δ s = some (.ok xs, s1)) (h : Rnd s1 st (K + 1)) (h0 : 0 < xs.length) (h1 : xs.length < 1000) : ∃ d s', dCl (argN 2 (M_u_law_pick A)) (dCons (dVar i) (dCons (dLst da) dNil)) Δ s = some (.ok d, s') ∧ d ∈ xs ∧ Rnd s' st K ∧ Sm st s1 s' := by
  have lt := h.lt
  obtain ⟨d, s', p1, p2, p3, p4⟩ := pick A (s := s1 ++ [.lst xs]) (j := s1.length) (xs := xs) h.app lstAt_new (by omega) h0 (by omega)
  have v : dVar i Δ s = some (.ok (.obj st), s) := by rw [dVar_eq, hi]
  exact ⟨d, s', (cl5 (xs := [.obj st, .obj s1.length]) (cn v (cn (ls hx (by omega)) rfl))).trans ((ag5 rfl).trans p1), p2, p3, Sm.app.trans p4⟩
theorem drw_run {Δ : Dn} {i m : Nat} {n : DX} (hi : Δ[i]? = some (some (.obj st))) (hn : n Δ s = some (.ok (.int (m : Nat)), s)) (h : Rnd s st (K + 1)) (h0 : 0 < m) (h1 : m < 100000) : ∃ (v : Nat) (s' : Sto), drw A i n Δ s = some (.ok (.int (v : Nat)), s') ∧ v < m ∧ Rnd s' st K ∧ Sm st s s' := by
  obtain ⟨v, s', hd, v0, v1, r, sm⟩ := draw A (m := (m : Nat)) h (by omega) (by omega)
  obtain ⟨c, rfl⟩ : ∃ c : Nat, v = c := ⟨v.toNat, by omega⟩
  have w : dVar i Δ s = some (.ok (.obj st), s) := by rw [dVar_eq, hi]
  exact ⟨c, s', (cl5 (xs := [.obj st, .int (m : Nat)]) (cn w (cn hn rfl))).trans ((ag5 rfl).trans hd), by omega, r, sm⟩
theorem nat_int {s : Sto} {l : List Nat} {p : Nat} (e : lstAt s p = some (l.map intD)) : lstAt s p = some ((l.map fun (c : Nat) => (c : Int)).map D.int) := by
  rw [e, List.map_map]
  rfl
/-- the spot that is drawn -/
theorem spot_run {o : Os} {q n : Nat} (h : Rnd s st (K + 3)) (hS0 : 0 < S) (hS : S ≤ 16) (hSB : S ≤ B) (e : lstAt s q = some ((rowN o).map intD)) (hq : q ≠ st) (hb : ∀ j ∈ rowN o, j < B) (hz : (rowN o).length ≤ 900) (x1 x3 x4 x6 x7 x8 : Option D) :
    ∃ (sp : Nat) (s' : Sto), (∀ R, dSeq (w2a A) (dSeq (w2b A) R) [some (.obj st), x1, some (.int (S : Nat)), x3, x4, some (.obj q), x6, x7, x8] s = R [some (.obj st), x1, some (.int (S : Nat)), x3, x4, some (.obj q), some (.int (sp : Nat)), x7, x8] s') ∧ sp < B ∧ Rnd s' st K ∧ Sm st s s' := by
  obtain ⟨v, s1, d1, v1, r1, m1⟩ := drw_run (A := A) (Δ := [some (.obj st), x1, some (.int (S : Nat)), x3, x4, some (.obj q), x6, x7, x8]) (i := 0) (n := dVar 2) (m := S) (K := K + 2) rfl rfl h hS0 (by omega)
  have a1 : w2a A [some (.obj st), x1, some (.int (S : Nat)), x3, x4, some (.obj q), x6, x7, x8] s = some (.nx [some (.obj st), x1, some (.int (S : Nat)), x3, x4, some (.obj q), some (.int (v : Nat)), x7, x8], s1) := asg d1 rfl
  have e1 := m1.lst e hq
  have t1 : dTest (dOp fNe (dVar 5) (dLst dNil)) [some (.obj st), x1, some (.int (S : Nat)), x3, x4, some (.obj q), some (.int (v : Nat)), x7, x8] s1 = some (.ok (!decide ((rowN o).map (fun (c : Nat) => (c : Int)) = [])), s1 ++ [.lst []]) :=
    te5 (op5 (s1 := s1) (s2 := s1 ++ [.lst []]) rfl (ls (xs := []) (s1 := s1) rfl (by simp)) (fNe_ints (l := (rowN o).map fun (c : Nat) => (c : Int)) (m := []) (nat_int (lstAt_app e1)) lstAt_new))
  by_cases c : (rowN o).map (fun (c : Nat) => (c : Int)) = []
  · rw [decide_eq_true c] at t1
    have b1 : w2b A [some (.obj st), x1, some (.int (S : Nat)), x3, x4, some (.obj q), some (.int (v : Nat)), x7, x8] s1 = some (.nx [some (.obj st), x1, some (.int (S : Nat)), x3, x4, some (.obj q), some (.int (v : Nat)), x7, x8], s1 ++ [.lst []]) := (if5 (andf5 t1)).trans rfl
    exact ⟨v, s1 ++ [.lst []], fun R => by rw [seq_nx a1, seq_nx b1], by omega, (r1.mono (by omega)).app, m1.trans Sm.app⟩
  · rw [decide_eq_false c] at t1
    obtain ⟨w, s2, d2, v2, r2, m2⟩ := drw_run (A := A) (s := s1 ++ [.lst []]) (Δ := [some (.obj st), x1, some (.int (S : Nat)), x3, x4, some (.obj q), some (.int (v : Nat)), x7, x8]) (i := 0) (n := dC (.int (6 : Nat))) (m := 6) (K := K + 1) rfl rfl r1.app (by decide) (by decide)
    have t2 : w2t A [some (.obj st), x1, some (.int (S : Nat)), x3, x4, some (.obj q), some (.int (v : Nat)), x7, x8] s1 = some (.ok (decide ((0 : Int) < (w : Nat))), s2) :=
      (andt5 t1).trans (te5 (op5 (s2 := s2) d2 rfl rfl))
    by_cases cw : (0 : Int) < (w : Nat)
    · rw [decide_eq_true cw] at t2
      have ne : (rowN o).map intD ≠ [] := fun z => c (by
        have := List.map_eq_nil_iff.mp z
        rw [this]
        rfl)
      have lr : 0 < ((rowN o).map intD).length := List.length_pos_iff.mpr ne
      have e2 := m2.lst (lstAt_app e1) hq
      obtain ⟨d, s3, p1, p2, p3, p4⟩ := pick A (s := s2) (j := q) (xs := (rowN o).map intD) (k := K) r2 e2 hq lr (by rw [List.length_map]; omega)
      obtain ⟨j, hj, rfl⟩ := List.mem_map.mp p2
      have pk : w2p A [some (.obj st), x1, some (.int (S : Nat)), x3, x4, some (.obj q), some (.int (v : Nat)), x7, x8] s2 = some (.nx [some (.obj st), x1, some (.int (S : Nat)), x3, x4, some (.obj q), some (.int (j : Nat)), x7, x8], s3) :=
        asg (s1 := s3) ((cl5 (xs := [.obj st, .obj q]) (s1 := s2) (cn (s1 := s2) rfl (cn (s1 := s2) rfl rfl))).trans ((ag5 rfl).trans p1)) rfl
      have b1 : w2b A [some (.obj st), x1, some (.int (S : Nat)), x3, x4, some (.obj q), some (.int (v : Nat)), x7, x8] s1 = some (.nx [some (.obj st), x1, some (.int (S : Nat)), x3, x4, some (.obj q), some (.int (j : Nat)), x7, x8], s3) :=
        (if5 t2).trans pk
      exact ⟨j, s3, fun R => by rw [seq_nx a1, seq_nx b1], hb j hj, p3, ((m1.trans Sm.app).trans m2).trans p4⟩
    · rw [decide_eq_false cw] at t2
      have b1 : w2b A [some (.obj st), x1, some (.int (S : Nat)), x3, x4, some (.obj q), some (.int (v : Nat)), x7, x8] s1 = some (.nx [some (.obj st), x1, some (.int (S : Nat)), x3, x4, some (.obj q), some (.int (v : Nat)), x7, x8], s2) := (if5 t2).trans rfl
      exact ⟨v, s2, fun R => by rw [seq_nx a1, seq_nx b1], by omega, r2.mono (by omega), (m1.trans Sm.app).trans m2⟩
def zer : List D := [.int 0, .int 0, .int 0, .int 0, .int 0, .int 1]
theorem zer_mem {d : D} (h : d ∈ zer) : ∃ e : Nat, e ≤ 1 ∧ d = .int (e : Nat) := by
  simp only [zer, List.mem_cons, List.not_mem_nil, or_false] at h
  rcases h with rfl | rfl | rfl | rfl | rfl | rfl
  · exact ⟨0, by omega, rfl⟩
  · exact ⟨0, by omega, rfl⟩
  · exact ⟨0, by omega, rfl⟩
  · exact ⟨0, by omega, rfl⟩
  · exact ⟨0, by omega, rfl⟩
  · exact ⟨1, by omega, rfl⟩
theorem w2_run {o : Os} {q n : Nat} {acc : List D} (h : Rnd s st (K + 4)) (hk : k ≤ 3) (hS0 : 0 < S) (hS : S ≤ 16) (hSB : S ≤ B) (e : lstAt s q = some ((rowN o).map intD)) (hq : q ≠ st) (hb : ∀ j ∈ rowN o, j < B) (hz : (rowN o).length ≤ 900) (hn : n ≠ st) (en : lstAt s n = some acc) (ha : acc.length ≤ 900) (x1 x6 x7 x8 : Option D) :
    ∃ (c : Nat) (y6 : Option D) (s' : Sto), w2 A [some (.obj st), x1, some (.int (S : Nat)), some (.int (k : Nat)), some (.obj n), some (.obj q), x6, x7, x8] s = some (.nx [some (.obj st), x1, some (.int (S : Nat)), some (.int (k : Nat)), some (.obj n), some (.obj q), y6, x7, x8], s') ∧ c ≤ B ∧ Rnd s' st K ∧ lstAt s' n = some (acc ++ [P c k]) ∧ (∀ s0, Sm st s0 s → s0.length ≤ n → Sm st s0 s') := by
  obtain ⟨sp, s1, w1, l1, r1, m1⟩ := spot_run (A := A) (o := o) (q := q) (n := n) (K := K + 1) h hS0 hS hSB e hq hb hz x1 (some (.int (k : Nat))) (some (.obj n)) x6 x7 x8
  obtain ⟨d, s2, p1, p2, p3, p4⟩ := pick_gen (A := A) (s := s1) (s1 := s1) (Δ := [some (.obj st), x1, some (.int (S : Nat)), some (.int (k : Nat)), some (.obj n), some (.obj q), some (.int (sp : Nat)), x7, x8]) (i := 0) (xs := zer) (da := six0) (K := K) rfl rfl r1 (by decide) (by decide)
  obtain ⟨u, hu, rfl⟩ := zer_mem p2
  have px : w2x A [some (.obj st), x1, some (.int (S : Nat)), some (.int (k : Nat)), some (.obj n), some (.obj q), some (.int (sp : Nat)), x7, x8] s1 = some (.ok (P (sp + u) k), s2) := by
    have ad : fAdd (.int (sp : Nat)) (.int (u : Nat)) s2 = some (.int ((sp + u : Nat) : Int), s2) := by
      rw [add5, Int.natCast_add]
    exact (cl5 (xs := [.int ((sp + u : Nat) : Int), .int (k : Nat)]) (cn (op5 (s1 := s1) rfl p1 ad) (cn (s1 := s2) rfl rfl))).trans ((ag5 rfl).trans (lpoint A s2 (sp + u) k (by omega)))
  have e1 := m1.lst en hn
  have e2 := p4.lst e1 hn
  refine ⟨sp + u, some (.int (sp : Nat)), s2.set n (.lst (acc ++ [P (sp + u) k])), ?_, by omega, p3.set hn.symm, lstAt_set e2, fun s0 hs hl => (hs.trans (m1.trans p4)).setN hl⟩
  refine (w1 (w2c A)).trans ?_
  exact app5 (s1 := s2) rfl e1 (cn px rfl) e2 (Nat.lt_of_lt_of_le (show _ < 1000 by omega) (le_line (by decide)))
end
end My

set_option maxHeartbeats 4000000
namespace My
open PySem L2 PyProof.Rows DV
/-! ### _law_row: the row that is drawn, the odd values -/
def PtD (B k : Nat) (x : D) : Prop := ∃ c, c ≤ B ∧ x = P c k
def ItD (B k : Nat) (s : Sto) (x : D) : Prop := PtD B k x ∨ OddD s x
inductive NT (s : Sto) : D → Prop
  | non : NT s .non
  | str (x : Str) : NT s (.str x)
  | int (i : Int) : NT s (.int i)
  | lst (p : Nat) (xs : List D) : lstAt s p = some xs → NT s (.obj p)
def RowV (B k : Nat) (s : Sto) (d : D) : Prop := NT s d ∨ ∃ xs, d = .tup xs ∧ xs.length ≤ 60 ∧ ∀ x ∈ xs, ItD B k s x
theorem ItD.gr {B k : Nat} {s s' : Sto} {x : D} (g : Gr s s') (h : ItD B k s x) : ItD B k s' x := h.imp id (OddD.gr g)
theorem NT.gr {s s' : Sto} {d : D} (g : Gr s s') (h : NT s d) : NT s' d := by
  cases h with
  | non => exact .non
  | str x => exact .str x
  | int i => exact .int i
  | lst p xs e => exact .lst p xs (g.lst e)
theorem RowV.gr {B k : Nat} {s s' : Sto} {d : D} (g : Gr s s') (h : RowV B k s d) : RowV B k s' d := by
  rcases h with h | ⟨xs, h1, h2, h3⟩
  · exact .inl (h.gr g)
  · exact .inr ⟨xs, h1, h2, fun x hx => (h3 x hx).gr g⟩
theorem NT.isi {s : Sto} {d : D} (h : NT s d) : fIsi [d, .ty "tuple"] s = some (.bl false, s) := by
  cases h with
  | non => rfl
  | str x => rfl
  | int i => rfl
  | lst p xs e => exact isi_lst e
theorem ItD.itm {B k : Nat} {s : Sto} {x : D} (h : ItD B k s x) : ∃ v, Itm B k s v x := by
  rcases h with ⟨c, h1, h2⟩ | h
  · exact ⟨some c, h1, h2⟩
  · exact ⟨none, h⟩
theorem itms {B k : Nat} {s : Sto} : ∀ {xs : List D}, (∀ x ∈ xs, ItD B k s x) → ∃ vs, All2 (Itm B k s) vs xs
  | [], _ => ⟨[], .nil⟩
  | x :: xs, h => by
    obtain ⟨v, hv⟩ := (h x (by simp)).itm
    obtain ⟨vs, hs⟩ := itms (xs := xs) fun y hy => h y (by simp [hy])
    exact ⟨v :: vs, .cons hv hs⟩
/-- a layer of the law -/
def Ly (B : Nat) (s : Sto) (st q : Nat) : Prop := ∃ o, lstAt s q = some ((rowN o).map intD) ∧ q ≠ st ∧ (∀ j ∈ rowN o, j < B) ∧ (rowN o).length ≤ 900
abbrev w2s (A : Ax) : DS := dFor (iSeqL (dVar 1)) (gN 5) (w2 A)
section
variable {A : Ax} {s : Sto} {st S K k B : Nat}
theorem w2s_run {m : Nat} {qs : List Nat} (h : Rnd s st (K + 4 * qs.length)) (hk : k ≤ 3) (hS0 : 0 < S) (hS : S ≤ 16) (hSB : S ≤ B) (er : lstAt s m = some (qs.map D.obj)) (hm : m ≠ st) (hq : ∀ q ∈ qs, Ly B s st q) (hz : qs.length ≤ 900) :
    ∃ y5 y6 row s', w2s A [some (.obj st), some (.obj m), some (.int (S : Nat)), some (.int (k : Nat)), some (.obj s.length), none, none, none, none] (s ++ [.lst []]) = some (.nx [some (.obj st), some (.obj m), some (.int (S : Nat)), some (.int (k : Nat)), some (.obj s.length), y5, y6, none, none], s') ∧ lstAt s' s.length = some row ∧ row.length = qs.length ∧ (∀ x ∈ row, PtD B k x) ∧ Rnd s' st K ∧ Sm st s s' := by
  have lt := h.lt
  have hi : iSeqL (dVar 1) [some (.obj st), some (.obj m), some (.int (S : Nat)), some (.int (k : Nat)), some (.obj s.length), none, none, none, none] (s ++ [.lst []]) = some (.ok ⟨qs.map D.obj, some (m, qs.map D.obj)⟩, s ++ [.lst []]) := by simp [lstAt_app er]
  obtain ⟨Δ', s', a1, y5, y6, acc, rfl, hd, hl, ha, e, r, sm⟩ := for_gen (I := ⟨qs.map D.obj, some (m, qs.map D.obj)⟩) (g := gN 5) (b := w2 A)
    (fun r Δ s' => ∃ (y5 y6 : Option D) (acc : List D), Δ = [some (.obj st), some (.obj m), some (.int (S : Nat)), some (.int (k : Nat)), some (.obj s.length), y5, y6, none, none] ∧ (∀ d ∈ r, ∃ q, d = .obj q ∧ Ly B s st q) ∧ acc.length + r.length = qs.length ∧ (∀ x ∈ acc, PtD B k x) ∧ lstAt s' s.length = some acc ∧ Rnd s' st (K + 4 * r.length) ∧ Sm st s s') (fun r Δ s' ⟨_, _, _, _, _, _, _, _, _, sm⟩ => still_of (sm.lst er hm)) (fun d r Δ s' ⟨y5, y6, acc, eΔ, hd, hl, ha, e, hr, sm⟩ => by
      subst eΔ
      obtain ⟨q, rfl, o, q1, q2, q3, q4⟩ := hd d (by simp)
      rw [List.length_cons] at hl hr
      obtain ⟨c, z6, s2, u1, u2, u3, u4, u5⟩ := w2_run (A := A) (K := K + 4 * r.length) (n := s.length) (hr.mono (by omega)) hk hS0 hS hSB (sm.lst q1 q2) q2 q3 q4 (by omega) e (by omega) (some (.obj m)) y6 none none
      exact ⟨_, s', rfl, _, s2, u1, some (.obj q), z6, acc ++ [P c k], rfl, fun d' h' => hd d' (by simp [h']), by rw [List.length_append, List.length_singleton]; omega, fun x hx => by
        rcases List.mem_append.mp hx with hx | hx
        · exact ha x hx
        · rw [List.mem_singleton] at hx
          exact ⟨c, u2, hx⟩, u4, u3, u5 s sm (Nat.le_refl _)⟩) (qs.map D.obj) [some (.obj st), some (.obj m), some (.int (S : Nat)), some (.int (k : Nat)), some (.obj s.length), none, none, none, none] (s ++ [.lst []]) ⟨none, none, [], rfl, fun d hd => by
        obtain ⟨q, h1, rfl⟩ := List.mem_map.mp hd
        exact ⟨q, rfl, hq q h1⟩, by simp, (fun x h => by cases h), lstAt_new, by rw [List.length_map]; exact h.app, Sm.app⟩
  exact ⟨y5, y6, acc, s', for_of hi a1, e, by simpa using hl, ha, by simpa using r, sm⟩
abbrev w4a : DX := dCB fTuple (dCons (dSl fSlA (dVar 4) dNoPt (dPt (dOp1 fNeg (dC (.int 1))))) dNil)
abbrev w4b : DX := dCB fTuple (dCons (dOp fAdd (dVar 4) (dSl fSlA (dVar 4) (dPt (dOp1 fNeg (dC (.int 1)))) dNoPt)) dNil)
abbrev w4d : DA := dCons (dC .non) (dCons (dTup dNil) (dCons (dCB fList (dCons (dVar 4) dNil)) (dCons w4a (dCons w4b (dCons (dC (.str "row")) (dCons (dC (.int 5)) dNil))))))
theorem cut_mem {xs : List D} {lo hi : Option Int} {x : D} (h : x ∈ DV.cutD xs lo hi) : x ∈ xs := List.mem_of_mem_drop (List.mem_of_mem_take h)
theorem cut_le (xs : List D) (lo hi : Option Int) : (DV.cutD xs lo hi).length ≤ xs.length := by
  unfold DV.cutD
  rw [List.length_take, List.length_drop]
  omega
theorem slo_run {Δ : Dn} {n : Nat} {row : List D} (hv : ∀ s : Sto, dVar 4 Δ s = some (.ok (.obj n), s)) (e : lstAt s n = some row) :
    dSl fSlA (dVar 4) dNoPt (dPt (dOp1 fNeg (dC (.int 1)))) Δ s = some (.ok (.obj s.length), s ++ [.lst (DV.cutD row none (some (-1)))]) ∧ dSl fSlA (dVar 4) (dPt (dOp1 fNeg (dC (.int 1)))) dNoPt Δ s = some (.ok (.obj s.length), s ++ [.lst (DV.cutD row (some (-1)) none)]) := by
  have p1 : dPt (dOp1 fNeg (dC (.int 1))) Δ s = some (.ok (some (-1)), s) := rfl
  have p2 : dNoPt Δ s = some (.ok none, s) := rfl
  have f : ∀ lo hi, liftS fSlA (.obj n) lo hi s = some (.ok (.obj s.length), s ++ [.lst (DV.cutD row lo hi)]) := fun lo hi => by
    unfold liftS
    have : fSlA (.obj n) lo hi s = some (.obj s.length, s ++ [.lst (DV.cutD row lo hi)]) := by
      show fSl (.obj n) lo hi s = _
      unfold fSl
      simp only [e]
    rw [this]
  unfold dSl
  constructor
  · rw [mbind_ok, hv]
    simp only [mbind_ok, p1, p2, f]
  · rw [mbind_ok, hv]
    simp only [mbind_ok, p1, p2, f]
theorem tuple_obj {p : Nat} {xs : List D} (e : lstAt s p = some xs) : fTuple [.obj p] s = some (.tup xs, s) := by
  unfold fTuple
  simp only [e]
theorem w4a_run {Δ : Dn} {n : Nat} {row : List D} (hv : ∀ s : Sto, dVar 4 Δ s = some (.ok (.obj n), s)) (e : lstAt s n = some row) : ∃ xs s', w4a Δ s = some (.ok (.tup xs), s') ∧ Gr s s' ∧ xs.length ≤ row.length ∧ ∀ x ∈ xs, x ∈ row :=
  ⟨DV.cutD row none (some (-1)), s ++ [.lst (DV.cutD row none (some (-1)))], cb5 (cn (slo_run hv e).1 rfl) (tuple_obj lstAt_new), Gr.app, cut_le _ _ _, fun x hx => cut_mem hx⟩
theorem w4b_run {Δ : Dn} {n : Nat} {row : List D} (hv : ∀ s : Sto, dVar 4 Δ s = some (.ok (.obj n), s)) (e : lstAt s n = some row) (hz : row.length ≤ 20) : ∃ xs s', w4b Δ s = some (.ok (.tup xs), s') ∧ Gr s s' ∧ xs.length ≤ 40 ∧ ∀ x ∈ xs, x ∈ row := by
  have cl := cut_le row (some (-1)) none
  have ad : fAdd (.obj n) (.obj s.length) (s ++ [.lst (DV.cutD row (some (-1)) none)]) = some (.obj (s ++ [DO.lst (DV.cutD row (some (-1)) none)]).length, (s ++ [.lst (DV.cutD row (some (-1)) none)]) ++ [.lst (row ++ DV.cutD row (some (-1)) none)]) := by
    have z : row.length + (DV.cutD row (some (-1)) none).length ≤ sizeLine := le_line (by omega)
    have f1 : fAddI (.obj n) (.obj s.length) (s ++ [.lst (DV.cutD row (some (-1)) none)]) = none := rfl
    have f2 : fAddS (.obj n) (.obj s.length) (s ++ [.lst (DV.cutD row (some (-1)) none)]) = none := rfl
    have f3 : fAddL (.obj n) (.obj s.length) (s ++ [.lst (DV.cutD row (some (-1)) none)]) = some (.obj (s ++ [DO.lst (DV.cutD row (some (-1)) none)]).length, (s ++ [.lst (DV.cutD row (some (-1)) none)]) ++ [.lst (row ++ DV.cutD row (some (-1)) none)]) := by
      have q1 := (lstAt_app e : lstAt (s ++ [DO.lst (DV.cutD row (some (-1)) none)]) n = some row)
      have q2 := (lstAt_new : lstAt (s ++ [DO.lst (DV.cutD row (some (-1)) none)]) s.length = some (DV.cutD row (some (-1)) none))
      unfold fAddL
      simp only [q1, q2, if_pos z]
    unfold fAdd orOp
    rw [f1]
    simp only
    rw [f2]
    simp only
    rw [f3]
  exact ⟨row ++ DV.cutD row (some (-1)) none, _, cb5 (cn (op5 (hv s) (slo_run hv e).2 ad) rfl) (tuple_obj lstAt_new), Gr.app.trans Gr.app, by rw [List.length_append]; omega, fun x hx => by
    rcases List.mem_append.mp hx with hx | hx
    · exact hx
    · exact cut_mem hx⟩
theorem w4_vals {n : Nat} {row : List D} (e : lstAt s n = some row) (hp : ∀ x ∈ row, PtD B k x) (hz : row.length ≤ 20) (x0 x1 x2 x3 x5 x6 x7 x8 : Option D) :
    ∃ xs s', w4d [x0, x1, x2, x3, some (.obj n), x5, x6, x7, x8] s = some (.ok xs, s') ∧ Gr s s' ∧ xs.length = 7 ∧ ∀ x ∈ xs, RowV B k s' x := by
  have g1 : Gr s (s ++ [.lst row]) := Gr.app
  have fl : fList [.obj n] s = some (.obj s.length, s ++ [.lst row]) := by
    unfold fList
    simp only [e]
  have l1 : lstAt (s ++ [DO.lst row]) s.length = some row := lstAt_new
  obtain ⟨ya, s2, a1, a2, a3, a4⟩ := w4a_run (s := s ++ [.lst row]) (Δ := [x0, x1, x2, x3, some (.obj n), x5, x6, x7, x8]) (n := n) (fun _ => rfl) (g1.lst e)
  obtain ⟨yb, s3, b1, b2, b3, b4⟩ := w4b_run (s := s2) (Δ := [x0, x1, x2, x3, some (.obj n), x5, x6, x7, x8]) (n := n) (fun _ => rfl) (a2.lst (g1.lst e)) hz
  have t0 : dTup dNil [x0, x1, x2, x3, some (.obj n), x5, x6, x7, x8] s = some (.ok (.tup []), s) := tp (xs := []) (s1 := s) rfl (by simp)
  refine ⟨[.non, .tup [], .obj s.length, .tup ya, .tup yb, .str "row", .int 5], s3, cn (s1 := s) rfl (cn t0 (cn (cb5 (s1 := s) (cn (s1 := s) rfl rfl) fl) (cn a1 (cn b1 (cn (s1 := s3) rfl (cn (s1 := s3) rfl rfl)))))), (g1.trans a2).trans b2, rfl, fun x hx => ?_⟩
  simp only [List.mem_cons, List.not_mem_nil, or_false] at hx
  rcases hx with rfl | rfl | rfl | rfl | rfl | rfl | rfl
  · exact .inl .non
  · exact .inr ⟨[], rfl, by simp, fun x h => by cases h⟩
  · exact .inl (.lst _ row (b2.lst (a2.lst l1)))
  · exact .inr ⟨ya, rfl, by omega, fun x h => .inl (hp x (a4 x h))⟩
  · exact .inr ⟨yb, rfl, by omega, fun x h => .inl (hp x (b4 x h))⟩
  · exact .inl (.str _)
  · exact .inl (.int _)
end
end My

set_option maxHeartbeats 4000000
namespace My
open PySem L2 PyProof.Rows DV
theorem pts_py (s : Sto) {B k : Nat} : ∀ ys : List D, (∀ y ∈ ys, PtD B k y) → ∃ ps, omap (toPy s 64) ys = some ps ∧ ps.length = ys.length ∧ ∀ p ∈ ps, ∃ m : Mo, p = mdP m
  | [], _ => ⟨[], rfl, rfl, fun p h => by cases h⟩
  | y :: ys, h => by
    obtain ⟨ps, h1, h2, h3⟩ := pts_py s ys fun z hz => h z (by simp [hz])
    obtain ⟨c, _, rfl⟩ := h y (by simp)
    refine ⟨mdP (pm c k) :: ps, ?_, by simp [h2], fun p hp => ?_⟩
    · have q : toPy s 64 (P c k) = some (mdP (pm c k)) := rfl
      simp [omap, q, h1]
    · rcases List.mem_cons.mp hp with rfl | hp
      · exact ⟨_, rfl⟩
      · exact h3 p hp
theorem pts_ok {ps : List PyData} (h : ∀ p ∈ ps, ∃ m : Mo, p = mdP m) (hl : ps.length ≤ 1000) : sortOk ps = true := by
  have a1 : alikeB ps = true := by
    unfold alikeB
    rw [List.all_eq_true]
    intro d hd
    rw [List.all_eq_true]
    intro e he
    obtain ⟨v, rfl⟩ := h d hd
    obtain ⟨w, rfl⟩ := h e he
    exact (cmpOk_of (cmp_md v w)).1
  have a2 : ps.all tup1 = true := by
    rw [List.all_eq_true]
    intro d hd
    obtain ⟨v, rfl⟩ := h d hd
    rfl
  have a3 : (ps.all fun d => decide (d.depth ≤ 64)) = true := by
    rw [List.all_eq_true]
    intro d hd
    obtain ⟨v, rfl⟩ := h d hd
    exact decide_eq_true (cmpOk_of (cmp_md v v)).2.2
  unfold sortOk
  rw [a1, a2, a3, decide_eq_true (le_line hl)]
  rfl
theorem sorted_pts {s : Sto} {B k m : Nat} {ys : List D} (e : lstAt s m = some ys) (h : ∀ y ∈ ys, PtD B k y) (hl : ys.length ≤ 1000) : ∃ zs, fSortedL [.obj m] s = some (.obj s.length, s ++ [.lst zs]) ∧ zs.length = ys.length ∧ ∀ z ∈ zs, PtD B k z := by
  obtain ⟨ps, h1, h2, h3⟩ := pts_py s ys h
  refine ⟨sortP (ys.zip ps), ?_, ?_, fun z hz => ?_⟩
  · unfold fSortedL
    simp only [e, h1, if_pos (pts_ok h3 (by omega))]
  · unfold sortP
    rw [List.length_map, List.length_mergeSort, List.length_zip, h2, Nat.min_self]
  · unfold sortP at hz
    obtain ⟨p, hp, rfl⟩ := List.mem_map.mp hz
    rw [List.mem_mergeSort] at hp
    exact h p.1 (List.of_mem_zip (a := p.1) (b := p.2) hp).1
abbrev w5d : DA := (dCons (dC .non) (dCons (dTup (dCons (dC (.int 0)) (dCons (dC (.str "0")) dNil))) (dCons (dLst (dCons (dC (.int 0)) (dCons (dC (.str "")) dNil))) (dCons (dTup (dCons (dC (.bl true)) (dCons (dC (.str "")) dNil))) (dCons (dTup (dCons (dC (.int 0)) (dCons (dC (.str "")) (dCons (dC (.int 1)) dNil)))) (dCons (dTup (dCons (dOp1 fNeg (dC (.int 1))) (dCons (dC (.str "")) dNil))) (dCons (dTup (dCons (dC (.int 0)) (dCons (dC (.str "2")) dNil))) (dCons (dC (.int 0)) dNil))))))))
abbrev putA : DGf := gSb fSet (dVar 4) (dVar 8)
abbrev isW (i : Int) : DT := dTest (dOp fEq (dVar 7) (dC (.int i)))
abbrev w5s (A : Ax) : DS := dIfS (isW 1) (dAsg (dCl (argN 2 (M_u_law_pick A)) (dCons (dVar 0) (dCons (dLst w5d) dNil))) putA) dNx
abbrev w6s : DS := dIfS (isW 2) (dAsg (dCB fSortedL (dCons (dVar 4) dNil)) (gN 4)) dNx
abbrev w7s : DS := dIfS (dAnd (isW 3) (dTest (dOp fGt (dVar 8) (dC (.int 0))))) (dAsg (dOp fIx (dVar 4) (dOp fSub (dVar 8) (dC (.int 1)))) putA) dNx
abbrev w8x : DX := dIf (dTest (dOp fGt (dVar 7) (dC (.int 5)))) (dCB fTuple (dCons (dCB fSortedL (dCons (dVar 4) dNil)) dNil)) (dCB fTuple (dCons (dVar 4) dNil))
structure RS (B k st : Nat) (s0 : Sto) (way n : Nat) (row : List D) (s : Sto) : Prop where
  e : lstAt s n = some row
  hn : n ≠ st
  it : ∀ x ∈ row, ItD B k s x
  pt : way ≠ 1 → ∀ x ∈ row, PtD B k x
  lo : s0.length ≤ n
  sm : Sm st s0 s
theorem put_run {Δ : Dn} {s : Sto} {n a : Nat} {row : List D} {d : D} (h4 : Δ[4]? = some (some (.obj n))) (h8 : Δ[8]? = some (some (.int (a : Nat)))) (e : lstAt s n = some row) (ha : a < row.length) : putA d Δ s = some (Δ, s.set n (.lst (row.set a d))) := by
  have v4 : dVar 4 Δ s = some (.ok (.obj n), s) := by rw [dVar_eq, h4]
  have v8 : dVar 8 Δ s = some (.ok (.int (a : Nat)), s) := by rw [dVar_eq, h8]
  have ix : ixN row.length (a : Int) = some a := by
    unfold ixN
    rw [if_pos (by omega), if_pos (by omega)]
    rfl
  unfold putA gSb
  simp only [v4, v8, fSet_eq, e, ix]
theorem isW_run {Δ : Dn} {s : Sto} {w : Nat} {i : Nat} (h7 : Δ[7]? = some (some (.int (w : Nat)))) : isW (i : Nat) Δ s = some (.ok (decide (w = i)), s) := by
  have v7 : dVar 7 Δ s = some (.ok (.int (w : Nat)), s) := by rw [dVar_eq, h7]
  refine te5 (op5 v7 rfl ?_)
  rw [fEq_int]
  exact bl_same len_eq
theorem mem_set {row : List D} {a : Nat} {d x : D} (h : x ∈ row.set a d) : x = d ∨ x ∈ row := (List.mem_or_eq_of_mem_set h).symm
section
variable {A : Ax} {s s0 : Sto} {st K k B way at_ n : Nat} {row : List D} {Δ : Dn}
theorem odd_vals (s : Sto) (Δ : Dn) : ∃ xs, w5d Δ s = some (.ok xs, s ++ [.lst [.int 0, .str ""]]) ∧ xs.length = 8 ∧ ∀ x ∈ xs, OddD (s ++ [.lst [.int 0, .str ""]]) x := by
  have l2 : ∀ n : Nat, n ≤ 3 → n ≤ 1000 := fun n h => by omega
  have l1 : lstAt (s ++ [DO.lst [.int 0, .str ""]]) s.length = some [.int 0, .str ""] := lstAt_new
  have t1 : dTup (dCons (dC (.int 0)) (dCons (dC (.str "0")) dNil)) Δ s = some (.ok (.tup [.int 0, .str "0"]), s) := tp (cn (s1 := s) rfl (cn (s1 := s) rfl rfl)) (by simp)
  have t2 : dLst (dCons (dC (.int 0)) (dCons (dC (.str "")) dNil)) Δ s = some (.ok (.obj s.length), s ++ [.lst [.int 0, .str ""]]) := ls (cn (s1 := s) rfl (cn (s1 := s) rfl rfl)) (by simp)
  generalize (s ++ [DO.lst [.int 0, .str ""]]) = s1 at *
  have t3 : dTup (dCons (dC (.bl true)) (dCons (dC (.str "")) dNil)) Δ s1 = some (.ok (.tup [.bl true, .str ""]), s1) := tp (cn (s1 := s1) rfl (cn (s1 := s1) rfl rfl)) (by simp)
  have t4 : dTup (dCons (dC (.int 0)) (dCons (dC (.str "")) (dCons (dC (.int 1)) dNil))) Δ s1 = some (.ok (.tup [.int 0, .str "", .int 1]), s1) := tp (cn (s1 := s1) rfl (cn (s1 := s1) rfl (cn (s1 := s1) rfl rfl))) (by simp)
  have ng : dOp1 fNeg (dC (.int 1)) Δ s1 = some (.ok (.int (-1)), s1) := rfl
  have t5 : dTup (dCons (dOp1 fNeg (dC (.int 1))) (dCons (dC (.str "")) dNil)) Δ s1 = some (.ok (.tup [.int (-1), .str ""]), s1) := tp (cn ng (cn (s1 := s1) rfl rfl)) (by simp)
  have t6 : dTup (dCons (dC (.int 0)) (dCons (dC (.str "2")) dNil)) Δ s1 = some (.ok (.tup [.int 0, .str "2"]), s1) := tp (cn (s1 := s1) rfl (cn (s1 := s1) rfl rfl)) (by simp)
  refine ⟨[.non, .tup [.int 0, .str "0"], .obj s.length, .tup [.bl true, .str ""], .tup [.int 0, .str "", .int 1], .tup [.int (-1), .str ""], .tup [.int 0, .str "2"], .int 0], cn (s1 := s) rfl (cn t1 (cn t2 (cn t3 (cn t4 (cn t5 (cn t6 (cn (s1 := s1) rfl rfl))))))), rfl, fun x hx => ?_⟩
  simp only [List.mem_cons, List.not_mem_nil, or_false] at hx
  rcases hx with rfl | rfl | rfl | rfl | rfl | rfl | rfl | rfl
  · exact .non
  · exact .z0
  · exact .li _ l1
  · exact .bo
  · exact .tr
  · exact .ng
  · exact .tw
  · exact .nu
theorem w5_run (q : RS B k st s0 way n row s) (hp : ∀ x ∈ row, PtD B k x) (h : Rnd s st (K + 1)) (h0 : Δ[0]? = some (some (.obj st))) (h4 : Δ[4]? = some (some (.obj n))) (h7 : Δ[7]? = some (some (.int (way : Nat)))) (h8 : Δ[8]? = some (some (.int (at_ : Nat)))) (ha : at_ < row.length) :
    ∃ row' s', w5s A Δ s = some (.nx Δ, s') ∧ RS B k st s0 way n row' s' ∧ row'.length = row.length ∧ Rnd s' st K := by
  have t := isW_run (s := s) (i := 1) h7
  by_cases c : way = 1
  · rw [decide_eq_true c] at t
    obtain ⟨xs, o1, o2, o3⟩ := odd_vals s Δ
    have en := lstAt_lt q.e
    obtain ⟨d, s2, p1, p2, p3, p4⟩ := pick_gen (A := A) (K := K) (i := 0) h0 o1 h.app (by omega) (by omega)
    have od := o3 d p2
    have e1 : lstAt s2 n = some row := p4.lst (lstAt_app q.e) q.hn
    have od2 : OddD (s2.set n (.lst (row.set at_ d))) d := by
      have keep : ∀ m, lstAt (s ++ [.lst [.int 0, .str ""]]) m = some [.int 0, .str ""] → OddD (s2.set n (.lst (row.set at_ d))) (.obj m) := fun m hm => by
        have ms : m ≠ st := fun z => by
          obtain ⟨a, b, c, r, _⟩ := h.app (l := [.lst [.int 0, .str ""]])
          rw [← z, hm] at r
          cases r
        have mn : m ≠ n := fun z => by
          have e0 := (lstAt_app q.e : lstAt (s ++ [DO.lst [.int 0, .str ""]]) n = some row)
          rw [← z, hm] at e0
          have e0 := Option.some.inj e0
          obtain ⟨c, _, hc⟩ := hp (.int 0) (by rw [← e0]; simp)
          cases hc
        refine .li m ?_
        rw [lstAt_ne mn]
        exact p4.lst hm ms
      cases od with
      | li m hm => exact keep m hm
      | non => exact .non
      | z0 => exact .z0
      | bo => exact .bo
      | tr => exact .tr
      | ng => exact .ng
      | tw => exact .tw
      | nu => exact .nu
    refine ⟨row.set at_ d, s2.set n (.lst (row.set at_ d)), (if5 t).trans (asg p1 (put_run h4 h8 e1 ha)), ⟨lstAt_set e1, q.hn, fun x hx => ?_, fun z => absurd c z, q.lo, ((q.sm.trans Sm.app).trans p4).setN q.lo⟩, by rw [List.length_set], p3.set q.hn.symm⟩
    rcases mem_set hx with rfl | hx
    · exact .inr od2
    · exact .inl (hp x hx)
  · rw [decide_eq_false c] at t
    exact ⟨row, s, (if5 t).trans rfl, q, rfl, h.mono (by omega)⟩
theorem w6_run (q : RS B k st s0 way n row s) (h : Rnd s st K) (hz : row.length ≤ 900) (h7 : Δ[7]? = some (some (.int (way : Nat)))) (h4 : Δ[4]? = some (some (.obj n))) :
    ∃ n' row' s', w6s Δ s = some (.nx (Δ.set 4 (some (.obj n'))), s') ∧ RS B k st s0 way n' row' s' ∧ row'.length = row.length ∧ Rnd s' st K := by
  have t : isW 2 Δ s = some (.ok (decide (way = 2)), s) := isW_run (s := s) (i := 2) h7
  have v4 : dVar 4 Δ s = some (.ok (.obj n), s) := by rw [dVar_eq, h4]
  by_cases c : way = 2
  · rw [decide_eq_true c] at t
    have hp := q.pt (by omega)
    obtain ⟨zs, z1, z2, z3⟩ := sorted_pts q.e hp (by omega)
    have lt := h.lt
    have u : dAsg (dCB fSortedL (dCons (dVar 4) dNil)) (gN 4) Δ s = some (.nx (Δ.set 4 (some (.obj s.length))), s ++ [.lst zs]) := asg (cb5 (cn v4 rfl) z1) (gN_eq _ _ _ _)
    refine ⟨s.length, zs, s ++ [DO.lst zs], ?_, ⟨lstAt_new, by omega, fun x hx => .inl (z3 x hx), fun _ => z3, q.sm.1, q.sm.trans Sm.app⟩, z2, h.app⟩
    refine (if5 t).trans ?_
    rw [if_pos rfl]
    exact u
  · rw [decide_eq_false c] at t
    refine ⟨n, row, s, (if5 t).trans ?_, q, rfl, h⟩
    have : Δ.set 4 (some (.obj n)) = Δ := by
      apply List.ext_getElem?
      intro j
      by_cases e : j = 4
      · subst e
        rw [List.getElem?_set_self (List.getElem?_eq_some_iff.mp h4).1, h4]
      · rw [List.getElem?_set_ne (fun z => e z.symm)]
    rw [this]
    rfl
theorem w7_run (q : RS B k st s0 way n row s) (h : Rnd s st K) (h7 : Δ[7]? = some (some (.int (way : Nat)))) (h4 : Δ[4]? = some (some (.obj n))) (h8 : Δ[8]? = some (some (.int (at_ : Nat)))) (ha : at_ < row.length) :
    ∃ row' s', w7s Δ s = some (.nx Δ, s') ∧ RS B k st s0 way n row' s' ∧ row'.length = row.length ∧ Rnd s' st K := by
  have t := isW_run (s := s) (i := 3) h7
  have v4 : dVar 4 Δ s = some (.ok (.obj n), s) := by rw [dVar_eq, h4]
  have v8 : dVar 8 Δ s = some (.ok (.int (at_ : Nat)), s) := by rw [dVar_eq, h8]
  by_cases c : way = 3
  · rw [decide_eq_true c] at t
    have hp := q.pt (by omega)
    have t2 : dAnd (isW 3) (dTest (dOp fGt (dVar 8) (dC (.int 0)))) Δ s = some (.ok (decide ((0 : Int) < (at_ : Nat))), s) := (andt5 t).trans (te5 (op5 v8 rfl rfl))
    by_cases z : (0 : Int) < (at_ : Nat)
    · rw [decide_eq_true z] at t2
      have hj : at_ - 1 < row.length := by omega
      have sb : fSub (.int (at_ : Nat)) (.int 1) s = some (.int ((at_ - 1 : Nat) : Int), s) := by
        rw [sub5]
        have : ((at_ : Nat) : Int) - 1 = ((at_ - 1 : Nat) : Int) := by omega
        rw [this]
      have ix : fIx (.obj n) (.int ((at_ - 1 : Nat) : Int)) s = some (row[at_ - 1], s) := by
        have at1 : atI row ((at_ - 1 : Nat) : Int) = some row[at_ - 1] := by
          unfold atI ixN
          rw [if_pos (by omega), if_pos (by omega)]
          exact List.getElem?_eq_getElem hj
        rw [fIx_obj, q.e]
        simp only [at1]
      have px : PtD B k row[at_ - 1] := hp _ (List.getElem_mem hj)
      have al : ∀ x ∈ row.set at_ row[at_ - 1], PtD B k x := fun x hx => by
        rcases mem_set hx with rfl | hx
        · exact px
        · exact hp x hx
      exact ⟨_, _, (if5 t2).trans (asg (op5 v4 (op5 v8 rfl sb) ix) (put_run h4 h8 q.e ha)), ⟨lstAt_set q.e, q.hn, fun x hx => .inl (al x hx), fun _ => al, q.lo, q.sm.setN q.lo⟩, by rw [List.length_set], h.set q.hn.symm⟩
    · rw [decide_eq_false z] at t2
      exact ⟨row, s, (if5 t2).trans rfl, q, rfl, h⟩
  · rw [decide_eq_false c] at t
    exact ⟨row, s, (if5 (andf5 t)).trans rfl, q, rfl, h⟩
theorem w8_run (q : RS B k st s0 way n row s) (h : Rnd s st K) (hz : row.length ≤ 60) (h7 : Δ[7]? = some (some (.int (way : Nat)))) (h4 : Δ[4]? = some (some (.obj n))) :
    ∃ d s', w8x Δ s = some (.ok d, s') ∧ RowV B k s' d ∧ Rnd s' st K ∧ Sm st s0 s' := by
  have v4 : dVar 4 Δ s = some (.ok (.obj n), s) := by rw [dVar_eq, h4]
  have v7 : dVar 7 Δ s = some (.ok (.int (way : Nat)), s) := by rw [dVar_eq, h7]
  have t : dTest (dOp fGt (dVar 7) (dC (.int 5))) Δ s = some (.ok (decide ((5 : Int) < (way : Nat))), s) := te5 (op5 v7 rfl rfl)
  by_cases c : (5 : Int) < (way : Nat)
  · rw [decide_eq_true c] at t
    have hp := q.pt (by omega)
    obtain ⟨zs, z1, z2, z3⟩ := sorted_pts q.e hp (by omega)
    have r : dCB fTuple (dCons (dCB fSortedL (dCons (dVar 4) dNil)) dNil) Δ s = some (.ok (.tup zs), s ++ [.lst zs]) := cb5 (cn (cb5 (cn v4 rfl) z1) rfl) (tuple_obj lstAt_new)
    refine ⟨.tup zs, s ++ [.lst zs], ?_, .inr ⟨zs, rfl, by omega, fun x hx => .inl (z3 x hx)⟩, h.app, q.sm.trans Sm.app⟩
    unfold w8x
    rw [dIf_eq, mbind_ok, t]
    exact r
  · rw [decide_eq_false c] at t
    have r : dCB fTuple (dCons (dVar 4) dNil) Δ s = some (.ok (.tup row), s) := cb5 (cn v4 rfl) (tuple_obj q.e)
    refine ⟨.tup row, s, ?_, .inr ⟨row, rfl, hz, q.it⟩, h, q.sm⟩
    unfold w8x
    rw [dIf_eq, mbind_ok, t]
    exact r
end
end My

set_option maxHeartbeats 4000000
namespace My
open PySem L2 PyProof.Rows DV
theorem RowV.sm {B k : Nat} {s s' : Sto} {st K1 K2 : Nat} {d : D} (h : Rnd s st K1) (h' : Rnd s' st K2) (g : Sm st s s') (r : RowV B k s d) : RowV B k s' d := by
  rcases r with r | ⟨xs, h1, h2, h3⟩
  · left
    cases r with
    | non => exact .non
    | str x => exact .str x
    | int i => exact .int i
    | lst p xs e =>
      by_cases c : p = st
      · obtain ⟨a, b, c', z, _⟩ := h'
        rw [c]
        exact .lst _ _ z
      · exact .lst _ _ (g.lst e c)
  · refine .inr ⟨xs, h1, h2, fun x hx => (h3 x hx).imp id fun o => ?_⟩
    cases o with
    | li m hm =>
      refine .li m (g.lst hm fun z => ?_)
      obtain ⟨a, b, c, r, _⟩ := h
      rw [← z, hm] at r
      cases r
    | non => exact .non
    | z0 => exact .z0
    | bo => exact .bo
    | tr => exact .tr
    | ng => exact .ng
    | tw => exact .tw
    | nu => exact .nu
abbrev w1s : DS := dAsg (dLst dNil) (gN 4)
abbrev w3s (A : Ax) : DS := dPar 7 8 (dCons (drw A 0 (dC (.int 10))) (dCons (drw A 0 (dCB fLen (dCons (dVar 4) dNil))) dNil))
abbrev w4s (A : Ax) : DS := dIfS (isW 0) (dRet (dCl (argN 2 (M_u_law_pick A)) (dCons (dVar 0) (dCons (dLst w4d) dNil)))) dNx
theorem ds_row_eq (A : Ax) : ds_u_law_row A = dSeq w1s (dSeq (w2s A) (dSeq (w3s A) (dSeq (w4s A) (dSeq (w5s A) (dSeq w6s (dSeq w7s (dRet w8x))))))) := rfl
section
variable {A : Ax} {s : Sto} {st S K k B : Nat}
theorem row_run {m : Nat} {qs : List Nat} (h : Rnd s st (K + 3 + 4 * qs.length)) (hk : k ≤ 3) (hS0 : 0 < S) (hS : S ≤ 16) (hSB : S ≤ B) (er : lstAt s m = some (qs.map D.obj)) (hm : m ≠ st) (hq : ∀ q ∈ qs, Ly B s st q) (h1 : 1 ≤ qs.length) (h2 : qs.length ≤ 16) :
    ∃ d s', M_u_law_row A [.obj st, .obj m, .int (S : Nat), .int (k : Nat)] s = some (.ok d, s') ∧ RowV B k s' d ∧ Rnd s' st K ∧ Sm st s s' := by
  have lt := h.lt
  have hs : startD 9 [.obj st, .obj m, .int (S : Nat), .int (k : Nat)] = [some (.obj st), some (.obj m), some (.int (S : Nat)), some (.int (k : Nat)), none, none, none, none, none] := rfl
  have a1 : w1s [some (.obj st), some (.obj m), some (.int (S : Nat)), some (.int (k : Nat)), none, none, none, none, none] s = some (.nx [some (.obj st), some (.obj m), some (.int (S : Nat)), some (.int (k : Nat)), some (.obj s.length), none, none, none, none], s ++ [.lst []]) := asg (ls (s1 := s) rfl (by simp)) rfl
  obtain ⟨y5, y6, row, s1, a2, e1, l1, p1, r1, m1⟩ := w2s_run (A := A) (K := K + 3) h hk hS0 hS hSB er hm hq (by omega)
  obtain ⟨way, s2, d2, _, r2, m2⟩ := drw_run (A := A) (s := s1) (Δ := [some (.obj st), some (.obj m), some (.int (S : Nat)), some (.int (k : Nat)), some (.obj s.length), y5, y6, none, none]) (i := 0) (n := dC (.int (10 : Nat))) (m := 10) (K := K + 2) rfl rfl r1 (by decide) (by decide)
  have e2 := m2.lst e1 (by omega)
  have ln : dCB fLen (dCons (dVar 4) dNil) [some (.obj st), some (.obj m), some (.int (S : Nat)), some (.int (k : Nat)), some (.obj s.length), y5, y6, none, none] s2 = some (.ok (.int (row.length : Nat)), s2) := cb5 (s1 := s2) (cn (s1 := s2) rfl rfl) (by rw [fLen_obj, e2])
  obtain ⟨pos, s3, d3, lp, r3, m3⟩ := drw_run (A := A) (s := s2) (Δ := [some (.obj st), some (.obj m), some (.int (S : Nat)), some (.int (k : Nat)), some (.obj s.length), y5, y6, none, none]) (i := 0) (n := dCB fLen (dCons (dVar 4) dNil)) (m := row.length) (K := K + 1) rfl ln r2 (by omega) (by omega)
  have e3 := m3.lst e2 (by omega)
  have a3 : w3s A [some (.obj st), some (.obj m), some (.int (S : Nat)), some (.int (k : Nat)), some (.obj s.length), y5, y6, none, none] s1 = some (.nx [some (.obj st), some (.obj m), some (.int (S : Nat)), some (.int (k : Nat)), some (.obj s.length), y5, y6, some (.int (way : Nat)), some (.int (pos : Nat))], s3) := par5' (cn d2 (cn d3 rfl))
  have m13 := (m1.trans m2).trans m3
  have t4 : isW 0 [some (.obj st), some (.obj m), some (.int (S : Nat)), some (.int (k : Nat)), some (.obj s.length), y5, y6, some (.int (way : Nat)), some (.int (pos : Nat))] s3 = some (.ok (decide (way = 0)), s3) := isW_run (s := s3) (i := 0) rfl
  by_cases c : way = 0
  · rw [decide_eq_true c] at t4
    obtain ⟨xs, s4, v1, v2, v3, v4⟩ := w4_vals (B := B) (k := k) e3 p1 (by omega) (some (.obj st)) (some (.obj m)) (some (.int (S : Nat))) (some (.int (k : Nat))) y5 y6 (some (.int (way : Nat))) (some (.int (pos : Nat)))
    obtain ⟨d, s5, q1, q2, q3, q4⟩ := pick_gen (A := A) (K := K) (i := 0) (Δ := [some (.obj st), some (.obj m), some (.int (S : Nat)), some (.int (k : Nat)), some (.obj s.length), y5, y6, some (.int (way : Nat)), some (.int (pos : Nat))]) rfl v1 (r3.gr v2) (by omega) (by omega)
    refine ⟨d, s5, fn_rt ?_, (v4 d q2).sm (r3.gr v2) q3 q4, q3, (m13.trans (Gr.sm v2)).trans q4⟩
    rw [ds_row_eq, hs, seq_nx a1, seq_nx a2, seq_nx a3]
    exact seq_rt (yes5 t4 q1)
  · rw [decide_eq_false c] at t4
    have R0 : RS B k st s way s.length row s3 := ⟨e3, by omega, fun x hx => .inl (p1 x hx), fun _ => p1, Nat.le_refl _, m13⟩
    obtain ⟨row5, s5, a5, R5, l5, r5⟩ := w5_run (A := A) (K := K) (Δ := [some (.obj st), some (.obj m), some (.int (S : Nat)), some (.int (k : Nat)), some (.obj s.length), y5, y6, some (.int (way : Nat)), some (.int (pos : Nat))]) (at_ := pos) R0 p1 r3 rfl rfl rfl rfl lp
    obtain ⟨n6, row6, s6, a6, R6, l6, r6⟩ := w6_run (Δ := [some (.obj st), some (.obj m), some (.int (S : Nat)), some (.int (k : Nat)), some (.obj s.length), y5, y6, some (.int (way : Nat)), some (.int (pos : Nat))]) R5 r5 (by omega) rfl rfl
    obtain ⟨row7, s7, a7, R7, l7, r7⟩ := w7_run (Δ := [some (.obj st), some (.obj m), some (.int (S : Nat)), some (.int (k : Nat)), some (.obj n6), y5, y6, some (.int (way : Nat)), some (.int (pos : Nat))]) (at_ := pos) R6 r6 rfl rfl rfl (by omega)
    obtain ⟨d, s8, a8, V8, r8, m8⟩ := w8_run (Δ := [some (.obj st), some (.obj m), some (.int (S : Nat)), some (.int (k : Nat)), some (.obj n6), y5, y6, some (.int (way : Nat)), some (.int (pos : Nat))]) R7 r7 (by omega) rfl rfl
    have a6' : w6s [some (.obj st), some (.obj m), some (.int (S : Nat)), some (.int (k : Nat)), some (.obj s.length), y5, y6, some (.int (way : Nat)), some (.int (pos : Nat))] s5 = some (.nx [some (.obj st), some (.obj m), some (.int (S : Nat)), some (.int (k : Nat)), some (.obj n6), y5, y6, some (.int (way : Nat)), some (.int (pos : Nat))], s6) := a6
    refine ⟨d, s8, fn_rt ?_, V8, r8, m8⟩
    rw [ds_row_eq, hs, seq_nx a1, seq_nx a2, seq_nx a3, seq_nx (no5 t4), seq_nx a5, seq_nx a6', seq_nx a7, dRet_eq, sbind_eq, a8]
end
/-! ### a comprehension whose parts are lists, each made by a call -/
theorem lists_loop {T : Type} {I : Itd} {g : DGf} {de : DX} {Δ : Dn} {s : Sto} {n : Nat} (dT : T → D) (f : T → List D) (P0 : T → Prop) (hn : n = s.length) (hst : ∀ s', Gr s s' → I.still s' = true)
    (step : ∀ t s', P0 t → Gr s s' → s.length < s'.length → ∃ Δ1 p s3, g (dT t) Δ s' = some (Δ1, s') ∧ de Δ1 s' = some (.ok (.obj p), s3) ∧ Gr s' s3 ∧ s'.length ≤ p ∧ lstAt s3 p = some (f t)) :
    ∀ (r : List T) (s' : Sto) (ps : List Nat) (dn : List T), (∀ t ∈ r, P0 t) → Gr s s' → s.length < s'.length → lstAt s' n = some (ps.map D.obj) → All2 (fun t p => lstAt s' p = some (f t) ∧ n < p) dn ps → ps.length + r.length ≤ 900 →
      ∃ s2 ps', lcRun I g dYes de n (r.map dT) Δ s' = some s2 ∧ Gr s s2 ∧ lstAt s2 n = some (ps'.map D.obj) ∧ All2 (fun t p => lstAt s2 p = some (f t) ∧ n < p) (dn ++ r) ps'
  | [], s', ps, dn, _, g, _, e, al, _ => ⟨s', ps, by simp [lcRun, hst _ g], g, e, by simpa using al⟩
  | t :: r, s', ps, dn, hP, g, hl, e, al, hz => by
    obtain ⟨Δ1, p, s3, u1, u2, u3, u4, u5⟩ := step t s' (hP t (by simp)) g hl
    have e3 := u3.lst e
    have z : (ps.map D.obj).length < sizeLine := Nat.lt_of_lt_of_le (show (ps.map D.obj).length < 1000 by rw [List.length_map]; simp at hz; omega) (le_line (by decide))
    have ht : dYes Δ1 s' = some (.ok true, s') := rfl
    have np : n < p := by omega
    have keep : ∀ q L, n < q → lstAt s3 q = some L → lstAt (s3.set n (.lst (ps.map D.obj ++ [.obj p]))) q = some L := fun q L hq hL => by
      rw [lstAt_ne (by omega)]
      exact hL
    obtain ⟨s2, ps', i1, i2, i3, i4⟩ := lists_loop dT f P0 hn hst step r (s3.set n (.lst (ps.map D.obj ++ [.obj p]))) (ps ++ [p]) (dn ++ [t]) (fun t' h' => hP t' (by simp [h'])) ((g.trans u3).set (by omega)) (by rw [List.length_set]; have := u3.len; omega) (by rw [lstAt_set e3]; simp) (all2_snoc (al.imp fun t' q h => ⟨keep q _ h.2 (u3.lst h.1), h.2⟩) ⟨keep p _ np u5, np⟩) (by rw [List.length_append, List.length_singleton]; simp at hz; omega)
    exact ⟨s2, ps', by simp [lcRun, hst _ g, u1, ht, u2, e3]; exact ⟨by simpa using z, i1⟩, i2, i3, by simpa using i4⟩
end My

set_option maxHeartbeats 4000000
namespace My
open PySem L2 PyProof.Rows DV
/-! ### onsets with their rows, the layers, whether one is wide -/
structure Os1 (S k c d : Nat) (o : Os) : Prop where
  g : Good1 S k c d o
  q : Sml o.a o.b c d
  r : (List.range (S * 2 ^ k)).filter (nearB o.a o.b c d ((2 ^ k : Nat) : Int)) = rowN o
  f : 0 ≤ o.F
theorem fr_small {a b : Nat} (h : a ≤ 100000) (h0 : 0 < b) (h1 : b ≤ 100000) : Fr (a : Int) (b : Int) := ⟨by omega, by omega, by omega, by omega⟩
theorem small64 {a : Nat} (h : a ≤ 100000) : ((a : Int)).natAbs < 2 ^ 64 := by omega
theorem os_one {S k c d : Nat} {x : D} (hS : S ≤ 16) (ho : On S x) (hc : c ≤ 2) (d0 : 0 < d) (d1 : d ≤ 24) : ∃ o : Os, x = o.d ∧ Os1 S k c d o := by
  obtain ⟨a, b, rfl, ha, b0, b1⟩ := ho
  have sb : S * b ≤ 16 * 24 := Nat.mul_le_mul hS b1
  have f1 : Fr (a : Int) (b : Int) := fr_small (by omega) b0 (by omega)
  have f2 : Fr (c : Int) (d : Int) := fr_small (by omega) d0 (by omega)
  have h1 : (a : Int) ≤ S * (b : Int) := by
    rw [← Int.natCast_mul]
    exact Int.ofNat_le.mpr ha
  exact ⟨⟨a, b, rF a b c d ((2 ^ k : Nat) : Int), rL a b c d ((2 ^ k : Nat) : Int) (S * 2 ^ k)⟩, rfl, ⟨f1, h1, rfl, rfl⟩, ⟨small64 (by omega), small64 (by omega), small64 (by omega), small64 (by omega)⟩, row_eq f1.b0 f2.b0 (lst_nn f1 f2) (S * 2 ^ k), (rF_le f1 f2 h1).1⟩
theorem os_of {S k c d : Nat} (hS : S ≤ 16) (hc : c ≤ 2) (d0 : 0 < d) (d1 : d ≤ 24) : ∀ {L : List D}, (∀ x ∈ L, On S x) → ∃ os : List Os, L = os.map Os.d ∧ ∀ o ∈ os, Os1 S k c d o
  | [], _ => ⟨[], rfl, fun o h => by cases h⟩
  | x :: L, h => by
    obtain ⟨o, rfl, h1⟩ := os_one (k := k) hS (h x (by simp)) hc d0 d1
    obtain ⟨os, rfl, h2⟩ := os_of (k := k) hS hc d0 d1 (L := L) fun y hy => h y (by simp [hy])
    exact ⟨o :: os, rfl, fun o' h' => by
      rcases List.mem_cons.mp h' with rfl | h'
      · exact h1
      · exact h2 o' h'⟩
theorem Os1.lt {S k c d : Nat} {o : Os} (h : Os1 S k c d o) : ∀ j ∈ rowN o, j < S * 2 ^ k := fun j hj => by
  rw [← h.r] at hj
  exact List.mem_range.mp (List.mem_filter.mp hj).1
theorem Os1.len {S k c d : Nat} {o : Os} (h : Os1 S k c d o) : (rowN o).length ≤ S * 2 ^ k := by
  rw [← h.r]
  have := List.length_filter_le (nearB o.a o.b c d ((2 ^ k : Nat) : Int)) (List.range (S * 2 ^ k))
  rw [List.length_range] at this
  exact this
theorem rowN_len (o : Os) : (rowN o).length = (o.E + 1 - o.F).toNat := by
  unfold rowN
  rw [List.length_map, List.length_range]
section
variable {A : Ax} {s : Sto} {S k c d : Nat} {os : List Os}
abbrev c6x (A : Ax) : DX := (dLc [16] (iSeqL (dVar 11)) (gN 16) dYes (dCl (argN 4 (M_u_law_near A)) (dCons (dVar 10) (dCons (dVar 16) (dCons (dVar 12) (dCons (dVar 5) dNil))))))
theorem lay_run {i : Nat} (hS : S ≤ 16) (hk : k ≤ 3) (e : lstAt s i = some (os.map Os.d)) (ho : ∀ o ∈ os, Os1 S k c d o) (hz : os.length ≤ 16) (x0 x1 x2 x3 x4 x6 x7 x8 x9 x13 x14 x15 x16 x17 : Option D) :
    ∃ s' ps, c6x A [x0, x1, x2, x3, x4, some (.int (k : Nat)), x6, x7, x8, x9, some (.int (S : Nat)), some (.obj i), some (frD c d), x13, x14, x15, x16, x17] s = some (.ok (.obj s.length), s') ∧ Gr s s' ∧ lstAt s' s.length = some (ps.map D.obj) ∧ All2 (fun (o : Os) p => lstAt s' p = some ((rowN o).map intD) ∧ s.length < p) os ps := by
  have hi : iSeqL (dVar 11) [x0, x1, x2, x3, x4, some (.int (k : Nat)), x6, x7, x8, x9, some (.int (S : Nat)), some (.obj i), some (frD c d), x13, x14, x15, x16, x17] s = some (.ok ⟨os.map Os.d, some (i, os.map Os.d)⟩, s) := by simp [e]
  obtain ⟨s2, ps, l1, l2, l3, l4⟩ := lists_loop (T := Os) (I := ⟨os.map Os.d, some (i, os.map Os.d)⟩) (g := gN 16) (de := (dCl (argN 4 (M_u_law_near A)) (dCons (dVar 10) (dCons (dVar 16) (dCons (dVar 12) (dCons (dVar 5) dNil)))))) (Δ := [x0, x1, x2, x3, x4, some (.int (k : Nat)), x6, x7, x8, x9, some (.int (S : Nat)), some (.obj i), some (frD c d), x13, x14, x15, none, x17]) (s := s) (n := s.length) Os.d (fun o => (rowN o).map intD) (Os1 S k c d) rfl (fun s' g => still_of (g.lst e)) (fun o s' h1 g hl => by
    obtain ⟨s3, n1, n2, n3⟩ := lnear_run A s' hS (show k ≤ 5 by omega) h1.q
    rw [h1.r] at n3
    exact ⟨[x0, x1, x2, x3, x4, some (.int (k : Nat)), x6, x7, x8, x9, some (.int (S : Nat)), some (.obj i), some (frD c d), x13, x14, x15, some o.d, x17], s'.length, s3, rfl, (cl5 (xs := [.int (S : Nat), o.d, frD c d, .int (k : Nat)]) (s1 := s') (cn (s1 := s') rfl (cn (s1 := s') rfl (cn (s1 := s') rfl (cn (s1 := s') rfl rfl))))).trans ((ag5 rfl).trans n1), n2, Nat.le_refl _, n3⟩) os (s ++ [.lst []]) [] [] ho Gr.app (by simp) lstAt_new .nil (by simp; omega)
  exact ⟨s2, ps, lc_of hi l1, l2, l3, by simpa using l4⟩
theorem max_lst {m : Nat} {ns : List Int} (e : lstAt s m = some (ns.map D.int)) (h : 0 < ns.length) : fMaxA [.obj m] s = some (.int (maxL ns), s) := by
  have m1 : f2I maxI [.obj m] s = none := rfl
  have m2 : fMaxL [.obj m] s = some (.int (maxL ns), s) := by
    unfold fMaxL fLs
    simp only [e, intsOf_map]
    rw [if_pos (decide_eq_true h)]
  unfold fMaxA fMax orN
  rw [m1, m2]
theorem foldl_gt (b : Int) : ∀ (r : List Int) (a : Int), b < r.foldl maxI a ↔ b < a ∨ ∃ n ∈ r, b < n
  | [], a => by simp
  | n :: r, a => by
    rw [List.foldl_cons, foldl_gt b r]
    have : b < maxI a n ↔ b < a ∨ b < n := by unfold maxI; split <;> omega
    rw [this]
    simp only [List.mem_cons, exists_eq_or_imp]
    exact or_assoc
theorem maxL_gt (b : Int) {ns : List Int} (h : 0 < ns.length) : b < maxL ns ↔ ∃ n ∈ ns, b < n := by
  cases ns with
  | nil => exact absurd h (by simp)
  | cons a r =>
    show b < r.foldl maxI a ↔ _
    rw [foldl_gt]
    simp only [List.mem_cons, exists_eq_or_imp]
def wideB (os : List Os) : Bool := os.any fun o => decide (40 ≤ o.E - o.F)
abbrev c7x : DX := dOp fGt (dCB fMaxA (dCons (dLc [17] (iSeqL (dVar 6)) (gN 17) dYes (dCB fLen (dCons (dVar 17) dNil))) dNil)) (dC (.int 40))
theorem wide_run {m : Nat} {ps : List Nat} (e : lstAt s m = some (ps.map D.obj)) (al : All2 (fun (o : Os) p => lstAt s p = some ((rowN o).map intD)) os ps) (h1 : 1 ≤ os.length) (hz : os.length ≤ 16) (x0 x1 x2 x3 x4 x5 x7 x8 x9 x10 x11 x12 x13 x14 x15 x16 x17 : Option D) :
    ∃ s', c7x [x0, x1, x2, x3, x4, x5, some (.obj m), x7, x8, x9, x10, x11, x12, x13, x14, x15, x16, x17] s = some (.ok (.bl (wideB os)), s') ∧ Gr s s' := by
  have hl := al.length
  have hi : iSeqL (dVar 6) [x0, x1, x2, x3, x4, x5, some (.obj m), x7, x8, x9, x10, x11, x12, x13, x14, x15, x16, x17] s = some (.ok ⟨ps.map D.obj, some (m, ps.map D.obj)⟩, s) := by simp [e]
  have al2 : All2 (fun (o : Os) d => ∃ p, d = D.obj p ∧ lstAt s p = some ((rowN o).map intD)) os (ps.map D.obj) := by
    clear hi hl e h1 hz
    induction al with
    | nil => exact .nil
    | cons h _ ih => exact .cons ⟨_, rfl, h⟩ ih
  obtain ⟨s', yss, e1, e2, e3, e4⟩ := lc_pure (I := ⟨ps.map D.obj, some (m, ps.map D.obj)⟩) (g := gN 17) (tt := dYes) (de := dCB fLen (dCons (dVar 17) dNil)) (Δ := [x0, x1, x2, x3, x4, x5, some (.obj m), x7, x8, x9, x10, x11, x12, x13, x14, x15, x16, none]) (s := s) (fun d ys => ∀ (o : Os) p, d = D.obj p → lstAt s p = some ((rowN o).map intD) → ys = [.int ((rowN o).length : Nat)]) (fun s' g => still_of (g.lst e)) (fun d s1 hd g1 => by
    obtain ⟨o, p, rfl, h2⟩ := all2_mem al2 d hd
    refine ⟨_, rfl, .inr ⟨s1, .int ((rowN o).length : Nat), s1, rfl, cb5 (s1 := s1) (cn (s1 := s1) rfl rfl) ?_, Gr.refl _, fun o' p' h' h3 => ?_⟩⟩
    · rw [fLen_obj, g1.lst h2]
      simp
    · cases h'
      rw [h2] at h3
      have h4 := congrArg List.length (Option.some.inj h3)
      rw [List.length_map, List.length_map] at h4
      rw [h4]) (le_line (by show (ps.map D.obj).length ≤ 1000; rw [List.length_map]; omega))
  have e5 : yss.flatten = os.map fun o => D.int ((rowN o).length : Nat) := all2_spec al2 e3 fun o d ys h1 h2 => by
    obtain ⟨p, q1, q2⟩ := h1
    exact h2 o p q1 q2
  have e6 : lstAt s' s.length = some ((os.map fun o => ((rowN o).length : Int)).map D.int) := by
    rw [e2, e5, List.map_map]
    rfl
  have lp : 0 < (os.map fun o => ((rowN o).length : Int)).length := by rw [List.length_map]; omega
  have eb : decide ((40 : Int) < maxL (os.map fun o => ((rowN o).length : Int))) = wideB os := by
    unfold wideB
    rw [Bool.eq_iff_iff, decide_eq_true_iff, maxL_gt 40 lp, List.any_eq_true]
    constructor
    · rintro ⟨n, hn, h⟩
      obtain ⟨o, h3, rfl⟩ := List.mem_map.mp hn
      refine ⟨o, h3, decide_eq_true ?_⟩
      rw [rowN_len] at h
      omega
    · rintro ⟨o, h3, h⟩
      refine ⟨_, List.mem_map.mpr ⟨o, h3, rfl⟩, ?_⟩
      have := of_decide_eq_true h
      rw [rowN_len]
      omega
  refine ⟨s', ?_, e4⟩
  rw [← eb]
  exact op5 (s1 := s') (s2 := s') (cb5 (cn (lc_of hi e1) rfl) (max_lst e6 lp)) rfl rfl
end
end My

set_option maxHeartbeats 4000000
namespace My
open PySem L2 PyProof.Rows DV
/-! ### what is told and what is due are one -/
structure Env (A : Ax) (n i m : Nat) (t : Tr) (os : List Os) (qs : List Nat) (s : Sto) : Prop where
  hM : MetreAt A s n t
  e1 : lstAt s i = some (os.map Os.d)
  e2 : lstAt s m = some (qs.map D.obj)
  al : All2 (fun (o : Os) q => lstAt s q = some ((rowN o).map intD)) os qs
theorem Env.gr {A : Ax} {n i m : Nat} {t : Tr} {os : List Os} {qs : List Nat} {s s' : Sto} (h : Env A n i m t os qs s) (g : Gr s s') : Env A n i m t os qs s' := ⟨ins_gr g h.hM, g.lst h.e1, g.lst h.e2, h.al.imp fun o q z => g.lst z⟩
theorem all2_with {α β : Type} {R : α → β → Prop} {Q : β → Prop} : ∀ {l : List α} {r : List β}, All2 R l r → (∀ b ∈ r, Q b) → All2 (fun a b => R a b ∧ Q b) l r
  | _, _, .nil, _ => .nil
  | _, _, .cons h t, q => .cons ⟨h, q _ (by simp)⟩ (all2_with t fun b hb => q b (by simp [hb]))
theorem Env.sm {A : Ax} {n i m st : Nat} {t : Tr} {os : List Os} {qs : List Nat} {s s' : Sto} (h : Env A n i m t os qs s) (g : Sm st s s') (hn : n ≠ st) (hi : i ≠ st) (hm : m ≠ st) (hq : ∀ q ∈ qs, q ≠ st) : Env A n i m t os qs s' := by
  refine ⟨?_, g.lst h.e1 hi, g.lst h.e2 hm, (all2_with h.al hq).imp fun o q z => g.lst z.1 z.2⟩
  have q := insAt_eq h.hM
  have l : n < s.length := (List.getElem?_eq_some_iff.mp q).1
  unfold MetreAt insAt
  rw [g.2 n l hn, q]
section
variable {A : Ax} {s : Sto} {n i m st k c d : Nat} {t : Tr} {os : List Os} {qs : List Nat}
theorem judge_small (E : Env A n i m t os qs s) (hz : t.sz ≤ 16) (hk : k ≤ 3) (f2 : Fr (c : Int) (d : Int)) (ho : ∀ o ∈ os, Os1 t.sz k c d o) (h1 : 1 ≤ os.length) (h2 : os.length ≤ 16) (hw : wideB os = false) {x : D} (rv : RowV (t.sz * 2 ^ k) k s x) :
    ∃ b s1 s2, M_u_law_right A [.obj m, x, .int (k : Nat)] s = some (.ok (.bl b), s1) ∧ Gr s s1 ∧ M_u_law_told A [.obj n, .tup [.obj i, frD c d, .int (k : Nat)], x] s1 = some (.ok (.bl b), s2) ∧ Gr s1 s2 := by
  have p8 : 2 ^ k ≤ 8 := Nat.pow_le_pow_right (n := 2) (by decide) hk
  have hB : t.sz * 2 ^ k ≤ 16 * 8 := Nat.mul_le_mul hz p8
  have small : ∀ o ∈ os, ¬ 40 ≤ o.E - o.F := fun o h z => by
    have : wideB os = true := List.any_eq_true.mpr ⟨o, h, decide_eq_true z⟩
    rw [hw] at this
    cases this
  have rows : ∀ s1, Gr s s1 → ∃ s2 ps, M_u_allowed_rows A [.obj n, .obj i, frD c d, .int (k : Nat)] s1 = some (.ok (.obj s1.length), s2) ∧ Gr s1 s2 ∧ lstAt s2 s1.length = some (ps.map D.obj) ∧ All2 (fun (o : Os) p => lstAt s2 p = some (rowP o.F o.E k)) os ps := fun s1 g =>
    (rows_many (A := A) (s := s1) (n := n) (i := i) (k := k) (x := (c : Int)) (y := (d : Int)) (ins_gr g E.hM) hz (by omega) f2 (fun o h => (ho o h).g) h1 h2 (g.lst E.e1)).2 small
  have lq := E.al.length
  rcases rv with nt | ⟨xs, rfl, hx, it⟩
  · obtain ⟨s2, ps, r1, r2, r3, r4⟩ := rows s (Gr.refl s)
    exact ⟨false, s, s2, right_a nt.isi, Gr.refl s, told_ok (hear_a r1 (nt.gr r2).isi), r2⟩
  · by_cases c : xs.length = os.length
    · obtain ⟨vs, hv⟩ := itms it
      obtain ⟨s1, q1, q2⟩ := right_c (A := A) (B := t.sz * 2 ^ k) hk (by omega) E.e2 hv E.al (fun o h => ⟨(ho o h).f, fun j hj => Nat.le_of_lt ((ho o h).lt j hj)⟩) (fun o h => by have := (ho o h).len; omega) hx (by omega)
      obtain ⟨s2, ps, r1, r2, r3, r4⟩ := rows s1 q2
      have lp := r4.length
      obtain ⟨s3, u1, u2⟩ := hear_c (B := t.sz * 2 ^ k) r1 r3 (show xs.length ≤ 900 by omega) (by omega) (ins_gr (q2.trans r2) E.hM) hk (Nat.le_refl _) ((hv.imp fun v x z => z.gr (q2.trans r2))) r4 fun o h => (ho o h).f
      exact ⟨_, s1, s3, q1, q2, told_ok u1, r2.trans u2⟩
    · obtain ⟨s2, ps, r1, r2, r3, r4⟩ := rows s (Gr.refl s)
      have lp := r4.length
      exact ⟨false, s, s2, right_b E.e2 (by omega) (by rw [List.length_map]; omega), Gr.refl s, told_ok (hear_b r1 r3 (by omega) (by omega)), r2⟩
theorem judge_wide (E : Env A n i m t os qs s) (hz : t.sz ≤ 16) (hk : k ≤ 3) (f2 : Fr (c : Int) (d : Int)) (ho : ∀ o ∈ os, Os1 t.sz k c d o) (h1 : 1 ≤ os.length) (h2 : os.length ≤ 16) (hw : wideB os = true) (x : D) :
    ∃ s2, M_u_law_told A [.obj n, .tup [.obj i, frD c d, .int (k : Nat)], x] s = some (.ok .non, s2) ∧ Gr s s2 := by
  have big : ∃ o ∈ os, 40 ≤ o.E - o.F := by
    obtain ⟨o, h, z⟩ := List.any_eq_true.mp hw
    exact ⟨o, h, of_decide_eq_true z⟩
  obtain ⟨s2, r1, r2⟩ := (rows_many (A := A) (s := s) (n := n) (i := i) (k := k) (x := (c : Int)) (y := (d : Int)) E.hM hz (by omega) f2 (fun o h => (ho o h).g) h1 h2 E.e1).1 big
  exact ⟨s2, told_x (hear_x r1 x), r2⟩
/-! ### a turn -/
end
theorem ly_of {S k c d st : Nat} {s : Sto} : ∀ {os : List Os} {qs : List Nat}, All2 (fun (o : Os) q => lstAt s q = some ((rowN o).map intD)) os qs → (∀ o ∈ os, Os1 S k c d o) → (∀ q ∈ qs, q ≠ st) → S * 2 ^ k ≤ 900 → ∀ q ∈ qs, Ly (S * 2 ^ k) s st q
  | _, _, .nil, _, _, _, q, h => by cases h
  | o :: os, q' :: qs, .cons a al, ho, hq, hz, q, h => by
    rcases List.mem_cons.mp h with rfl | h
    · exact ⟨o, a, hq q (by simp), fun j hj => (ho o (by simp)).lt j hj, by have := (ho o (by simp)).len; omega⟩
    · exact ly_of al (fun o' h' => ho o' (by simp [h'])) (fun q h => hq q (by simp [h])) hz q h
section
variable {A : Ax} {s : Sto} {n i m st k c d : Nat} {t : Tr} {os : List Os} {qs : List Nat}
abbrev t1s (A : Ax) : DS := dAsg (dCl (argN 4 (M_u_law_row A)) (dCons (dVar 3) (dCons (dVar 6) (dCons (dVar 10) (dCons (dVar 5) dNil))))) (gN 13)
abbrev t2s (A : Ax) : DS := dAsg (dIf (dTruth (dVar 7)) (dC .non) (dCl (argN 3 (M_u_law_right A)) (dCons (dVar 6) (dCons (dVar 13) (dCons (dVar 5) dNil))))) (gN 14)
abbrev t3s (A : Ax) : DS := dAsg (dCl (argN 3 (M_u_law_told A)) (dCons (dVar 9) (dCons (dTup (dCons (dVar 11) (dCons (dVar 12) (dCons (dVar 5) dNil)))) (dCons (dVar 13) dNil)))) (gN 15)
abbrev isB (j : Nat) : DX := dCB fIsi (dCons (dVar j) (dCons (dC (.ty "bool")) dNil))
abbrev t4s : DS := noS (dOr (dTest (dOp fNe (dVar 15) (dVar 14))) (dTest (dOp fNe (isB 15) (isB 14))))
abbrev turnB (A : Ax) : DS := dSeq (t1s A) (dSeq (t2s A) (dSeq (t3s A) t4s))
theorem ne_bl (b : Bool) (s : Sto) : fNe (.bl b) (.bl b) s = some (.bl false, s) := by cases b <;> rfl
theorem isi_blb (b : Bool) (s : Sto) : fIsi [.bl b, .ty "bool"] s = some (.bl true, s) := rfl
theorem isi_nob (s : Sto) : fIsi [.non, .ty "bool"] s = some (.bl false, s) := rfl
theorem ne_nn (s : Sto) : fNe .non .non s = some (.bl false, s) := rfl
theorem t4_run {Δ : Dn} {r : D} (h14 : Δ[14]? = some (some r)) (h15 : Δ[15]? = some (some r)) (hr : r = .non ∨ ∃ b, r = .bl b) : t4s Δ s = some (.nx Δ, s) := by
  have v14 : dVar 14 Δ s = some (.ok r, s) := by rw [dVar_eq, h14]
  have v15 : dVar 15 Δ s = some (.ok r, s) := by rw [dVar_eq, h15]
  rcases hr with rfl | ⟨b, rfl⟩
  · exact no5 ((or5 (te5 (op5 v15 v14 (ne_nn s)))).trans (te5 (op5 (cb5 (cn v15 (cn (s1 := s) rfl rfl)) (isi_nob s)) (cb5 (cn v14 (cn (s1 := s) rfl rfl)) (isi_nob s)) (ne_bl false s))))
  · exact no5 ((or5 (te5 (op5 v15 v14 (ne_bl b s)))).trans (te5 (op5 (cb5 (cn v15 (cn (s1 := s) rfl rfl)) (isi_blb b s)) (cb5 (cn v14 (cn (s1 := s) rfl rfl)) (isi_blb b s)) (ne_bl true s))))
theorem turn_run {K : Nat} (E : Env A n i m t os qs s) (h : Rnd s st (K + 67)) (hz : t.sz ≤ 16) (hk : k ≤ 3) (f2 : Fr (c : Int) (d : Int)) (ho : ∀ o ∈ os, Os1 t.sz k c d o) (h1 : 1 ≤ os.length) (h2 : os.length ≤ 16) (hn : n ≠ st) (hi : i ≠ st) (hm : m ≠ st) (hq : ∀ q ∈ qs, q ≠ st) (x0 x1 x2 x4 x8 x13 x14 x15 x16 x17 : Option D) :
    ∃ y13 y14 y15 s', turnB A [x0, x1, x2, some (.obj st), x4, some (.int (k : Nat)), some (.obj m), some (.bl (wideB os)), x8, some (.obj n), some (.int t.sz), some (.obj i), some (frD c d), x13, x14, x15, x16, x17] s = some (.nx [x0, x1, x2, some (.obj st), x4, some (.int (k : Nat)), some (.obj m), some (.bl (wideB os)), x8, some (.obj n), some (.int t.sz), some (.obj i), some (frD c d), y13, y14, y15, x16, x17], s') ∧ Env A n i m t os qs s' ∧ Rnd s' st K ∧ Sm st s s' := by
  have z0 := sz_pos t
  have p1 := Nat.two_pow_pos k
  have lq := E.al.length
  have hS : t.sz ≤ t.sz * 2 ^ k := Nat.le_mul_of_pos_right _ p1
  have p8 : 2 ^ k ≤ 8 := Nat.pow_le_pow_right (n := 2) (by decide) hk
  have hB : t.sz * 2 ^ k ≤ 16 * 8 := Nat.mul_le_mul hz p8
  have ly := ly_of E.al ho hq (by omega)
  obtain ⟨x, s1, a1, rv, r1, m1⟩ := row_run (A := A) (K := K) (S := t.sz) (B := t.sz * 2 ^ k) (qs := qs) (h.mono (by omega)) hk z0 hz hS E.e2 hm ly (by omega) (by omega)
  have E1 := E.sm m1 hn hi hm hq
  have b1 : t1s A [x0, x1, x2, some (.obj st), x4, some (.int (k : Nat)), some (.obj m), some (.bl (wideB os)), x8, some (.obj n), some (.int t.sz), some (.obj i), some (frD c d), x13, x14, x15, x16, x17] s = some (.nx [x0, x1, x2, some (.obj st), x4, some (.int (k : Nat)), some (.obj m), some (.bl (wideB os)), x8, some (.obj n), some (.int t.sz), some (.obj i), some (frD c d), some x, x14, x15, x16, x17], s1) :=
    asg ((cl5 (xs := [.obj st, .obj m, .int t.sz, .int (k : Nat)]) (s1 := s) (cn (s1 := s) rfl (cn (s1 := s) rfl (cn (s1 := s) rfl (cn (s1 := s) rfl rfl))))).trans ((ag5 rfl).trans a1)) rfl
  have fin : ∀ (r : D) (s2 s3 : Sto), (r = .non ∨ ∃ b, r = .bl b) → Gr s1 s2 → Gr s2 s3 →
      t2s A [x0, x1, x2, some (.obj st), x4, some (.int (k : Nat)), some (.obj m), some (.bl (wideB os)), x8, some (.obj n), some (.int t.sz), some (.obj i), some (frD c d), some x, x14, x15, x16, x17] s1 = some (.nx [x0, x1, x2, some (.obj st), x4, some (.int (k : Nat)), some (.obj m), some (.bl (wideB os)), x8, some (.obj n), some (.int t.sz), some (.obj i), some (frD c d), some x, some r, x15, x16, x17], s2) →
      M_u_law_told A [.obj n, .tup [.obj i, frD c d, .int (k : Nat)], x] s2 = some (.ok r, s3) →
      ∃ y13 y14 y15 s', turnB A [x0, x1, x2, some (.obj st), x4, some (.int (k : Nat)), some (.obj m), some (.bl (wideB os)), x8, some (.obj n), some (.int t.sz), some (.obj i), some (frD c d), x13, x14, x15, x16, x17] s = some (.nx [x0, x1, x2, some (.obj st), x4, some (.int (k : Nat)), some (.obj m), some (.bl (wideB os)), x8, some (.obj n), some (.int t.sz), some (.obj i), some (frD c d), y13, y14, y15, x16, x17], s') ∧ Env A n i m t os qs s' ∧ Rnd s' st K ∧ Sm st s s' := fun r s2 s3 hr g2 g3 b2 w => by
    have tq : dTup (dCons (dVar 11) (dCons (dVar 12) (dCons (dVar 5) dNil))) [x0, x1, x2, some (.obj st), x4, some (.int (k : Nat)), some (.obj m), some (.bl (wideB os)), x8, some (.obj n), some (.int t.sz), some (.obj i), some (frD c d), some x, some r, x15, x16, x17] s2 = some (.ok (.tup [.obj i, frD c d, .int (k : Nat)]), s2) := tp (cn (s1 := s2) rfl (cn (s1 := s2) rfl (cn (s1 := s2) rfl rfl))) (by simp)
    have b3 : t3s A [x0, x1, x2, some (.obj st), x4, some (.int (k : Nat)), some (.obj m), some (.bl (wideB os)), x8, some (.obj n), some (.int t.sz), some (.obj i), some (frD c d), some x, some r, x15, x16, x17] s2 = some (.nx [x0, x1, x2, some (.obj st), x4, some (.int (k : Nat)), some (.obj m), some (.bl (wideB os)), x8, some (.obj n), some (.int t.sz), some (.obj i), some (frD c d), some x, some r, some r, x16, x17], s3) :=
      asg ((cl5 (xs := [.obj n, .tup [.obj i, frD c d, .int (k : Nat)], x]) (s1 := s2) (cn (s1 := s2) rfl (cn tq (cn (s1 := s2) rfl rfl)))).trans ((ag5 rfl).trans w)) rfl
    have g := g2.trans g3
    refine ⟨some x, some r, some r, s3, ?_, E1.gr g, r1.gr g, m1.trans (Gr.sm g)⟩
    unfold turnB
    rw [seq_nx b1, seq_nx b2, seq_nx b3]
    exact t4_run rfl rfl hr
  cases hw : wideB os with
  | true =>
    obtain ⟨s3, w1, w2⟩ := judge_wide (A := A) E1 hz hk f2 ho h1 h2 hw x
    rw [hw] at fin
    refine fin .non s1 s3 (.inl rfl) (Gr.refl _) w2 ?_ w1
    refine asg (s1 := s1) ?_ rfl
    rw [dIf_eq, mbind_ok, show dTruth (dVar 7) [x0, x1, x2, some (.obj st), x4, some (.int (k : Nat)), some (.obj m), some (.bl true), x8, some (.obj n), some (.int t.sz), some (.obj i), some (frD c d), some x, x14, x15, x16, x17] s1 = some (.ok true, s1) from rfl]
    rfl
  | false =>
    obtain ⟨b, s2, s3, w1, w2, w3, w4⟩ := judge_small (A := A) E1 hz hk f2 ho h1 h2 hw rv
    rw [hw] at fin
    refine fin (.bl b) s2 s3 (.inr ⟨b, rfl⟩) w2 w4 ?_ w3
    refine asg (s1 := s2) ?_ rfl
    rw [dIf_eq, mbind_ok, show dTruth (dVar 7) [x0, x1, x2, some (.obj st), x4, some (.int (k : Nat)), some (.obj m), some (.bl false), x8, some (.obj n), some (.int t.sz), some (.obj i), some (frD c d), some x, x14, x15, x16, x17] s1 = some (.ok false, s1) from rfl]
    exact (cl5 (xs := [.obj m, x, .int (k : Nat)]) (s1 := s1) (cn (s1 := s1) rfl (cn (s1 := s1) rfl (cn (s1 := s1) rfl rfl)))).trans ((ag5 rfl).trans w1)
end
end My

set_option maxHeartbeats 4000000
namespace My
open PySem L2 PyProof.Rows DV
abbrev v1 (A : Ax) : DS := (dAsg (dCl (argN 2 (M_u_law_begin A)) (dCons (dVar 2) (dCons (dVar 1) dNil))) (gN 3))
abbrev v2 (A : Ax) : DS := (dAsg (dCl (argN 1 (M_u_law_tree A)) (dCons (dVar 3) dNil)) (gN 4))
abbrev v3 (A : Ax) : DS := (dAsg (dTup (dCons (dMk A.c_Metre (argN 2 (M_Metre_uu_init_ A)) (dCons (dVar 4) dNil)) (dCons (dCl (argN 1 (M_u_law_size A 4)) (dCons (dVar 4) dNil)) dNil))) (gTp 2 (gsCons (gN 9) (gsCons (gN 10) gsNil))))
abbrev v4 (A : Ax) : DS := (dAsg (dCl (argN 2 (M_u_law_draw A)) (dCons (dVar 3) (dCons (dC (.int 4)) dNil))) (gN 5))
abbrev v5 (A : Ax) : DS := (dAsg (dCl (argN 3 (M_u_law_onsets A)) (dCons (dVar 3) (dCons (dVar 10) (dCons (dC (.int 4)) dNil)))) (gTp 2 (gsCons (gN 11) (gsCons (gN 12) gsNil))))
abbrev v6 (A : Ax) : DS := dAsg (c6x A) (gN 6)
abbrev v7 : DS := dAsg c7x (gN 7)
abbrev v8 (A : Ax) : DS := dFor (iRange1 (dCons (dC (.int 12)) dNil)) (gN 8) (turnB A)
def cellB (A : Ax) : DS := dSeq (v1 A) (dSeq (v2 A) (dSeq (v3 A) (dSeq (v4 A) (dSeq (v5 A) (dSeq (v6 A) (dSeq v7 (v8 A)))))))
theorem ds_law_eq (A : Ax) : ds_law A = dSeq (dFor (iEnum (dCons (dSl fSlA (dOrT (dVar 0) (dLst (dCons (dC (.int 5)) dNil))) dNoPt (dPt (dC (.int 4)))) dNil)) (gTp 2 (gsCons (gN 1) (gsCons (gN 2) gsNil))) (cellB A)) (dRet (dC (.bl true))) := rfl
inductive CD (x0 : Option D) : Dn → Prop
  | mk (x1 x2 x3 x4 x5 x6 x7 x8 x9 x10 x11 x12 x13 x14 x15 x16 x17 : Option D) : CD x0 [x0, x1, x2, x3, x4, x5, x6, x7, x8, x9, x10, x11, x12, x13, x14, x15, x16, x17]
/-- the twelve values of a cell -/
theorem v8_run {A : Ax} {s : Sto} {n i m st k c d : Nat} {t : Tr} {os : List Os} {qs : List Nat} {K : Nat} (E : Env A n i m t os qs s) (h : Rnd s st (K + 67 * 12)) (hz : t.sz ≤ 16) (hk : k ≤ 3) (f2 : Fr (c : Int) (d : Int)) (ho : ∀ o ∈ os, Os1 t.sz k c d o) (h1 : 1 ≤ os.length) (h2 : os.length ≤ 16) (hn : n ≠ st) (hi : i ≠ st) (hm : m ≠ st) (hq : ∀ q ∈ qs, q ≠ st) (x0 x1 x2 x4 x8 x13 x14 x15 x16 x17 : Option D) :
    ∃ y8 y13 y14 y15 s', v8 A [x0, x1, x2, some (.obj st), x4, some (.int (k : Nat)), some (.obj m), some (.bl (wideB os)), x8, some (.obj n), some (.int t.sz), some (.obj i), some (frD c d), x13, x14, x15, x16, x17] s = some (.nx [x0, x1, x2, some (.obj st), x4, some (.int (k : Nat)), some (.obj m), some (.bl (wideB os)), y8, some (.obj n), some (.int t.sz), some (.obj i), some (frD c d), y13, y14, y15, x16, x17], s') ∧ Sm st s s' := by
  obtain ⟨Δ', s', a1, y8, y13, y14, y15, rfl, E', r, sm⟩ := for_gen (I := rngI 0 12) (g := gN 8) (b := turnB A)
    (fun r Δ s' => ∃ y8 y13 y14 y15 : Option D, Δ = [x0, x1, x2, some (.obj st), x4, some (.int (k : Nat)), some (.obj m), some (.bl (wideB os)), y8, some (.obj n), some (.int t.sz), some (.obj i), some (frD c d), y13, y14, y15, x16, x17] ∧ Env A n i m t os qs s' ∧ Rnd s' st (K + 67 * r.length) ∧ Sm st s s') (fun _ _ _ _ => rfl) (fun d' r Δ s' ⟨y8, y13, y14, y15, eΔ, E', r1, sm⟩ => by
      subst eΔ
      rw [List.length_cons] at r1
      obtain ⟨z13, z14, z15, s2, w1, w2, w3, w4⟩ := turn_run (K := K + 67 * r.length) E' (r1.mono (by omega)) hz hk f2 ho h1 h2 hn hi hm hq x0 x1 x2 x4 (some d') y13 y14 y15 x16 x17
      exact ⟨_, s', rfl, _, s2, w1, some d', z13, z14, z15, rfl, w2, w3, sm.trans w4⟩) (rngI 0 12).its [x0, x1, x2, some (.obj st), x4, some (.int (k : Nat)), some (.obj m), some (.bl (wideB os)), x8, some (.obj n), some (.int t.sz), some (.obj i), some (frD c d), x13, x14, x15, x16, x17] s ⟨x8, x13, x14, x15, rfl, E, by rw [rng_len]; exact h, Sm.refl _ _⟩
  exact ⟨y8, y13, y14, y15, s', for_of (range1 (k := 12) (s1 := s) rfl (by omega)) a1, sm⟩
theorem cell_turn (A : Ax) (s0 : Sto) {x0 : Option D} {Δ : Dn} (hΔ : CD x0 Δ) (i : Nat) (c : Int) (hi : i < 100) : ∃ Δ' s', cellB A ((Δ.set 1 (some (.int i))).set 2 (some (.int c))) s0 = some (.nx Δ', s') ∧ CD x0 Δ' ∧ Gr s0 s' := by
  obtain ⟨x1, x2, x3, x4, x5, x6, x7, x8, x9, x10, x11, x12, x13, x14, x15, x16, x17⟩ := hΔ
  obtain ⟨s1, a1, g1, r1⟩ := begin_asg A (s := s0) (c := c) (k := i) (i := 2) (j := 1) (g := gN 3) (Δ := [x0, some (.int i), some (.int c), x3, x4, x5, x6, x7, x8, x9, x10, x11, x12, x13, x14, x15, x16, x17]) (Δ1 := [x0, some (.int i), some (.int c), some (.obj s0.length), x4, x5, x6, x7, x8, x9, x10, x11, x12, x13, x14, x15, x16, x17]) hi rfl rfl (fun _ => rfl)
  have L1 := r1.lt
  obtain ⟨t, s2, h2, g, ht, r2, m2⟩ := ltree A (s := s1) (n := s0.length) (k := 900) (r1.mono (by decide))
  have hz := g.sz
  have hz0 := sz_pos t
  have a2 : v2 A [x0, some (.int i), some (.int c), some (.obj s0.length), x4, x5, x6, x7, x8, x9, x10, x11, x12, x13, x14, x15, x16, x17] s1 = some (.nx [x0, some (.int i), some (.int c), some (.obj s0.length), some t.d, x5, x6, x7, x8, x9, x10, x11, x12, x13, x14, x15, x16, x17], s2) := asg ((cl5 (xs := [.obj s0.length]) (s1 := s1) (cn rfl rfl)).trans ((ag5 rfl).trans h2)) rfl
  obtain ⟨s3, b1, b2, M3⟩ := make A g s2
  obtain ⟨s4, b4, b5⟩ := size A 4 t s3 (by omega) (by omega)
  have a3 : v3 A [x0, some (.int i), some (.int c), some (.obj s0.length), some t.d, x5, x6, x7, x8, x9, x10, x11, x12, x13, x14, x15, x16, x17] s2 = some (.nx [x0, some (.int i), some (.int c), some (.obj s0.length), some t.d, x5, x6, x7, x8, some (.obj s2.length), some (.int t.sz), x11, x12, x13, x14, x15, x16, x17], s4) := by
    refine asg (s1 := s4) (tp (xs := [.obj s2.length, .int t.sz]) (cn (s1 := s3) ?_ (cn ?_ rfl)) (by simp)) rfl
    · rw [dMk_eq, mbind_ok, cn (xs := []) (x := t.d) (s1 := s2) (s2 := s2) rfl rfl]
      exact b1
    · exact (cl5 (xs := [t.d]) (s1 := s3) (cn rfl rfl)).trans ((ag5 rfl).trans b4)
  obtain ⟨v, s5, hd, v0, v1, r5, m5⟩ := draw A (m := 4) (k := 899) (((r2.gr b2).gr b5).mono (by decide)) (by decide) (by decide)
  obtain ⟨k, rfl⟩ : ∃ k : Nat, v = k := ⟨v.toNat, by omega⟩
  have a4 : v4 A [x0, some (.int i), some (.int c), some (.obj s0.length), some t.d, x5, x6, x7, x8, some (.obj s2.length), some (.int t.sz), x11, x12, x13, x14, x15, x16, x17] s4 = some (.nx [x0, some (.int i), some (.int c), some (.obj s0.length), some t.d, some (.int k), x6, x7, x8, some (.obj s2.length), some (.int t.sz), x11, x12, x13, x14, x15, x16, x17], s5) := asg ((cl5 (xs := [.obj s0.length, .int 4]) (s1 := s4) (cn rfl (cn rfl rfl))).trans ((ag5 rfl).trans hd)) rfl
  obtain ⟨p, L, rc, s6, c1, c2, c3, c4, r6, m6, hp, l1, l4⟩ := onsets_run (A := A) (s := s5) (st := s0.length) (S := t.sz) (K := 850) (r5.mono (by decide)) hz0 hz
  have a5 : v5 A [x0, some (.int i), some (.int c), some (.obj s0.length), some t.d, some (.int k), x6, x7, x8, some (.obj s2.length), some (.int t.sz), x11, x12, x13, x14, x15, x16, x17] s5 = some (.nx [x0, some (.int i), some (.int c), some (.obj s0.length), some t.d, some (.int k), x6, x7, x8, some (.obj s2.length), some (.int t.sz), some (.obj p), some rc, x13, x14, x15, x16, x17], s6) := asg ((cl5 (xs := [.obj s0.length, .int t.sz, .int 4]) (s1 := s5) (cn rfl (cn rfl (cn rfl rfl)))).trans ((ag5 rfl).trans c1)) rfl
  obtain ⟨u, w, rfl, hu, w0, w1⟩ := c4
  obtain ⟨os, rfl, ho⟩ := os_of (k := k) hz hu w0 w1 c3
  rw [List.length_map] at l1 l4
  have hk : k ≤ 3 := by omega
  have f2 : Fr (u : Int) (w : Int) := fr_small (by omega) w0 (by omega)
  have n2 : s2.length ≠ s0.length := by
    have := m2.1
    omega
  have M6 : MetreAt A s6 s2.length t := by
    have q4 := insAt_eq (ins_gr b5 M3)
    have l4 : s2.length < s4.length := (List.getElem?_eq_some_iff.mp q4).1
    have q5 := m5.2 s2.length l4 n2
    have l5 : s2.length < s5.length := Nat.lt_of_lt_of_le l4 m5.1
    have q6 := m6.2 s2.length l5 n2
    unfold MetreAt insAt
    rw [q6, q5, q4]
  obtain ⟨s7, qs, d1, d2, d3, d4⟩ := lay_run (A := A) (c := u) (d := w) hz hk c2 ho (by omega) x0 (some (.int i)) (some (.int c)) (some (.obj s0.length)) (some t.d) x6 x7 x8 (some (.obj s2.length)) x13 x14 x15 x16 x17
  have a6 : v6 A [x0, some (.int i), some (.int c), some (.obj s0.length), some t.d, some (.int k), x6, x7, x8, some (.obj s2.length), some (.int t.sz), some (.obj p), some (frD u w), x13, x14, x15, x16, x17] s6 = some (.nx [x0, some (.int i), some (.int c), some (.obj s0.length), some t.d, some (.int k), some (.obj s6.length), x7, x8, some (.obj s2.length), some (.int t.sz), some (.obj p), some (frD u w), x13, x14, x15, x16, x17], s7) := asg d1 rfl
  have al := d4.imp fun o q z => z.1
  obtain ⟨s8, e1, e2⟩ := wide_run d3 al l1 (by omega) x0 (some (.int i)) (some (.int c)) (some (.obj s0.length)) (some t.d) (some (.int k)) x7 x8 (some (.obj s2.length)) (some (.int t.sz)) (some (.obj p)) (some (frD u w)) x13 x14 x15 x16 x17
  have a7 : v7 [x0, some (.int i), some (.int c), some (.obj s0.length), some t.d, some (.int k), some (.obj s6.length), x7, x8, some (.obj s2.length), some (.int t.sz), some (.obj p), some (frD u w), x13, x14, x15, x16, x17] s7 = some (.nx [x0, some (.int i), some (.int c), some (.obj s0.length), some t.d, some (.int k), some (.obj s6.length), some (.bl (wideB os)), x8, some (.obj s2.length), some (.int t.sz), some (.obj p), some (frD u w), x13, x14, x15, x16, x17], s8) := asg e1 rfl
  have lt1 := g1.len
  have lt2 := m2.1
  have lt4 := (b2.trans b5).len
  have lt5 := m5.1
  have lt6 := m6.1
  have lt7 := d2.len
  have lt8 := e2.len
  have E8 : Env A s2.length p s6.length t os qs s8 := ⟨ins_gr (d2.trans e2) M6, (d2.trans e2).lst c2, e2.lst d3, al.imp fun o q z => e2.lst z⟩
  have hq : ∀ q ∈ qs, q ≠ s0.length := fun q h => by
    have : ∀ {os : List Os} {qs : List Nat}, All2 (fun (o : Os) p => lstAt s7 p = some ((rowN o).map intD) ∧ s6.length < p) os qs → ∀ q ∈ qs, s6.length < q := by
      intro os qs al
      induction al with
      | nil => intro q h; cases h
      | cons a _ ih =>
        intro q h
        rcases List.mem_cons.mp h with rfl | h
        · exact a.2
        · exact ih q h
    have := this d4 q h
    omega
  obtain ⟨y8, y13, y14, y15, s9, a8, m9⟩ := v8_run (K := 10) E8 ((((r6.gr d2).gr e2)).mono (by omega)) hz hk f2 ho l1 (by omega) n2 (by omega) (by omega) hq x0 (some (.int i)) (some (.int c)) (some t.d) x8 x13 x14 x15 x16 x17
  have lt9 := m9.1
  refine ⟨_, s9, ?_, .mk (some (.int i)) (some (.int c)) (some (.obj s0.length)) (some t.d) (some (.int (k : Nat))) (some (.obj s6.length)) (some (.bl (wideB os))) y8 (some (.obj s2.length)) (some (.int t.sz)) (some (.obj p)) (some (frD u w)) y13 y14 y15 x16 x17, gr_old (by omega) fun j hj => ?_⟩
  · show cellB A [x0, some (.int i), some (.int c), x3, x4, x5, x6, x7, x8, x9, x10, x11, x12, x13, x14, x15, x16, x17] s0 = _
    unfold cellB
    rw [show My.v1 A = dAsg (dCl (argN 2 (M_u_law_begin A)) (dCons (dVar 2) (dCons (dVar 1) dNil))) (gN 3) from rfl, seq_nx a1, seq_nx a2, seq_nx a3, seq_nx a4, seq_nx a5, seq_nx a6, seq_nx a7]
    exact a8
  · rw [m9.2 j (by omega) (by omega), old_gr (d2.trans e2) (by omega), m6.2 j (by omega) (by omega), m5.2 j (by omega) (by omega), old_gr (b2.trans b5) (by omega), m2.2 j (by omega) (by omega), old_gr g1 hj]
theorem law_true (A : Ax) : AllTrue (M_law A) := by
  intro ns hns
  have hst : startD 18 [D.fz (ns.map D.int)] = [some (.fz (ns.map D.int)), none, none, none, none, none, none, none, none, none, none, none, none, none, none, none, none, none] := rfl
  obtain ⟨m, s, xs, h1, h2, _, h3⟩ := head_it (Δ := startD 18 [D.fz (ns.map D.int)]) (s := []) (i := 0) (d := 5) (hi := 4) hns rfl
  obtain ⟨Δ', s', q1, q2, q3, q4⟩ := for_gen (I := ⟨enumD 0 xs, some (m, xs)⟩) (g := gTp 2 (gsCons (gN 1) (gsCons (gN 2) gsNil))) (b := cellB A)
    (fun r Δ s => CD (some (.fz (ns.map D.int))) Δ ∧ lstAt s m = some xs ∧ ∀ d ∈ r, ∃ (i : Nat) (c : Int), i < 100 ∧ d = .tup [.int i, .int c])
    (fun r Δ s ⟨_, h, _⟩ => still_of h) (fun d r Δ s ⟨a1, a2, a3⟩ => by
      obtain ⟨i, c, hi, rfl⟩ := a3 d (by simp)
      obtain ⟨Δ2, s2, b1, b2, b3⟩ := cell_turn A s a1 i c hi
      exact ⟨_, s, rfl, Δ2, s2, b1, b2, b3.lst a2, fun d hd => a3 d (by simp [hd])⟩) (enumD 0 xs) (startD 18 [D.fz (ns.map D.int)]) s ⟨by rw [hst]; exact .mk _ _ _ _ _ _ _ _ _ _ _ _ _ _ _ _ _, h2, fun d hd => by
        obtain ⟨i, x, e1, e2, e3⟩ := enum_mem xs 0 d hd
        obtain ⟨c, rfl⟩ := h1.2 x e2
        exact ⟨i, c, by have := h1.1; omega, e3⟩⟩
  refine ⟨s', fn_rt ?_⟩
  rw [ds_law_eq, seq_nx (for_of h3 q1)]
  rfl
end My

namespace My
open PySem L2 PyProof.Rows DV
theorem all_mk {l : PySem.W.OpenLaw} {w : World} {K : PySem.W.Frag} {h : Heap} {mg : Str → Option Value} {fa f28 f1 f2 f3 f4 f5 f6 f7 f8 f9 f10 f11 f12 f13 f14 f15 f16 f17 f18 f19 f20 f21 f22 f23 f24 f25 f26 f27 C_Metre C_TooMany C_RhythmError o_DOTS : Addr} (X : K.In h) (G : h.Ns mainGlobals mg) (hfa : mg "law" = some (.ref fa))
    {od1 an1 od2 an2 od3 an3 od4 an4 od5 an5 od6 an6 od7 an7 od8 an8 od9 an9 od10 an10 od11 an11 od12 an12 od13 an13 od14 an14 od15 an15 od16 an16 od17 an17 od18 an18 od19 an19 od20 an20 od21 an21 od22 an22 od23 an23 od24 an24 od25 an25 od26 an26 od27 an27 od28 an28 : Option Addr} {sl1 sl2 sl3 sl4 sl5 sl6 sl7 sl8 sl9 sl10 sl11 sl12 sl13 sl14 sl15 sl16 sl17 sl18 sl19 sl20 sl21 sl22 sl23 sl24 sl25 sl26 sl27 sl28 : Array (Option Value)} {oc1 kV1 dc1 pm1 cd1 ct1 oc2 kV2 dc2 pm2 cd2 ct2 oc3 kV3 dc3 pm3 cd3 ct3 oc4 kV4 dc4 pm4 cd4 ct4 oc5 kV5 dc5 pm5 cd5 ct5 oc6 kV6 dc6 pm6 cd6 ct6 oc7 kV7 dc7 pm7 cd7 ct7 oc8 kV8 dc8 pm8 cd8 ct8 oc9 kV9 dc9 pm9 cd9 ct9 oc10 kV10 dc10 pm10 cd10 ct10 oc11 kV11 dc11 pm11 cd11 ct11 oc12 kV12 dc12 pm12 cd12 ct12 oc13 kV13 dc13 pm13 cd13 ct13 oc14 kV14 dc14 pm14 cd14 ct14 oc15 kV15 dc15 pm15 cd15 ct15 oc16 kV16 dc16 pm16 cd16 ct16 oc17 kV17 dc17 pm17 cd17 ct17 oc18 kV18 dc18 pm18 cd18 ct18 oc19 kV19 dc19 pm19 cd19 ct19 oc20 kV20 dc20 pm20 cd20 ct20 oc21 kV21 dc21 pm21 cd21 ct21 oc22 kV22 dc22 pm22 cd22 ct22 oc23 kV23 dc23 pm23 cd23 ct23 oc24 kV24 dc24 pm24 cd24 ct24 oc25 kV25 dc25 pm25 cd25 ct25 oc26 kV26 dc26 pm26 cd26 ct26 oc27 kV27 dc27 pm27 cd27 ct27 oc28 kV28 dc28 pm28 cd28 ct28 : Value}
    {nm_TooMany qn_TooMany : Str} {N_TooMany : Addr} {bs_TooMany bm_TooMany su_TooMany : List Value} {sn_TooMany : List Str} {ab_TooMany : Bool} {co_TooMany : Option Bool} {dd_TooMany : Option Addr} {k0_TooMany k1_TooMany k2_TooMany k3_TooMany k5_TooMany : Option Value}
    {tk_MOST_DEEP tk_MOST_PULSES tk_MOST_ALLOWED tk_MOST_ONSETS tk_MOST_DEPTH : Tok}
    {es_DOTS : Array DictEntry} {n_DOTS : Nat}
    (aC_Metre : PySem.W.nsIn K mainGlobals "Metre" = some (some (.ref C_Metre)))
    (pg_Metre : PySem.W.plainGet K C_Metre Str.empty = true)
    (hd_Metre : PySem.W.hasDictIn K C_Metre = true)
    (po_Metre : PySem.W.plainOver K C_Metre = true)
    (sa_Metre : PySem.W.findIn K (.ref C_Metre) "__setattr__" = some (some (.builtin "object.__setattr__")))
    (mk_Metre : PySem.W.makesIn K C_Metre = true)
    (kc_Metre : PySem.W.keepIn K (.ref C_Metre) = true)
    (n_Metre_tree : PySem.W.findIn K (.ref C_Metre) "tree" = some none)
    (n_Metre_borders : PySem.W.findIn K (.ref C_Metre) "borders" = some none)
    (n_Metre_pulses : PySem.W.findIn K (.ref C_Metre) "pulses" = some none)
    (n_Metre_depth : PySem.W.findIn K (.ref C_Metre) "depth" = some none)
    (aC_TooMany : PySem.W.nsIn K mainGlobals "TooMany" = some (some (.ref C_TooMany)))
    (sb_TooMany : PySem.W.subIn K (.ref C_TooMany) (.type "BaseException") = some true)
    (ty_TooMany : PySem.W.typeIn K (.ref C_TooMany) = some (.type "type"))
    (aC_RhythmError : PySem.W.nsIn K mainGlobals "RhythmError" = some (some (.ref C_RhythmError)))
    (sb_RhythmError : PySem.W.subIn K (.ref C_RhythmError) (.type "BaseException") = some true)
    (ty_RhythmError : PySem.W.typeIn K (.ref C_RhythmError) = some (.type "type"))
    (eg_TooMany : PySem.W.findIn K (.ref C_TooMany) "__getattribute__" = some (some (.builtin "BaseException.__getattribute__")))
    (ek_TooMany : PySem.W.findIn K (.ref C_TooMany) "__getattr__" = some none)
    (ed_TooMany : PySem.W.hasDictIn K C_TooMany = true)
    (ea_TooMany : PySem.W.findIn K (.ref C_TooMany) "__class__" = some (some (.builtin "object.__class__")))
    (em_TooMany : PySem.W.mroIn K C_TooMany (.type "object") = some true)
    (jn : PySem.W.specialIn K (.builtin "object.__class__") "__get__" = some (some (.builtin "getset_descriptor.__get__")))
    (jt : PySem.W.takesIn K (.builtin "object.__class__") = some true)
    (xi_TooMany : PySem.W.isClsIn K C_TooMany = true)
    (xs_TooMany : PySem.W.subIn K (.ref C_TooMany) (.ref C_TooMany) = some true)
    (z_abs : PySem.W.nsIn K mainGlobals "abs" = some none)
    (z_all : PySem.W.nsIn K mainGlobals "all" = some none)
    (z_bool : PySem.W.nsIn K mainGlobals "bool" = some none)
    (z_dict : PySem.W.nsIn K mainGlobals "dict" = some none)
    (z_enumerate : PySem.W.nsIn K mainGlobals "enumerate" = some none)
    (z_int : PySem.W.nsIn K mainGlobals "int" = some none)
    (z_isinstance : PySem.W.nsIn K mainGlobals "isinstance" = some none)
    (z_len : PySem.W.nsIn K mainGlobals "len" = some none)
    (z_list : PySem.W.nsIn K mainGlobals "list" = some none)
    (z_max : PySem.W.nsIn K mainGlobals "max" = some none)
    (z_min : PySem.W.nsIn K mainGlobals "min" = some none)
    (z_range : PySem.W.nsIn K mainGlobals "range" = some none)
    (z_repr : PySem.W.nsIn K mainGlobals "repr" = some none)
    (z_sorted : PySem.W.nsIn K mainGlobals "sorted" = some none)
    (z_str : PySem.W.nsIn K mainGlobals "str" = some none)
    (z_sum : PySem.W.nsIn K mainGlobals "sum" = some none)
    (z_tuple : PySem.W.nsIn K mainGlobals "tuple" = some none)
    (z_zip : PySem.W.nsIn K mainGlobals "zip" = some none)
    (g_DOTS : PySem.W.nsIn K mainGlobals "DOTS" = some (some (.ref o_DOTS)))
    (l_DOTS : K.lookup o_DOTS = some ⟨.type "dict", none, .dict es_DOTS n_DOTS, #[]⟩)
    (e_DOTS : kdB es_DOTS.toList kv_DOTS = true)
    (s_DOTS : (o_DOTS == sysModules) = false)
    (g_MOST_DEEP : PySem.W.nsIn K mainGlobals "MOST_DEEP" = some (some (.int 4 tk_MOST_DEEP)))
    (g_MOST_PULSES : PySem.W.nsIn K mainGlobals "MOST_PULSES" = some (some (.int 16 tk_MOST_PULSES)))
    (g_MOST_ALLOWED : PySem.W.nsIn K mainGlobals "MOST_ALLOWED" = some (some (.int 40 tk_MOST_ALLOWED)))
    (g_MOST_ONSETS : PySem.W.nsIn K mainGlobals "MOST_ONSETS" = some (some (.int 16 tk_MOST_ONSETS)))
    (g_MOST_DEPTH : PySem.W.nsIn K mainGlobals "MOST_DEPTH" = some (some (.int 8 tk_MOST_DEPTH)))
    (lC_TooMany : K.lookup C_TooMany = some (excClassObj nm_TooMany qn_TooMany C_TooMany N_TooMany bs_TooMany bm_TooMany true sn_TooMany su_TooMany ab_TooMany co_TooMany dd_TooMany k0_TooMany k1_TooMany k2_TooMany k3_TooMany k5_TooMany "ValueError.__new__"))
    (vC_TooMany : PySem.HandSPX.refsVE bm_TooMany = true)
    (aC2_TooMany : PySem.W.findIn K (.ref C_TooMany) "__setattr__" = some (some (.builtin "object.__setattr__")))
    (kC_TooMany : PySem.W.keepIn K (.ref C_TooMany) = true)
    (iC_TooMany : PySem.W.findIn K (.ref C_TooMany) "__init__" = some (some (.ref f28)))
    (tC_TooMany : PySem.W.typeIn K (.ref f28) = some (.type "function"))
    (nC_TooMany : PySem.W.findIn K (.ref C_TooMany) "most" = some none)
    (bs_RhythmError : PySem.W.specialIn K (.ref C_RhythmError) "__getattribute__" = some (some (.builtin "type.__getattribute__")))
    (br_RhythmError : PySem.W.readsIn K C_RhythmError (.type "type") = true)
    (bf_RhythmError : PySem.W.findCls K (.ref C_RhythmError) (.type "type") "__init__" = some (.val (.builtin "ValueError.__init__")))
    (a1 : PySem.W.nsIn K mainGlobals "is_number" = some (some (.ref f1)))
    (l1 : K.lookup f1 = some ⟨oc1, od1, .func (PySem.W.fnOf "is_number" "is_number" (defArgs s_is_number) (defBody s_is_number) (defScope s_is_number) .none kV1 dc1 pm1 an1 cd1 ct1), sl1⟩)
    (c1 : PySem.W.codeIn K cd1 "is_number" = true)
    (k1 : PySem.W.keepIn K (.ref f1) = true)
    (a2 : PySem.W.nsIn K mainGlobals "dots_of" = some (some (.ref f2)))
    (l2 : K.lookup f2 = some ⟨oc2, od2, .func (PySem.W.fnOf "dots_of" "dots_of" (defArgs s_dots_of) (defBody s_dots_of) (defScope s_dots_of) .none kV2 dc2 pm2 an2 cd2 ct2), sl2⟩)
    (c2 : PySem.W.codeIn K cd2 "dots_of" = true)
    (k2 : PySem.W.keepIn K (.ref f2) = true)
    (a3 : PySem.W.nsIn K mainGlobals "_pulses" = some (some (.ref f3)))
    (l3 : K.lookup f3 = some ⟨oc3, od3, .func (PySem.W.fnOf "_pulses" "_pulses" (defArgs s_u_pulses) (defBody s_u_pulses) (defScope s_u_pulses) .none kV3 dc3 pm3 an3 cd3 ct3), sl3⟩)
    (c3 : PySem.W.codeIn K cd3 "_pulses" = true)
    (k3 : PySem.W.keepIn K (.ref f3) = true)
    (a4 : PySem.W.nsIn K mainGlobals "is_tree" = some (some (.ref f4)))
    (l4 : K.lookup f4 = some ⟨oc4, od4, .func (PySem.W.fnOf "is_tree" "is_tree" (defArgs s_is_tree) (defBody s_is_tree) (defScope s_is_tree) .none kV4 dc4 pm4 an4 cd4 ct4), sl4⟩)
    (c4 : PySem.W.codeIn K cd4 "is_tree" = true)
    (k4 : PySem.W.keepIn K (.ref f4) = true)
    (a5 : PySem.W.nsIn K mainGlobals "_nodes" = some (some (.ref f5)))
    (l5 : K.lookup f5 = some ⟨oc5, od5, .func (PySem.W.fnOf "_nodes" "_nodes" (defArgs s_u_nodes) (defBody s_u_nodes) (defScope s_u_nodes) .none kV5 dc5 pm5 an5 cd5 ct5), sl5⟩)
    (c5 : PySem.W.codeIn K cd5 "_nodes" = true)
    (k5 : PySem.W.keepIn K (.ref f5) = true)
    (a6 : PySem.W.nsIn K mainGlobals "_borders" = some (some (.ref f6)))
    (l6 : K.lookup f6 = some ⟨oc6, od6, .func (PySem.W.fnOf "_borders" "_borders" (defArgs s_u_borders) (defBody s_u_borders) (defScope s_u_borders) .none kV6 dc6 pm6 an6 cd6 ct6), sl6⟩)
    (c6 : PySem.W.codeIn K cd6 "_borders" = true)
    (k6 : PySem.W.keepIn K (.ref f6) = true)
    (a7 : PySem.W.findIn K (.ref C_Metre) "__init__" = some (some (.ref f7)))
    (i7 : PySem.W.isFn K (.ref f7) = true)
    (l7 : K.lookup f7 = some ⟨oc7, od7, .func (PySem.W.fnOf "__init__" "Metre.__init__" (defArgs s_Metre_uu_init_) (defBody s_Metre_uu_init_) (defScope s_Metre_uu_init_) .none kV7 dc7 pm7 an7 cd7 ct7), sl7⟩)
    (c7 : PySem.W.codeIn K cd7 "Metre.__init__" = true)
    (k7 : PySem.W.keepIn K (.ref f7) = true)
    (a8 : PySem.W.nsIn K mainGlobals "is_bits" = some (some (.ref f8)))
    (l8 : K.lookup f8 = some ⟨oc8, od8, .func (PySem.W.fnOf "is_bits" "is_bits" (defArgs s_is_bits) (defBody s_is_bits) (defScope s_is_bits) .none kV8 dc8 pm8 an8 cd8 ct8), sl8⟩)
    (c8 : PySem.W.codeIn K cd8 "is_bits" = true)
    (k8 : PySem.W.keepIn K (.ref f8) = true)
    (a9 : PySem.W.findIn K (.ref C_Metre) "is_point" = some (some (.ref f9)))
    (i9 : PySem.W.isFn K (.ref f9) = true)
    (l9 : K.lookup f9 = some ⟨oc9, od9, .func (PySem.W.fnOf "is_point" "Metre.is_point" (defArgs s_Metre_is_point) (defBody s_Metre_is_point) (defScope s_Metre_is_point) .none kV9 dc9 pm9 an9 cd9 ct9), sl9⟩)
    (c9 : PySem.W.codeIn K cd9 "Metre.is_point" = true)
    (k9 : PySem.W.keepIn K (.ref f9) = true)
    (a10 : PySem.W.findIn K (.ref C_Metre) "level" = some (some (.ref f10)))
    (i10 : PySem.W.isFn K (.ref f10) = true)
    (l10 : K.lookup f10 = some ⟨oc10, od10, .func (PySem.W.fnOf "level" "Metre.level" (defArgs s_Metre_level) (defBody s_Metre_level) (defScope s_Metre_level) .none kV10 dc10 pm10 an10 cd10 ct10), sl10⟩)
    (c10 : PySem.W.codeIn K cd10 "Metre.level" = true)
    (k10 : PySem.W.keepIn K (.ref f10) = true)
    (a11 : PySem.W.nsIn K mainGlobals "point_of" = some (some (.ref f11)))
    (l11 : K.lookup f11 = some ⟨oc11, od11, .func (PySem.W.fnOf "point_of" "point_of" (defArgs s_point_of) (defBody s_point_of) (defScope s_point_of) .none kV11 dc11 pm11 an11 cd11 ct11), sl11⟩)
    (c11 : PySem.W.codeIn K cd11 "point_of" = true)
    (k11 : PySem.W.keepIn K (.ref f11) = true)
    (a12 : PySem.W.nsIn K mainGlobals "_is_fraction" = some (some (.ref f12)))
    (l12 : K.lookup f12 = some ⟨oc12, od12, .func (PySem.W.fnOf "_is_fraction" "_is_fraction" (defArgs s_u_is_fraction) (defBody s_u_is_fraction) (defScope s_u_is_fraction) .none kV12 dc12 pm12 an12 cd12 ct12), sl12⟩)
    (c12 : PySem.W.codeIn K cd12 "_is_fraction" = true)
    (k12 : PySem.W.keepIn K (.ref f12) = true)
    (a13 : PySem.W.nsIn K mainGlobals "_near" = some (some (.ref f13)))
    (l13 : K.lookup f13 = some ⟨oc13, od13, .func (PySem.W.fnOf "_near" "_near" (defArgs s_u_near) (defBody s_u_near) (defScope s_u_near) .none kV13 dc13 pm13 an13 cd13 ct13), sl13⟩)
    (c13 : PySem.W.codeIn K cd13 "_near" = true)
    (k13 : PySem.W.keepIn K (.ref f13) = true)
    (a14 : PySem.W.nsIn K mainGlobals "_allowed_rows" = some (some (.ref f14)))
    (l14 : K.lookup f14 = some ⟨oc14, od14, .func (PySem.W.fnOf "_allowed_rows" "_allowed_rows" (defArgs s_u_allowed_rows) (defBody s_u_allowed_rows) (defScope s_u_allowed_rows) .none kV14 dc14 pm14 an14 cd14 ct14), sl14⟩)
    (c14 : PySem.W.codeIn K cd14 "_allowed_rows" = true)
    (k14 : PySem.W.keepIn K (.ref f14) = true)
    (a15 : PySem.W.nsIn K mainGlobals "is_hearing" = some (some (.ref f15)))
    (l15 : K.lookup f15 = some ⟨oc15, od15, .func (PySem.W.fnOf "is_hearing" "is_hearing" (defArgs s_is_hearing) (defBody s_is_hearing) (defScope s_is_hearing) .none kV15 dc15 pm15 an15 cd15 ct15), sl15⟩)
    (c15 : PySem.W.codeIn K cd15 "is_hearing" = true)
    (k15 : PySem.W.keepIn K (.ref f15) = true)
    (a16 : PySem.W.nsIn K mainGlobals "_law_begin" = some (some (.ref f16)))
    (l16 : K.lookup f16 = some ⟨oc16, od16, .func (PySem.W.fnOf "_law_begin" "_law_begin" (defArgs s_u_law_begin) (defBody s_u_law_begin) (defScope s_u_law_begin) .none kV16 dc16 pm16 an16 cd16 ct16), sl16⟩)
    (c16 : PySem.W.codeIn K cd16 "_law_begin" = true)
    (k16 : PySem.W.keepIn K (.ref f16) = true)
    (a17 : PySem.W.nsIn K mainGlobals "_law_draw" = some (some (.ref f17)))
    (l17 : K.lookup f17 = some ⟨oc17, od17, .func (PySem.W.fnOf "_law_draw" "_law_draw" (defArgs s_u_law_draw) (defBody s_u_law_draw) (defScope s_u_law_draw) .none kV17 dc17 pm17 an17 cd17 ct17), sl17⟩)
    (c17 : PySem.W.codeIn K cd17 "_law_draw" = true)
    (k17 : PySem.W.keepIn K (.ref f17) = true)
    (a18 : PySem.W.nsIn K mainGlobals "_law_pick" = some (some (.ref f18)))
    (l18 : K.lookup f18 = some ⟨oc18, od18, .func (PySem.W.fnOf "_law_pick" "_law_pick" (defArgs s_u_law_pick) (defBody s_u_law_pick) (defScope s_u_law_pick) .none kV18 dc18 pm18 an18 cd18 ct18), sl18⟩)
    (c18 : PySem.W.codeIn K cd18 "_law_pick" = true)
    (k18 : PySem.W.keepIn K (.ref f18) = true)
    (a19 : PySem.W.nsIn K mainGlobals "_law_tree" = some (some (.ref f19)))
    (l19 : K.lookup f19 = some ⟨oc19, od19, .func (PySem.W.fnOf "_law_tree" "_law_tree" (defArgs s_u_law_tree) (defBody s_u_law_tree) (defScope s_u_law_tree) .none kV19 dc19 pm19 an19 cd19 ct19), sl19⟩)
    (c19 : PySem.W.codeIn K cd19 "_law_tree" = true)
    (k19 : PySem.W.keepIn K (.ref f19) = true)
    (a20 : PySem.W.nsIn K mainGlobals "_law_size" = some (some (.ref f20)))
    (l20 : K.lookup f20 = some ⟨oc20, od20, .func (PySem.W.fnOf "_law_size" "_law_size" (defArgs s_u_law_size) (defBody s_u_law_size) (defScope s_u_law_size) .none kV20 dc20 pm20 an20 cd20 ct20), sl20⟩)
    (c20 : PySem.W.codeIn K cd20 "_law_size" = true)
    (k20 : PySem.W.keepIn K (.ref f20) = true)
    (a21 : PySem.W.nsIn K mainGlobals "_law_point" = some (some (.ref f21)))
    (l21 : K.lookup f21 = some ⟨oc21, od21, .func (PySem.W.fnOf "_law_point" "_law_point" (defArgs s_u_law_point) (defBody s_u_law_point) (defScope s_u_law_point) .none kV21 dc21 pm21 an21 cd21 ct21), sl21⟩)
    (c21 : PySem.W.codeIn K cd21 "_law_point" = true)
    (k21 : PySem.W.keepIn K (.ref f21) = true)
    (a22 : PySem.W.nsIn K mainGlobals "_law_near" = some (some (.ref f22)))
    (l22 : K.lookup f22 = some ⟨oc22, od22, .func (PySem.W.fnOf "_law_near" "_law_near" (defArgs s_u_law_near) (defBody s_u_law_near) (defScope s_u_law_near) .none kV22 dc22 pm22 an22 cd22 ct22), sl22⟩)
    (c22 : PySem.W.codeIn K cd22 "_law_near" = true)
    (k22 : PySem.W.keepIn K (.ref f22) = true)
    (a23 : PySem.W.nsIn K mainGlobals "_law_onsets" = some (some (.ref f23)))
    (l23 : K.lookup f23 = some ⟨oc23, od23, .func (PySem.W.fnOf "_law_onsets" "_law_onsets" (defArgs s_u_law_onsets) (defBody s_u_law_onsets) (defScope s_u_law_onsets) .none kV23 dc23 pm23 an23 cd23 ct23), sl23⟩)
    (c23 : PySem.W.codeIn K cd23 "_law_onsets" = true)
    (k23 : PySem.W.keepIn K (.ref f23) = true)
    (a24 : PySem.W.nsIn K mainGlobals "_law_row" = some (some (.ref f24)))
    (l24 : K.lookup f24 = some ⟨oc24, od24, .func (PySem.W.fnOf "_law_row" "_law_row" (defArgs s_u_law_row) (defBody s_u_law_row) (defScope s_u_law_row) .none kV24 dc24 pm24 an24 cd24 ct24), sl24⟩)
    (c24 : PySem.W.codeIn K cd24 "_law_row" = true)
    (k24 : PySem.W.keepIn K (.ref f24) = true)
    (a25 : PySem.W.nsIn K mainGlobals "_law_right" = some (some (.ref f25)))
    (l25 : K.lookup f25 = some ⟨oc25, od25, .func (PySem.W.fnOf "_law_right" "_law_right" (defArgs s_u_law_right) (defBody s_u_law_right) (defScope s_u_law_right) .none kV25 dc25 pm25 an25 cd25 ct25), sl25⟩)
    (c25 : PySem.W.codeIn K cd25 "_law_right" = true)
    (k25 : PySem.W.keepIn K (.ref f25) = true)
    (a26 : PySem.W.nsIn K mainGlobals "_law_told" = some (some (.ref f26)))
    (l26 : K.lookup f26 = some ⟨oc26, od26, .func (PySem.W.fnOf "_law_told" "_law_told" (defArgs s_u_law_told) (defBody s_u_law_told) (defScope s_u_law_told) .none kV26 dc26 pm26 an26 cd26 ct26), sl26⟩)
    (c26 : PySem.W.codeIn K cd26 "_law_told" = true)
    (k26 : PySem.W.keepIn K (.ref f26) = true)
    (a27 : PySem.W.nsIn K mainGlobals "law" = some (some (.ref f27)))
    (l27 : K.lookup f27 = some ⟨oc27, od27, .func (PySem.W.fnOf "law" "law" (defArgs s_law) (defBody s_law) (defScope s_law) .none kV27 dc27 pm27 an27 cd27 ct27), sl27⟩)
    (c27 : PySem.W.codeIn K cd27 "law" = true)
    (k27 : PySem.W.keepIn K (.ref f27) = true)
    (l28 : K.lookup f28 = some ⟨oc28, od28, .func (PySem.W.fnOf "__init__" "TooMany.__init__" (defArgs s_x_TooMany) (defBody s_x_TooMany) (defScope s_x_TooMany) .none kV28 dc28 pm28 an28 cd28 ct28), sl28⟩)
    (c28 : PySem.W.codeIn K cd28 "TooMany.__init__" = true)
    (k28 : PySem.W.keepIn K (.ref f28) = true)
    : ∃ (fd : FuncData) (fM : FnD), AllTrue fM ∧ (∀ (s : Shared) (v : Value), BindsTo s fd ⟨[v], []⟩ [("_law_script", v)]) ∧ ∀ base : Heap, K.In base → base.Ns mainGlobals mg → FnG l.prog w K mg base 11 fa fd ["_law_script"] fM := by
  have e := hfa.symm.trans (PySem.W.mg_of X G a27)
  cases e
  have F1 := fun_mk (st := s_is_number) l1 c1 k1
  have b1 := F1.binds (ps := ["thing"]) fun _ _ _ _ _ _ us hl => match us, hl with | [_], _ => rfl
  have F2 := fun_mk (st := s_dots_of) l2 c2 k2
  have b2 := F2.binds (ps := ["length"]) fun _ _ _ _ _ _ us hl => match us, hl with | [_], _ => rfl
  have F3 := fun_mk (st := s_u_pulses) l3 c3 k3
  have b3 := F3.binds (ps := ["thing", "depth"]) fun _ _ _ _ _ _ us hl => match us, hl with | [_, _], _ => rfl
  have F4 := fun_mk (st := s_is_tree) l4 c4 k4
  have b4 := F4.binds (ps := ["thing"]) fun _ _ _ _ _ _ us hl => match us, hl with | [_], _ => rfl
  have F5 := fun_mk (st := s_u_nodes) l5 c5 k5
  have b5 := F5.binds (ps := ["tree", "begin", "depth"]) fun _ _ _ _ _ _ us hl => match us, hl with | [_, _, _], _ => rfl
  have F6 := fun_mk (st := s_u_borders) l6 c6 k6
  have b6 := F6.binds (ps := ["tree"]) fun _ _ _ _ _ _ us hl => match us, hl with | [_], _ => rfl
  have F7 := fun_mk (st := s_Metre_uu_init_) l7 c7 k7
  have b7 := F7.binds (ps := ["self", "tree"]) fun _ _ _ _ _ _ us hl => match us, hl with | [_, _], _ => rfl
  have F8 := fun_mk (st := s_is_bits) l8 c8 k8
  have b8 := F8.binds (ps := ["thing"]) fun _ _ _ _ _ _ us hl => match us, hl with | [_], _ => rfl
  have F9 := fun_mk (st := s_Metre_is_point) l9 c9 k9
  have b9 := F9.binds (ps := ["self", "thing"]) fun _ _ _ _ _ _ us hl => match us, hl with | [_, _], _ => rfl
  have F10 := fun_mk (st := s_Metre_level) l10 c10 k10
  have b10 := F10.binds (ps := ["self", "point"]) fun _ _ _ _ _ _ us hl => match us, hl with | [_, _], _ => rfl
  have F11 := fun_mk (st := s_point_of) l11 c11 k11
  have b11 := F11.binds (ps := ["place", "depth"]) fun _ _ _ _ _ _ us hl => match us, hl with | [_, _], _ => rfl
  have F12 := fun_mk (st := s_u_is_fraction) l12 c12 k12
  have b12 := F12.binds (ps := ["thing"]) fun _ _ _ _ _ _ us hl => match us, hl with | [_], _ => rfl
  have F13 := fun_mk (st := s_u_near) l13 c13 k13
  have b13 := F13.binds (ps := ["metre", "onset", "slip", "depth"]) fun _ _ _ _ _ _ us hl => match us, hl with | [_, _, _, _], _ => rfl
  have F14 := fun_mk (st := s_u_allowed_rows) l14 c14 k14
  have b14 := F14.binds (ps := ["metre", "onsets", "slip", "depth"]) fun _ _ _ _ _ _ us hl => match us, hl with | [_, _, _, _], _ => rfl
  have F15 := fun_mk (st := s_is_hearing) l15 c15 k15
  have b15 := F15.binds (ps := ["metre", "onsets", "slip", "depth", "thing"]) fun _ _ _ _ _ _ us hl => match us, hl with | [_, _, _, _, _], _ => rfl
  have F16 := fun_mk (st := s_u_law_begin) l16 c16 k16
  have b16 := F16.binds (ps := ["_law_cell", "_law_turn"]) fun _ _ _ _ _ _ us hl => match us, hl with | [_, _], _ => rfl
  have F17 := fun_mk (st := s_u_law_draw) l17 c17 k17
  have b17 := F17.binds (ps := ["_law_state", "_law_size_here"]) fun _ _ _ _ _ _ us hl => match us, hl with | [_, _], _ => rfl
  have F18 := fun_mk (st := s_u_law_pick) l18 c18 k18
  have b18 := F18.binds (ps := ["_law_state", "_law_items"]) fun _ _ _ _ _ _ us hl => match us, hl with | [_, _], _ => rfl
  have F19 := fun_mk (st := s_u_law_tree) l19 c19 k19
  have b19 := F19.binds (ps := ["_law_state"]) fun _ _ _ _ _ _ us hl => match us, hl with | [_], _ => rfl
  have F20 := fun_mk (st := s_u_law_size) l20 c20 k20
  have b20 := F20.binds (ps := ["_law_tree_here"]) fun _ _ _ _ _ _ us hl => match us, hl with | [_], _ => rfl
  have F21 := fun_mk (st := s_u_law_point) l21 c21 k21
  have b21 := F21.binds (ps := ["_law_spot", "_law_depth"]) fun _ _ _ _ _ _ us hl => match us, hl with | [_, _], _ => rfl
  have F22 := fun_mk (st := s_u_law_near) l22 c22 k22
  have b22 := F22.binds (ps := ["_law_size_here", "_law_onset", "_law_slip", "_law_depth"]) fun _ _ _ _ _ _ us hl => match us, hl with | [_, _, _, _], _ => rfl
  have F23 := fun_mk (st := s_u_law_onsets) l23 c23 k23
  have b23 := F23.binds (ps := ["_law_state", "_law_size_here", "_law_count"]) fun _ _ _ _ _ _ us hl => match us, hl with | [_, _, _], _ => rfl
  have F24 := fun_mk (st := s_u_law_row) l24 c24 k24
  have b24 := F24.binds (ps := ["_law_state", "_law_layers", "_law_size_here", "_law_depth"]) fun _ _ _ _ _ _ us hl => match us, hl with | [_, _, _, _], _ => rfl
  have F25 := fun_mk (st := s_u_law_right) l25 c25 k25
  have b25 := F25.binds (ps := ["_law_layers", "_law_row_here", "_law_depth"]) fun _ _ _ _ _ _ us hl => match us, hl with | [_, _, _], _ => rfl
  have F26 := fun_mk (st := s_u_law_told) l26 c26 k26
  have b26 := F26.binds (ps := ["_law_metre", "_law_asked", "_law_row_here"]) fun _ _ _ _ _ _ us hl => match us, hl with | [_, _, _], _ => rfl
  have F27 := fun_mk (st := s_law) l27 c27 k27
  have b27 := F27.binds (ps := ["_law_script"]) fun _ _ _ _ _ _ us hl => match us, hl with | [_], _ => rfl
  have F28 := fun_mk (st := s_x_TooMany) l28 c28 k28
  have b28 := F28.binds (ps := ["self", "most"]) fun _ _ _ _ _ _ us hl => match us, hl with | [_, _], _ => rfl
  have T : Tx K mg { fx_TooMany := f28, dx_TooMany := PySem.W.fnOf "__init__" "TooMany.__init__" (defArgs s_x_TooMany) (defBody s_x_TooMany) (defScope s_x_TooMany) .none kV28 dc28 pm28 an28 cd28 ct28, f_is_number := f1, f_dots_of := f2, f_u_pulses := f3, f_is_tree := f4, f_u_nodes := f5, f_u_borders := f6, f_Metre_uu_init_ := f7, f_is_bits := f8, f_Metre_is_point := f9, f_Metre_level := f10, f_point_of := f11, f_u_is_fraction := f12, f_u_near := f13, f_u_allowed_rows := f14, f_is_hearing := f15, f_u_law_begin := f16, f_u_law_draw := f17, f_u_law_pick := f18, f_u_law_tree := f19, f_u_law_size := f20, f_u_law_point := f21, f_u_law_near := f22, f_u_law_onsets := f23, f_u_law_row := f24, f_u_law_right := f25, f_u_law_told := f26, f_law := fa, c_Metre := C_Metre, c_TooMany := C_TooMany, c_RhythmError := C_RhythmError, o_DOTS := o_DOTS, d_is_number := PySem.W.fnOf "is_number" "is_number" (defArgs s_is_number) (defBody s_is_number) (defScope s_is_number) .none kV1 dc1 pm1 an1 cd1 ct1, d_dots_of := PySem.W.fnOf "dots_of" "dots_of" (defArgs s_dots_of) (defBody s_dots_of) (defScope s_dots_of) .none kV2 dc2 pm2 an2 cd2 ct2, d_u_pulses := PySem.W.fnOf "_pulses" "_pulses" (defArgs s_u_pulses) (defBody s_u_pulses) (defScope s_u_pulses) .none kV3 dc3 pm3 an3 cd3 ct3, d_is_tree := PySem.W.fnOf "is_tree" "is_tree" (defArgs s_is_tree) (defBody s_is_tree) (defScope s_is_tree) .none kV4 dc4 pm4 an4 cd4 ct4, d_u_nodes := PySem.W.fnOf "_nodes" "_nodes" (defArgs s_u_nodes) (defBody s_u_nodes) (defScope s_u_nodes) .none kV5 dc5 pm5 an5 cd5 ct5, d_u_borders := PySem.W.fnOf "_borders" "_borders" (defArgs s_u_borders) (defBody s_u_borders) (defScope s_u_borders) .none kV6 dc6 pm6 an6 cd6 ct6, d_Metre_uu_init_ := PySem.W.fnOf "__init__" "Metre.__init__" (defArgs s_Metre_uu_init_) (defBody s_Metre_uu_init_) (defScope s_Metre_uu_init_) .none kV7 dc7 pm7 an7 cd7 ct7, d_is_bits := PySem.W.fnOf "is_bits" "is_bits" (defArgs s_is_bits) (defBody s_is_bits) (defScope s_is_bits) .none kV8 dc8 pm8 an8 cd8 ct8, d_Metre_is_point := PySem.W.fnOf "is_point" "Metre.is_point" (defArgs s_Metre_is_point) (defBody s_Metre_is_point) (defScope s_Metre_is_point) .none kV9 dc9 pm9 an9 cd9 ct9, d_Metre_level := PySem.W.fnOf "level" "Metre.level" (defArgs s_Metre_level) (defBody s_Metre_level) (defScope s_Metre_level) .none kV10 dc10 pm10 an10 cd10 ct10, d_point_of := PySem.W.fnOf "point_of" "point_of" (defArgs s_point_of) (defBody s_point_of) (defScope s_point_of) .none kV11 dc11 pm11 an11 cd11 ct11, d_u_is_fraction := PySem.W.fnOf "_is_fraction" "_is_fraction" (defArgs s_u_is_fraction) (defBody s_u_is_fraction) (defScope s_u_is_fraction) .none kV12 dc12 pm12 an12 cd12 ct12, d_u_near := PySem.W.fnOf "_near" "_near" (defArgs s_u_near) (defBody s_u_near) (defScope s_u_near) .none kV13 dc13 pm13 an13 cd13 ct13, d_u_allowed_rows := PySem.W.fnOf "_allowed_rows" "_allowed_rows" (defArgs s_u_allowed_rows) (defBody s_u_allowed_rows) (defScope s_u_allowed_rows) .none kV14 dc14 pm14 an14 cd14 ct14, d_is_hearing := PySem.W.fnOf "is_hearing" "is_hearing" (defArgs s_is_hearing) (defBody s_is_hearing) (defScope s_is_hearing) .none kV15 dc15 pm15 an15 cd15 ct15, d_u_law_begin := PySem.W.fnOf "_law_begin" "_law_begin" (defArgs s_u_law_begin) (defBody s_u_law_begin) (defScope s_u_law_begin) .none kV16 dc16 pm16 an16 cd16 ct16, d_u_law_draw := PySem.W.fnOf "_law_draw" "_law_draw" (defArgs s_u_law_draw) (defBody s_u_law_draw) (defScope s_u_law_draw) .none kV17 dc17 pm17 an17 cd17 ct17, d_u_law_pick := PySem.W.fnOf "_law_pick" "_law_pick" (defArgs s_u_law_pick) (defBody s_u_law_pick) (defScope s_u_law_pick) .none kV18 dc18 pm18 an18 cd18 ct18, d_u_law_tree := PySem.W.fnOf "_law_tree" "_law_tree" (defArgs s_u_law_tree) (defBody s_u_law_tree) (defScope s_u_law_tree) .none kV19 dc19 pm19 an19 cd19 ct19, d_u_law_size := PySem.W.fnOf "_law_size" "_law_size" (defArgs s_u_law_size) (defBody s_u_law_size) (defScope s_u_law_size) .none kV20 dc20 pm20 an20 cd20 ct20, d_u_law_point := PySem.W.fnOf "_law_point" "_law_point" (defArgs s_u_law_point) (defBody s_u_law_point) (defScope s_u_law_point) .none kV21 dc21 pm21 an21 cd21 ct21, d_u_law_near := PySem.W.fnOf "_law_near" "_law_near" (defArgs s_u_law_near) (defBody s_u_law_near) (defScope s_u_law_near) .none kV22 dc22 pm22 an22 cd22 ct22, d_u_law_onsets := PySem.W.fnOf "_law_onsets" "_law_onsets" (defArgs s_u_law_onsets) (defBody s_u_law_onsets) (defScope s_u_law_onsets) .none kV23 dc23 pm23 an23 cd23 ct23, d_u_law_row := PySem.W.fnOf "_law_row" "_law_row" (defArgs s_u_law_row) (defBody s_u_law_row) (defScope s_u_law_row) .none kV24 dc24 pm24 an24 cd24 ct24, d_u_law_right := PySem.W.fnOf "_law_right" "_law_right" (defArgs s_u_law_right) (defBody s_u_law_right) (defScope s_u_law_right) .none kV25 dc25 pm25 an25 cd25 ct25, d_u_law_told := PySem.W.fnOf "_law_told" "_law_told" (defArgs s_u_law_told) (defBody s_u_law_told) (defScope s_u_law_told) .none kV26 dc26 pm26 an26 cd26 ct26, d_law := PySem.W.fnOf "law" "law" (defArgs s_law) (defBody s_law) (defScope s_law) .none kV27 dc27 pm27 an27 cd27 ct27 } := {
    F_is_number := F1
    b_is_number := b1
    m_is_number := PySem.W.mg_of X G a1
    F_dots_of := F2
    b_dots_of := b2
    m_dots_of := PySem.W.mg_of X G a2
    F_u_pulses := F3
    b_u_pulses := b3
    m_u_pulses := PySem.W.mg_of X G a3
    F_is_tree := F4
    b_is_tree := b4
    m_is_tree := PySem.W.mg_of X G a4
    F_u_nodes := F5
    b_u_nodes := b5
    m_u_nodes := PySem.W.mg_of X G a5
    F_u_borders := F6
    b_u_borders := b6
    m_u_borders := PySem.W.mg_of X G a6
    F_Metre_uu_init_ := F7
    b_Metre_uu_init_ := b7
    F_is_bits := F8
    b_is_bits := b8
    m_is_bits := PySem.W.mg_of X G a8
    F_Metre_is_point := F9
    b_Metre_is_point := b9
    me_Metre_is_point := ⟨a9, i9, k9⟩
    F_Metre_level := F10
    b_Metre_level := b10
    me_Metre_level := ⟨a10, i10, k10⟩
    F_point_of := F11
    b_point_of := b11
    m_point_of := PySem.W.mg_of X G a11
    F_u_is_fraction := F12
    b_u_is_fraction := b12
    m_u_is_fraction := PySem.W.mg_of X G a12
    F_u_near := F13
    b_u_near := b13
    m_u_near := PySem.W.mg_of X G a13
    F_u_allowed_rows := F14
    b_u_allowed_rows := b14
    m_u_allowed_rows := PySem.W.mg_of X G a14
    F_is_hearing := F15
    b_is_hearing := b15
    m_is_hearing := PySem.W.mg_of X G a15
    F_u_law_begin := F16
    b_u_law_begin := b16
    m_u_law_begin := PySem.W.mg_of X G a16
    F_u_law_draw := F17
    b_u_law_draw := b17
    m_u_law_draw := PySem.W.mg_of X G a17
    F_u_law_pick := F18
    b_u_law_pick := b18
    m_u_law_pick := PySem.W.mg_of X G a18
    F_u_law_tree := F19
    b_u_law_tree := b19
    m_u_law_tree := PySem.W.mg_of X G a19
    F_u_law_size := F20
    b_u_law_size := b20
    m_u_law_size := PySem.W.mg_of X G a20
    F_u_law_point := F21
    b_u_law_point := b21
    m_u_law_point := PySem.W.mg_of X G a21
    F_u_law_near := F22
    b_u_law_near := b22
    m_u_law_near := PySem.W.mg_of X G a22
    F_u_law_onsets := F23
    b_u_law_onsets := b23
    m_u_law_onsets := PySem.W.mg_of X G a23
    F_u_law_row := F24
    b_u_law_row := b24
    m_u_law_row := PySem.W.mg_of X G a24
    F_u_law_right := F25
    b_u_law_right := b25
    m_u_law_right := PySem.W.mg_of X G a25
    F_u_law_told := F26
    b_u_law_told := b26
    m_u_law_told := PySem.W.mg_of X G a26
    F_law := F27
    b_law := b27
    m_law := PySem.W.mg_of X G a27
    cl_Metre := ⟨pg_Metre, hd_Metre, po_Metre, sa_Metre⟩
    mc_Metre := PySem.W.mg_of X G aC_Metre
    mk_Metre := ⟨mk_Metre, a7, i7, kc_Metre⟩
    n_Metre_tree := n_Metre_tree
    n_Metre_borders := n_Metre_borders
    n_Metre_pulses := n_Metre_pulses
    n_Metre_depth := n_Metre_depth
    xi_TooMany := xi_TooMany
    xt_TooMany := ty_TooMany
    xm_RhythmError := PySem.W.mg_of X G aC_RhythmError
    xm_TooMany := PySem.W.mg_of X G aC_TooMany
    oc_TooMany := ⟨⟨_, _, _, _, _, _, _, _, _, _, _, _, _, _, _, lC_TooMany, vC_TooMany⟩, aC2_TooMany, sb_TooMany, ty_TooMany, kC_TooMany⟩
    xa_TooMany := iC_TooMany
    xt2_TooMany := tC_TooMany
    xb_TooMany := b28
    xF_TooMany := F28
    xn_TooMany := nC_TooMany
    bi_RhythmError := ⟨bs_RhythmError, br_RhythmError, bf_RhythmError⟩
    xf_TooMany_most := ⟨⟨eg_TooMany, ek_TooMany, sb_TooMany, ed_TooMany⟩, nC_TooMany⟩
    ix_TooMany_TooMany := ⟨⟨eg_TooMany, ek_TooMany, sb_TooMany, ed_TooMany, ea_TooMany, jn, jt, em_TooMany⟩, kit1 xi_TooMany ty_TooMany xs_TooMany xs_TooMany⟩
    xx_TooMany_TooMany := exm1 sb_TooMany ed_TooMany ty_TooMany xs_TooMany
    z_abs := PySem.W.mg_none_of X G z_abs
    z_all := PySem.W.mg_none_of X G z_all
    z_bool := PySem.W.mg_none_of X G z_bool
    z_dict := PySem.W.mg_none_of X G z_dict
    z_enumerate := PySem.W.mg_none_of X G z_enumerate
    z_int := PySem.W.mg_none_of X G z_int
    z_isinstance := PySem.W.mg_none_of X G z_isinstance
    z_len := PySem.W.mg_none_of X G z_len
    z_list := PySem.W.mg_none_of X G z_list
    z_max := PySem.W.mg_none_of X G z_max
    z_min := PySem.W.mg_none_of X G z_min
    z_range := PySem.W.mg_none_of X G z_range
    z_repr := PySem.W.mg_none_of X G z_repr
    z_sorted := PySem.W.mg_none_of X G z_sorted
    z_str := PySem.W.mg_none_of X G z_str
    z_sum := PySem.W.mg_none_of X G z_sum
    z_tuple := PySem.W.mg_none_of X G z_tuple
    z_zip := PySem.W.mg_none_of X G z_zip
    g_DOTS := PySem.W.mg_of X G g_DOTS
    k_DOTS := ⟨⟨es_DOTS, n_DOTS, l_DOTS, e_DOTS⟩, s_DOTS⟩
    g_MOST_DEEP := ⟨_, PySem.W.mg_of X G g_MOST_DEEP⟩
    g_MOST_PULSES := ⟨_, PySem.W.mg_of X G g_MOST_PULSES⟩
    g_MOST_ALLOWED := ⟨_, PySem.W.mg_of X G g_MOST_ALLOWED⟩
    g_MOST_ONSETS := ⟨_, PySem.W.mg_of X G g_MOST_ONSETS⟩
    g_MOST_DEPTH := ⟨_, PySem.W.mg_of X G g_MOST_DEPTH⟩
  }
  exact ⟨_, _, law_true _, fun s v => .of_eq rfl, fun base _ _ => ok_law T⟩

end My
open PySem L2 PyProof.Rows DV
set_option maxRecDepth 100000 in
set_option maxHeartbeats 0 in
theorem PySem.Challenge.cw_barscribe_k51_hearings_judged_holds : PySem.Challenge.rw_barscribe_k51_hearings_judged.Holds := by
  w_on; o_law; k_head; (case hw => w_witness2)
  k_fill
  refine DV.walk_top (l := PySem.Challenge.rw_barscribe_k51_hearings_judged) (k := 11) (x := "_law_script") rfl rfl ⟨⟨rfl, by decide, by decide⟩, rfl⟩ (fun w h Y => PySem.W.kIn_of Y) ?F
  case F =>
    intro w mg fa h KX G hmg
    refine' My.all_mk KX G hmg ?aC_Metre ?pg_Metre ?hd_Metre ?po_Metre ?sa_Metre ?mk_Metre ?kc_Metre ?n_Metre_tree ?n_Metre_borders ?n_Metre_pulses ?n_Metre_depth ?aC_TooMany ?sb_TooMany ?ty_TooMany ?aC_RhythmError ?sb_RhythmError ?ty_RhythmError ?eg_TooMany ?ek_TooMany ?ed_TooMany ?ea_TooMany ?em_TooMany ?jn ?jt ?xi_TooMany ?xs_TooMany ?z_abs ?z_all ?z_bool ?z_dict ?z_enumerate ?z_int ?z_isinstance ?z_len ?z_list ?z_max ?z_min ?z_range ?z_repr ?z_sorted ?z_str ?z_sum ?z_tuple ?z_zip ?g_DOTS ?l_DOTS ?e_DOTS ?s_DOTS ?g_MOST_DEEP ?g_MOST_PULSES ?g_MOST_ALLOWED ?g_MOST_ONSETS ?g_MOST_DEPTH ?lC_TooMany ?vC_TooMany ?aC2_TooMany ?kC_TooMany ?iC_TooMany ?tC_TooMany ?nC_TooMany ?bs_RhythmError ?br_RhythmError ?bf_RhythmError ?a1 ?l1 ?c1 ?k1 ?a2 ?l2 ?c2 ?k2 ?a3 ?l3 ?c3 ?k3 ?a4 ?l4 ?c4 ?k4 ?a5 ?l5 ?c5 ?k5 ?a6 ?l6 ?c6 ?k6 ?a7 ?i7 ?l7 ?c7 ?k7 ?a8 ?l8 ?c8 ?k8 ?a9 ?i9 ?l9 ?c9 ?k9 ?a10 ?i10 ?l10 ?c10 ?k10 ?a11 ?l11 ?c11 ?k11 ?a12 ?l12 ?c12 ?k12 ?a13 ?l13 ?c13 ?k13 ?a14 ?l14 ?c14 ?k14 ?a15 ?l15 ?c15 ?k15 ?a16 ?l16 ?c16 ?k16 ?a17 ?l17 ?c17 ?k17 ?a18 ?l18 ?c18 ?k18 ?a19 ?l19 ?c19 ?k19 ?a20 ?l20 ?c20 ?k20 ?a21 ?l21 ?c21 ?k21 ?a22 ?l22 ?c22 ?k22 ?a23 ?l23 ?c23 ?k23 ?a24 ?l24 ?c24 ?k24 ?a25 ?l25 ?c25 ?k25 ?a26 ?l26 ?c26 ?k26 ?a27 ?l27 ?c27 ?k27 ?l28 ?c28 ?k28
    (case aC_Metre => k_is)
    (case pg_Metre => k_is)
    (case hd_Metre => k_is)
    (case po_Metre => k_is)
    (case sa_Metre => k_is)
    (case mk_Metre => k_is)
    (case kc_Metre => k_is)
    (case n_Metre_tree => k_is)
    (case n_Metre_borders => k_is)
    (case n_Metre_pulses => k_is)
    (case n_Metre_depth => k_is)
    (case aC_TooMany => k_is)
    (case sb_TooMany => k_is)
    (case ty_TooMany => k_is)
    (case aC_RhythmError => k_is)
    (case sb_RhythmError => k_is)
    (case ty_RhythmError => k_is)
    (case eg_TooMany => k_is)
    (case ek_TooMany => k_is)
    (case ed_TooMany => k_is)
    (case ea_TooMany => k_is)
    (case em_TooMany => k_is)
    (case jn => k_is)
    (case jt => k_is)
    (case xi_TooMany => k_is)
    (case xs_TooMany => k_is)
    (case z_abs => k_is)
    (case z_all => k_is)
    (case z_bool => k_is)
    (case z_dict => k_is)
    (case z_enumerate => k_is)
    (case z_int => k_is)
    (case z_isinstance => k_is)
    (case z_len => k_is)
    (case z_list => k_is)
    (case z_max => k_is)
    (case z_min => k_is)
    (case z_range => k_is)
    (case z_repr => k_is)
    (case z_sorted => k_is)
    (case z_str => k_is)
    (case z_sum => k_is)
    (case z_tuple => k_is)
    (case z_zip => k_is)
    (case g_DOTS => k_is)
    (case l_DOTS => k_is)
    (case e_DOTS => decide +kernel)
    (case s_DOTS => decide)
    (case g_MOST_DEEP => k_is)
    (case g_MOST_PULSES => k_is)
    (case g_MOST_ALLOWED => k_is)
    (case g_MOST_ONSETS => k_is)
    (case g_MOST_DEPTH => k_is)
    (case lC_TooMany => k_is)
    (case vC_TooMany => rfl)
    (case aC2_TooMany => k_is)
    (case kC_TooMany => k_is)
    (case iC_TooMany => k_is)
    (case tC_TooMany => k_is)
    (case nC_TooMany => k_is)
    (case bs_RhythmError => k_is)
    (case br_RhythmError => k_is)
    (case bf_RhythmError => k_is)
    (case a1 => k_is)
    (case l1 => k_is)
    (case c1 => k_is)
    (case k1 => k_is)
    (case a2 => k_is)
    (case l2 => k_is)
    (case c2 => k_is)
    (case k2 => k_is)
    (case a3 => k_is)
    (case l3 => k_is)
    (case c3 => k_is)
    (case k3 => k_is)
    (case a4 => k_is)
    (case l4 => k_is)
    (case c4 => k_is)
    (case k4 => k_is)
    (case a5 => k_is)
    (case l5 => k_is)
    (case c5 => k_is)
    (case k5 => k_is)
    (case a6 => k_is)
    (case l6 => k_is)
    (case c6 => k_is)
    (case k6 => k_is)
    (case a7 => k_is)
    (case i7 => k_is)
    (case l7 => k_is)
    (case c7 => k_is)
    (case k7 => k_is)
    (case a8 => k_is)
    (case l8 => k_is)
    (case c8 => k_is)
    (case k8 => k_is)
    (case a9 => k_is)
    (case i9 => k_is)
    (case l9 => k_is)
    (case c9 => k_is)
    (case k9 => k_is)
    (case a10 => k_is)
    (case i10 => k_is)
    (case l10 => k_is)
    (case c10 => k_is)
    (case k10 => k_is)
    (case a11 => k_is)
    (case l11 => k_is)
    (case c11 => k_is)
    (case k11 => k_is)
    (case a12 => k_is)
    (case l12 => k_is)
    (case c12 => k_is)
    (case k12 => k_is)
    (case a13 => k_is)
    (case l13 => k_is)
    (case c13 => k_is)
    (case k13 => k_is)
    (case a14 => k_is)
    (case l14 => k_is)
    (case c14 => k_is)
    (case k14 => k_is)
    (case a15 => k_is)
    (case l15 => k_is)
    (case c15 => k_is)
    (case k15 => k_is)
    (case a16 => k_is)
    (case l16 => k_is)
    (case c16 => k_is)
    (case k16 => k_is)
    (case a17 => k_is)
    (case l17 => k_is)
    (case c17 => k_is)
    (case k17 => k_is)
    (case a18 => k_is)
    (case l18 => k_is)
    (case c18 => k_is)
    (case k18 => k_is)
    (case a19 => k_is)
    (case l19 => k_is)
    (case c19 => k_is)
    (case k19 => k_is)
    (case a20 => k_is)
    (case l20 => k_is)
    (case c20 => k_is)
    (case k20 => k_is)
    (case a21 => k_is)
    (case l21 => k_is)
    (case c21 => k_is)
    (case k21 => k_is)
    (case a22 => k_is)
    (case l22 => k_is)
    (case c22 => k_is)
    (case k22 => k_is)
    (case a23 => k_is)
    (case l23 => k_is)
    (case c23 => k_is)
    (case k23 => k_is)
    (case a24 => k_is)
    (case l24 => k_is)
    (case c24 => k_is)
    (case k24 => k_is)
    (case a25 => k_is)
    (case l25 => k_is)
    (case c25 => k_is)
    (case k25 => k_is)
    (case a26 => k_is)
    (case l26 => k_is)
    (case c26 => k_is)
    (case k26 => k_is)
    (case a27 => k_is)
    (case l27 => k_is)
    (case c27 => k_is)
    (case k27 => k_is)
    (case l28 => k_is)
    (case c28 => k_is)
    (case k28 => k_is)

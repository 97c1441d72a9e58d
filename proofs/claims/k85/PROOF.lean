import PyProof.Rows.All
import Wide.All
import OpenK.AllK
import Wide.FinOn
import HandS.ExcCtx
import HandS.ForMost
import HandS.ForExc
import HandS.AnyAll
import HandS.Deep
import HandS.Wide
import HandS.TupAny
import HandS.IsInst
import PyProof.DictKinds
import HandS.DictComp
import HandS.Lambda
import KE.SortData
import HandS.GenList
import HandS.Conv
import HandS.EndTab
import HandS.TupLe
import KE.GoesEnum
import KE.DataMinKey
import KE.KLam
import KE.DataMinMax
import HandS.SetFor
import HandS.Strs
import KE.KExcIs
import KE.KTupSum
import KE.KExcPX
import KE.KExcInit
import KE.KExcSuper
import OpenK.KCls
import HandS.HotCalls
import HandS.SortKw
import KE.GoesEnumKw
import KE.KDictDisplayH
import HandS.NamedTupSort
import HandS.SetBool
import HandS.TupSets
import HandS.RepeatKit
import HandS.MapObj
import PyProof.ListNew
import PyProof.Rows.SortShell
import HandS.ExcValue
import HandS.ExcInit
import PyProof.AutoListH
import PyProof.ListIndexOut
import PySem.Challenge.RW_takersrest_k85_round_game_and_rings
set_option Elab.async false
set_option linter.all false
set_option maxRecDepth 100000
set_option maxHeartbeats 1000000
namespace PD
open PySem PySem.Spec PyProof.Rows L2
structure Ex where
  cls : Addr
  fs : List (Str × PyData)
inductive R (α : Type) where
  | ok (a : α)
  | exc (e : Ex)
  | bad
def R.bind {α β : Type} (x : R α) (f : α → R β) : R β := match x with
  | .ok a => f a
  | .exc e => .exc e
  | .bad => .bad
instance : Monad R where
  pure := .ok
  bind := R.bind
@[simp] theorem R.bind_ok {α β : Type} (a : α) (f : α → R β) : (R.ok a >>= f) = f a := rfl
@[simp] theorem R.bind_exc {α β : Type} (e : Ex) (f : α → R β) : ((R.exc e : R α) >>= f) = R.exc e := rfl
@[simp] theorem R.bind_bad {α β : Type} (f : α → R β) : ((R.bad : R α) >>= f) = R.bad := rfl
@[simp] theorem R.pure_eq {α : Type} (a : α) : (pure a : R α) = R.ok a := rfl
/-- the table of a code object at P: what it tells are code objects that are known -/
def TabC (H : Hp) (P : Addr) : Prop := ∃ ps : Array Value, H P = some (.tbl ps) ∧ TriplesOk ps.toList ∧ ∀ (pos : Pos) (cv : Value), codeAmong pos ps.toList = some cv → ∃ c q, cv = .ref c ∧ H c = some (LamX.CodeO c q)
theorem TabC.mono {H H' : Hp} {b : Addr} (t : TabC H b) (e : ∀ ps, H b = some (.tbl ps) → H' b = some (.tbl ps)) (k : ∀ c q, H c = some (LamX.CodeO c q) → H' c = some (LamX.CodeO c q)) : TabC H' b := by
  obtain ⟨ps, h, z, q⟩ := t
  refine ⟨ps, e ps h, z, fun pos cv hc => ?_⟩
  obtain ⟨c, n, e1, e2⟩ := q pos cv hc
  exact ⟨c, n, e1, k c n e2⟩
theorem TabC.nil {H : Hp} {b : Addr} (h : H b = some (.tbl #[])) : TabC H b := ⟨#[], h, True.intro, fun pos cv hc => by
  have z : codeAmong pos [] = some cv := hc
  simp [codeAmong] at z⟩
/-- an object that is no code object and no table -/
def Plain (o : HO) : Prop := (∀ c q, o ≠ LamX.CodeO c q) ∧ ∀ ps, o ≠ .tbl ps
theorem plain_lst (l : List V) : Plain (.lst l) := ⟨fun _ _ h => (by unfold LamX.CodeO at h; cases h), fun _ h => (by cases h)⟩
structure Ext (H H' : Hp) : Prop where
  keep : ∀ b o, H b = some o → (∀ ps, o ≠ .tbl ps) → H' b = some o
  tab : ∀ b, TabC H b → TabC H' b
  al : ∀ b, H b ≠ none → H' b ≠ none
theorem Ext.refl (H : Hp) : Ext H H := ⟨fun _ _ h _ => h, fun _ h => h, fun _ h => h⟩
theorem Ext.trans {H H1 H2 : Hp} (a : Ext H H1) (b : Ext H1 H2) : Ext H H2 :=
  ⟨fun c o h n => b.keep c o (a.keep c o h n) n, fun c h => b.tab c (a.tab c h), fun c h => b.al c (a.al c h)⟩
theorem Ext.new {H : Hp} {p : Addr} {o : HO} (h : H p = none) : Ext H (upd H p o) := by
  refine ⟨fun b x e n => ?_, fun b t => ?_, fun b e => ?_⟩
  · rw [upd_ne (ne_of_none e h)]; exact e
  · exact t.mono (fun ps e => by rw [upd_ne (ne_of_none e h)]; exact e) fun c q e => by rw [upd_ne (ne_of_none e h)]; exact e
  · by_cases hb : b = p
    · rw [hb, upd_same]; simp
    · rw [upd_ne hb]; exact e
/-- the heap without the addresses O -/
def hide (O : List Addr) (H : Hp) : Hp := fun b => if b ∈ O then none else H b
theorem hide_out {O : List Addr} {H : Hp} {b : Addr} (h : b ∉ O) : hide O H b = H b := by unfold hide; rw [if_neg h]
theorem hide_some {O : List Addr} {H : Hp} {b : Addr} {o : HO} (h : hide O H b = some o) : b ∉ O ∧ H b = some o := by
  unfold hide at h
  split at h
  · cases h
  · exact ⟨by assumption, h⟩
/-- what reading data leans on -/
def Sub (G G' : Hp) : Prop := ∀ b o, G b = some o → (∀ ps, o ≠ .tbl ps) → G' b = some o
theorem Sub.trans {G G1 G2 : Hp} (a : Sub G G1) (b : Sub G1 G2) : Sub G G2 := fun c o h n => b c o (a c o h n) n
theorem Sub.ext {H H' : Hp} (e : Ext H H') : Sub H H' := e.keep
theorem Sub.hide {O : List Addr} {H H' : Hp} (e : Sub H H') : Sub (hide O H) (PD.hide O H') := fun b o h n => by
  obtain ⟨h1, h2⟩ := hide_some h
  rw [hide_out h1]
  exact e b o h2 n
theorem Sub.less {O O' : List Addr} {H : Hp} (e : ∀ b ∈ O', b ∈ O) : Sub (PD.hide O H) (PD.hide O' H) := fun b o h n => by
  obtain ⟨h1, h2⟩ := hide_some h
  rw [hide_out fun m => h1 (e b m)]
  exact h2
theorem Sub.unhide {O : List Addr} {H : Hp} : Sub (PD.hide O H) H := fun b o h n => (hide_some h).2
theorem Sub.sqL {K : PySem.W.Frag} {G G' : Hp} {a : Addr} {xs : List V} (s : Sub G G') (h : SqL K G a xs) : SqL K G' a xs := by
  rcases h with (h | ⟨o, h⟩) | h
  · exact .inl (.inl (s _ _ h fun _ q => by cases q))
  · exact .inl (.inr ⟨o, s _ _ h fun _ q => by cases q⟩)
  · exact .inr h
theorem Sub.sqT {K : PySem.W.Frag} {G G' : Hp} {a : Addr} {xs : List V} (s : Sub G G') (h : SqT K G a xs) : SqT K G' a xs := by
  rcases h with (h | ⟨o, h⟩) | h
  · exact .inl (.inl (s _ _ h fun _ q => by cases q))
  · exact .inl (.inr ⟨o, s _ _ h fun _ q => by cases q⟩)
  · exact .inr h
abbrev ikt (P : Program) (w : World) : HeapKind P w (List Int) := tupleKind (intKind P w)
def dctO (a : Addr) (ep : Nat) (xs : List (List Int × Addr)) : HO := .ext fun h => (a == sysModules) = false ∧ xs.length ≤ sizeLine ∧ (xs.map (·.1)).Nodup ∧
  ∃ o es, h.get? a = some o ∧ o.ExactDict ∧ o.data = .dict es ep ∧ ∀ (P : Program) (w : World), es.toList = xs.map fun x => entryOfKey (ikt P w) (x.1, x.2, .bool true)
def dctE (x : List Int × Addr) : PyData × PyData := (.tuple (x.1.map .int), .bool true)
mutual
def nod : PyData → Bool
  | .none | .bool _ | .int _ | .str _ => true
  | .list xs | .tuple xs => nodAll xs
  | .dict _ => false
def nodAll : List PyData → Bool
  | [] => true
  | x :: xs => nod x && nodAll xs
end
mutual
theorem nod_of_lay : ∀ {d : PyData}, d.canLay0 = true → nod d = true
  | .none, _ => rfl
  | .bool _, _ => rfl
  | .int _, _ => rfl
  | .str _, _ => rfl
  | .list xs, h => nodAll_of_lay (xs := xs) h
  | .tuple xs, h => nodAll_of_lay (xs := xs) h
  | .dict _, h => by cases h
theorem nodAll_of_lay : ∀ {xs : List PyData}, PyData.canLayAll0 xs = true → nodAll xs = true
  | [], _ => rfl
  | x :: xs, h => by
    have h : (x.canLay0 && PyData.canLayAll0 xs) = true := h
    show (nod x && nodAll xs) = true
    rw [Bool.and_eq_true] at h ⊢
    exact ⟨nod_of_lay h.1, nodAll_of_lay h.2⟩
end
mutual
inductive Rp (K : PySem.W.Frag) (G : Hp) : V → PyData → Prop
  | non : Rp K G .non .none
  | bl (b : Bool) : Rp K G (.bl b) (.bool b)
  | int (i : Int) : Rp K G (.int i) (.int i)
  | str (x : Str) : Rp K G (.str x) (.str x)
  | lst {a : Addr} {xs : List V} {ds : List PyData} : SqL K G a xs → ds.length ≤ sizeLine → RpAll K G xs ds → Rp K G (.ref a) (.list ds)
  | tup {a : Addr} {xs : List V} {ds : List PyData} : SqT K G a xs → ds.length ≤ sizeLine → RpAll K G xs ds → Rp K G (.ref a) (.tuple ds)
  | dct {a : Addr} {ep : Nat} {xs : List (List Int × Addr)} : G a = some (dctO a ep xs) → (∀ x ∈ xs, SqT K G x.2 (x.1.map V.int)) → Rp K G (.ref a) (.dict (xs.map dctE))
inductive RpAll (K : PySem.W.Frag) (G : Hp) : List V → List PyData → Prop
  | nil : RpAll K G [] []
  | cons {v : V} {vs : List V} {d : PyData} {ds : List PyData} : Rp K G v d → RpAll K G vs ds → RpAll K G (v :: vs) (d :: ds)
end
section
variable {K : PySem.W.Frag} {G G' : Hp}
mutual
theorem Rp.mono (s : Sub G G') : ∀ {d : PyData} {v : V}, Rp K G v d → Rp K G' v d
  | .none, _, h => by cases h; exact .non
  | .bool _, _, h => by cases h; exact .bl _
  | .int _, _, h => by cases h; exact .int _
  | .str _, _, h => by cases h; exact .str _
  | .list _, _, h => by
    cases h with
    | lst a z b => exact .lst (s.sqL a) z (RpAll.mono s b)
  | .tuple _, _, h => by
    cases h with
    | tup a z b => exact .tup (s.sqT a) z (RpAll.mono s b)
  | .dict _, _, h => by
    cases h with
    | dct a b => exact .dct (s _ _ a (fun _ q => by cases q)) fun x hx => s.sqT (b x hx)
theorem RpAll.mono (s : Sub G G') : ∀ {ds : List PyData} {vs : List V}, RpAll K G vs ds → RpAll K G' vs ds
  | [], _, h => by cases h; exact .nil
  | _ :: _, _, h => by
    cases h with
    | cons a b => exact .cons (Rp.mono s a) (RpAll.mono s b)
end
mutual
theorem Rp.dp : ∀ {d : PyData} {v : V}, Rp K G v d → nod d = true → Dp K G v d
  | .none, _, h, _ => by cases h; exact .non
  | .bool _, _, h, _ => by cases h; exact .bl _
  | .int _, _, h, _ => by cases h; exact .int _
  | .str _, _, h, _ => by cases h; exact .str _
  | .list _, _, h, n => by
    cases h with
    | lst a z b => exact .lst a (RpAll.dp b n)
  | .tuple _, _, h, n => by
    cases h with
    | tup a z b => exact .tup a (RpAll.dp b n)
  | .dict _, _, h, n => by cases n
theorem RpAll.dp : ∀ {ds : List PyData} {vs : List V}, RpAll K G vs ds → nodAll ds = true → DpAll K G vs ds
  | [], _, h, _ => by cases h; exact .nil
  | d :: ds, _, h, n => by
    have n : (nod d && nodAll ds) = true := n
    rw [Bool.and_eq_true] at n
    cases h with
    | cons a b => exact .cons (Rp.dp a n.1) (RpAll.dp b n.2)
end
mutual
theorem Rp.shaped : ∀ {d : PyData} {v : V}, Rp K G v d → True := fun _ => trivial
end
theorem RpAll.length : ∀ {vs : List V} {ds : List PyData}, RpAll K G vs ds → vs.length = ds.length
  | _, _, .nil => rfl
  | _, _, .cons _ t => by simp [RpAll.length t]
theorem RpAll.get : ∀ {vs : List V} {ds : List PyData} {i : Nat} {v : V}, RpAll K G vs ds → vs[i]? = some v → ∃ d, ds[i]? = some d ∧ Rp K G v d
  | _, _, _, _, .nil, h => by simp at h
  | _, _, 0, _, .cons r _, h => by simp at h; subst h; exact ⟨_, rfl, r⟩
  | _, _, i + 1, _, .cons _ t, h => by
    obtain ⟨d, h1, h2⟩ := RpAll.get (i := i) t (by simpa using h)
    exact ⟨d, by simpa using h1, h2⟩
theorem RpAll.get' : ∀ {vs : List V} {ds : List PyData} {i : Nat} {d : PyData}, RpAll K G vs ds → ds[i]? = some d → ∃ v, vs[i]? = some v ∧ Rp K G v d
  | _, _, _, _, .nil, h => by simp at h
  | _, _, 0, _, .cons r _, h => by simp at h; subst h; exact ⟨_, rfl, r⟩
  | _, _, i + 1, _, .cons _ t, h => by
    obtain ⟨d, h1, h2⟩ := RpAll.get' (i := i) t (by simpa using h)
    exact ⟨d, by simpa using h1, h2⟩
theorem RpAll.append : ∀ {vs ws : List V} {ds es : List PyData}, RpAll K G vs ds → RpAll K G ws es → RpAll K G (vs ++ ws) (ds ++ es)
  | _, _, _, _, .nil, q => q
  | _, _, _, _, .cons r t, q => .cons r (RpAll.append t q)
theorem RpAll.one {v : V} {d : PyData} (h : Rp K G v d) : RpAll K G [v] [d] := .cons h .nil
theorem RpAll.take : ∀ {vs : List V} {ds : List PyData} (n : Nat), RpAll K G vs ds → RpAll K G (vs.take n) (ds.take n)
  | _, _, 0, _ => .nil
  | _, _, _ + 1, .nil => .nil
  | _, _, n + 1, .cons r t => .cons r (RpAll.take n t)
theorem RpAll.drop : ∀ {vs : List V} {ds : List PyData} (n : Nat), RpAll K G vs ds → RpAll K G (vs.drop n) (ds.drop n)
  | _, _, 0, r => r
  | _, _, _ + 1, .nil => .nil
  | _, _, n + 1, .cons _ t => RpAll.drop n t
theorem RpAll.reverse : ∀ {vs : List V} {ds : List PyData}, RpAll K G vs ds → RpAll K G vs.reverse ds.reverse
  | _, _, .nil => .nil
  | _, _, .cons r t => by
    rw [List.reverse_cons, List.reverse_cons]
    exact (RpAll.reverse t).append (.one r)
theorem RpAll.set {v : V} {d : PyData} (r : Rp K G v d) : ∀ {vs : List V} {ds : List PyData} (i : Nat), RpAll K G vs ds → RpAll K G (vs.set i v) (ds.set i d)
  | _, _, _, .nil => .nil
  | _, _, 0, .cons _ t => .cons r t
  | _, _, i + 1, .cons q t => .cons q (RpAll.set r i t)
theorem RpAll.erase : ∀ {vs : List V} {ds : List PyData} (i : Nat), RpAll K G vs ds → RpAll K G (vs.eraseIdx i) (ds.eraseIdx i)
  | _, _, _, .nil => .nil
  | _, _, 0, .cons _ t => t
  | _, _, i + 1, .cons q t => .cons q (RpAll.erase i t)
end
inductive Sl where
  | d (x : PyData)
  | own (xs : List PyData)
  | dct (ks : List (List Int))
  | dk (kvs : List (Int × PyData))
  | exn (a : Addr) (cls : Value) (dd : Option Addr) (e : Ex)
def Sl.Hold : Sl → Prop
  | .own _ => True
  | .dct _ => True
  | .dk _ => True
  | _ => False
abbrev Rho := List (Option Sl)
def ExR (K : PySem.W.Frag) (G H : Hp) (cls : Value) (d : Option Addr) (e : Ex) : Prop :=
  cls = .ref e.cls ∧ ((e.fs = [] ∧ d = none) ∨ ∃ dd fs, d = some dd ∧ H dd = some (.xd fs) ∧ fs.map (·.1) = e.fs.map (·.1) ∧ RpAll K G (fs.map (·.2)) (e.fs.map (·.2)))
theorem ExR.mv {K : PySem.W.Frag} {G G' H H' : Hp} {cls : Value} {d : Option Addr} {e : Ex} (s : Sub G G') (hx : ∀ dd fs, H dd = some (.xd fs) → H' dd = some (.xd fs)) (h : ExR K G H cls d e) : ExR K G' H' cls d e := by
  obtain ⟨h1, h2⟩ := h
  refine ⟨h1, ?_⟩
  rcases h2 with h2 | ⟨dd, fs, h3, h4, h5, h6⟩
  · exact .inl h2
  · exact .inr ⟨dd, fs, h3, hx _ _ h4, h5, h6.mono s⟩
def SlotR (K : PySem.W.Frag) (O0 O : List Addr) (H : Hp) (v : V) : Sl → Prop
  | .d x => Rp K (hide O H) v x
  | .own xs => ∃ p vs, v = .ref p ∧ p ∈ O ∧ p ∉ O0 ∧ H p = some (.lst vs) ∧ xs.length ≤ sizeLine ∧ RpAll K (hide O H) vs xs
  | .dct ks => ∃ p ep xs, v = .ref p ∧ p ∈ O ∧ p ∉ O0 ∧ H p = some (dctO p ep xs) ∧ xs.map (·.1) = ks ∧ ∀ x ∈ xs, SqT K (hide O H) x.2 (x.1.map V.int)
  | .dk ks => ∃ p kvs, v = .ref p ∧ p ∈ O ∧ p ∉ O0 ∧ H p = some (.dK kvs) ∧ kvs.map (·.1) = ks.map (fun x => Sum.inl x.1) ∧ RpAll K (hide O H) (kvs.map (·.2)) (ks.map (·.2))
  | .exn a cls dd e => v = .ref a ∧ ExR K (hide O H) H cls dd e
theorem SlotR.hold {K : PySem.W.Frag} {O0 O : List Addr} {H : Hp} {v : V} {s : Sl} (hs : s.Hold) (h : SlotR K O0 O H v s) : ∃ p, v = .ref p ∧ p ∈ O ∧ p ∉ O0 := by
  cases s with
  | d x => exact hs.elim
  | own xs => obtain ⟨p, vs, rfl, m, n, _⟩ := h; exact ⟨p, rfl, m, n⟩
  | dct ks => obtain ⟨p, _, vs, rfl, m, n, _⟩ := h; exact ⟨p, rfl, m, n⟩
  | dk ks => obtain ⟨p, vs, rfl, m, n, _⟩ := h; exact ⟨p, rfl, m, n⟩
  | exn a c dd e => exact hs.elim
theorem SlotR.mv {K : PySem.W.Frag} {O0 O O' : List Addr} {H H' : Hp} {v : V} {s : Sl} (sub : Sub (hide O H) (hide O' H')) (hm : s.Hold → ∀ p, v = .ref p → p ∈ O → p ∉ O0 → p ∈ O' ∧ ∀ o, H p = some o → (∀ ps, o ≠ .tbl ps) → H' p = some o)
    (hx : ∀ dd fs, H dd = some (.xd fs) → H' dd = some (.xd fs)) (h : SlotR K O0 O H v s) : SlotR K O0 O' H' v s := by
  cases s with
  | d x => exact Rp.mono sub h
  | own xs =>
    obtain ⟨p, vs, rfl, m, n, hp, z, r⟩ := h
    obtain ⟨m', k⟩ := hm trivial p rfl m n
    exact ⟨p, vs, rfl, m', n, k _ hp (fun _ q => by cases q), z, r.mono sub⟩
  | dct ks =>
    obtain ⟨p, ep, xs, rfl, m, n, hp, z, r⟩ := h
    obtain ⟨m', k⟩ := hm trivial p rfl m n
    exact ⟨p, ep, xs, rfl, m', n, k _ hp (fun _ q => by cases q), z, fun x hx => sub.sqT (r x hx)⟩
  | dk ks =>
    obtain ⟨p, kvs, rfl, m, n, hp, z, r⟩ := h
    obtain ⟨m', k⟩ := hm trivial p rfl m n
    exact ⟨p, kvs, rfl, m', n, k _ hp (fun _ q => by cases q), z, r.mono sub⟩
  | exn a c dd e => exact ⟨h.1, h.2.mv sub hx⟩
structure St0 (K : PySem.W.Frag) (Tb : List Addr) (H0 : Hp) (O0 O : List Addr) (H : Hp) (σ : L2.St) (ρ : Rho) : Prop where
  ext : Ext H0 H
  sub : ∀ b ∈ O0, b ∈ O
  new : ∀ b ∈ O, b ∉ O0 → H0 b = none
  al : ∀ b ∈ O, H b ≠ none
  tab : ∀ P ∈ Tb, TabC H P
  pln : ∀ b ∈ O, b ∉ O0 → ∃ o, H b = some o ∧ Plain o
  len : σ.length = ρ.length
  slot : ∀ (i : Nat) (s : Sl), ρ[i]? = some (some s) → ∃ v, σ[i]? = some (some v) ∧ SlotR K O0 O H v s
  inj : ∀ (i j : Nat) (p : Addr) (s t : Sl), s.Hold → t.Hold → ρ[i]? = some (some s) → ρ[j]? = some (some t) → σ[i]? = some (some (.ref p)) → σ[j]? = some (some (.ref p)) → i = j
section
variable {K : PySem.W.Frag} {Tb : List Addr} {H0 H H' : Hp} {O0 O : List Addr} {σ : L2.St} {ρ : Rho}
theorem St0.step (s : St0 K Tb H0 O0 O H σ ρ) (e : Ext H H') : St0 K Tb H0 O0 O H' σ ρ where
  ext := s.ext.trans e
  sub := s.sub
  new := s.new
  al := fun b m => e.al b (s.al b m)
  tab := fun P m => e.tab P (s.tab P m)
  pln := fun b m n => by
    obtain ⟨o, h, q⟩ := s.pln b m n
    exact ⟨o, e.keep b o h q.2, q⟩
  len := s.len
  slot := fun i x h => by
    obtain ⟨v, h1, h2⟩ := s.slot i x h
    exact ⟨v, h1, h2.mv (Sub.hide e.keep) (fun _ p _ m _ => ⟨m, fun o h n => e.keep p o h n⟩) fun dd fs h => e.keep dd _ h fun _ q => by cases q⟩
  inj := s.inj
theorem St0.hold (s : St0 K Tb H0 O0 O H σ ρ) {i : Nat} {x : Sl} {p : Addr} (hx : x.Hold) (h : ρ[i]? = some (some x)) (hp : σ[i]? = some (some (.ref p))) : p ∈ O ∧ p ∉ O0 := by
  obtain ⟨v, h1, h2⟩ := s.slot i x h
  obtain ⟨q, rfl, m, n⟩ := h2.hold hx
  rw [hp] at h1
  cases h1
  exact ⟨m, n⟩
/-- a new address is none of the hidden -/
theorem St0.fresh (s : St0 K Tb H0 O0 O H σ ρ) {p : Addr} (h : H p = none) : p ∉ O := fun m => s.al p m h
end
abbrev WX := L2.WX
def AftX (K : PySem.W.Frag) (O : List Addr) (H : Hp) (e : Ex) (W : Value → Option Addr → Hp → Prop) : Prop := ∀ cls d H', Ext H H' → ExR K (hide O H') H' cls d e → W cls d H'
/-- what is wanted of a result -/
def Post (K : PySem.W.Frag) (O : List Addr) {α β : Type} (Rl : Hp → β → α → Prop) (W : Value → Option Addr → Hp → Prop) (H : Hp) (x : R α) (Q : β → Hp → Prop) : Prop := match x with
  | .ok a => ∀ b H', Ext H H' → Rl H' b a → Q b H'
  | .exc e => AftX K O H e W
  | .bad => False
abbrev RlD (K : PySem.W.Frag) (O : List Addr) : Hp → V → PyData → Prop := fun H v d => Rp K (hide O H) v d
abbrev RlL (K : PySem.W.Frag) (O : List Addr) : Hp → List V → List PyData → Prop := fun H v d => RpAll K (hide O H) v d
abbrev RlB : Hp → Bool → Bool → Prop := fun _ b c => b = c
section
variable {K : PySem.W.Frag} {O : List Addr} {α α' β β' : Type} {Rl : Hp → β → α → Prop} {Rl' : Hp → β' → α' → Prop} {W : Value → Option Addr → Hp → Prop} {H H1 : Hp}
theorem Post.step {x : R α} {Q : β → Hp → Prop} (h : Post K O Rl W H x Q) (e : Ext H H1) : Post K O Rl W H1 x Q := by
  cases x with
  | ok a => exact fun b H' e' r => h b H' (e.trans e') r
  | exc x => exact fun c d H' e' r => h c d H' (e.trans e') r
  | bad => exact h
theorem Post.then {x : R α} {f : α → R α'} {Q : β → Hp → Prop} {Q' : β' → Hp → Prop} (h : Post K O Rl' W H (x >>= f) Q') (k : ∀ a b H1, Ext H H1 → Rl H1 b a → Post K O Rl' W H1 (f a) Q' → Q b H1) : Post K O Rl W H x Q := by
  cases x with
  | ok a => exact fun b H' e r => k a b H' e r (Post.step (show Post K O Rl' W H (f a) Q' from h) e)
  | exc x => exact h
  | bad => exact h
theorem Post.mono {x : R α} {Q Q' : β → Hp → Prop} (h : Post K O Rl W H x Q) (k : ∀ b H1, Q b H1 → Q' b H1) : Post K O Rl W H x Q' := by
  cases x with
  | ok a => exact fun b H' e r => k _ _ (h b H' e r)
  | exc x => exact h
  | bad => exact h
end
section
variable (K : PySem.W.Frag) (Tb : List Addr) (W : WX)
def tD (f : Rho → R PyData) : TE := fun σ H Q => ∃ H0 O0 O ρ, St0 K Tb H0 O0 O H σ ρ ∧ Post K O (RlD K O) (fun c d H => W c d σ H) H (f ρ) Q
def tDs (f : Rho → R (List PyData)) : TA := fun σ H Q => ∃ H0 O0 O ρ, St0 K Tb H0 O0 O H σ ρ ∧ Post K O (RlL K O) (fun c d H => W c d σ H) H (f ρ) Q
def tDT (f : Rho → R Bool) : TT := fun σ H Q => ∃ H0 O0 O ρ, St0 K Tb H0 O0 O H σ ρ ∧ Post K O RlB (fun c d H => W c d σ H) H (f ρ) Q
end
theorem _root_.L2.PE.by {X : Cx} {e : Expr} {t t' : TE} (h : PE X e t) (i : ∀ σ H Q, t' σ H Q → t σ H Q) : PE X e t' := ⟨fun pins s σ H Q I q => h.run pins s σ H Q I (i σ H Q q)⟩
theorem _root_.L2.PT.by {X : Cx} {e : Expr} {t t' : TT} (h : PT X e t) (i : ∀ σ H Q, t' σ H Q → t σ H Q) : PT X e t' := ⟨fun pins s σ H Q I q => h.run pins s σ H Q I (i σ H Q q)⟩
theorem _root_.L2.PW.by {X : Cx} {e : Expr} {t t' : TT} (h : PW X e t) (i : ∀ σ H Q, t' σ H Q → t σ H Q) : PW X e t' := ⟨fun wh pins s σ H Q I q => h.run wh pins s σ H Q I (i σ H Q q)⟩
theorem _root_.L2.PA.by {X : Cx} {e : List Expr} {t t' : TA} (h : PA X e t) (i : ∀ σ H Q, t' σ H Q → t σ H Q) : PA X e t' := ⟨fun pos pins s σ H Q I q => h.run pos pins s σ H Q I (i σ H Q q)⟩
theorem _root_.L2.PS.by {X : Cx} {e : Stmt} {t t' : TS} (h : PS X e t) (i : ∀ D σ H, t' D σ H → t D σ H) : PS X e t' := ⟨fun pins s σ H D I q => h.run pins s σ H D I (i D σ H q)⟩
theorem _root_.L2.PSs.by {X : Cx} {e : List Stmt} {t t' : TS} (h : PSs X e t) (i : ∀ D σ H, t' D σ H → t D σ H) : PSs X e t' := ⟨fun pins s σ H D I q => h.run pins s σ H D I (i D σ H q)⟩
end PD
set_option Elab.async false
set_option linter.all false
set_option maxRecDepth 100000
set_option maxHeartbeats 1000000
namespace PD
open PySem PySem.Spec PyProof.Rows L2
def oAdd : PyData → PyData → R PyData
  | .int i, .int j => .ok (.int (i + j))
  | .tuple xs, .tuple ys => if xs.length + ys.length ≤ sizeLine then .ok (.tuple (xs ++ ys)) else .bad
  | .list xs, .list ys => if xs.length + ys.length ≤ sizeLine then .ok (.list (xs ++ ys)) else .bad
  | _, _ => .bad
def oSub : PyData → PyData → R PyData
  | .int i, .int j => .ok (.int (i - j))
  | _, _ => .bad
instance (i j : Int) : Decidable (CMul i j) := by unfold CMul; infer_instance
instance (i j : Int) : Decidable (CPow i j) := by unfold CPow; infer_instance
instance (i j : Int) : Decidable (CDivN i j) := by unfold CDivN; infer_instance
def oMul : PyData → PyData → R PyData
  | .int i, .int j => if CMul i j then .ok (.int (i * j)) else .bad
  | _, _ => .bad
def oDiv : PyData → PyData → R PyData
  | .int i, .int j => if CDivN i j then .ok (.int (i.fdiv j)) else .bad
  | _, _ => .bad
def oMod : PyData → PyData → R PyData
  | .int i, .int j => if j ≠ 0 then .ok (.int (i.fmod j)) else .bad
  | _, _ => .bad
def oPow : PyData → PyData → R PyData
  | .int i, .int j => if CPow i j then .ok (.int (i ^ j.toNat)) else .bad
  | _, _ => .bad
def shp (d : PyData) : Bool := SeqAt.shaped d
def oEq (d e : PyData) : R PyData := if shp d = true ∧ shp e = true then .ok (.bool (PyData.eqv d e)) else .bad
def oNe (d e : PyData) : R PyData := if shp d = true ∧ shp e = true then .ok (.bool (!PyData.eqv d e)) else .bad
def oLt : PyData → PyData → R PyData
  | .int i, .int j => .ok (.bool (decide (i < j)))
  | _, _ => .bad
def oLe : PyData → PyData → R PyData
  | .int i, .int j => .ok (.bool (decide (i ≤ j)))
  | _, _ => .bad
def oGt : PyData → PyData → R PyData
  | .int i, .int j => .ok (.bool (decide (j < i)))
  | _, _ => .bad
def oGe : PyData → PyData → R PyData
  | .int i, .int j => .ok (.bool (decide (j ≤ i)))
  | _, _ => .bad
def items : PyData → R (List PyData)
  | .list xs => .ok xs
  | .tuple xs => .ok xs
  | _ => .bad
def inD (d : PyData) (xs : List PyData) : Bool := xs.any fun z => PyData.eqv z d
def oIn (d e : PyData) : R PyData := if shp d = true ∧ shp e = true then (do let xs ← items e; .ok (.bool (inD d xs))) else .bad
def oNotIn (d e : PyData) : R PyData := if shp d = true ∧ shp e = true then (do let xs ← items e; .ok (.bool (!inD d xs))) else .bad
def isNone : PyData → Bool
  | .none => true
  | _ => false
def oIx : PyData → PyData → R PyData
  | .list xs, .int i => match atI xs i with | some d => .ok d | none => .bad
  | .tuple xs, .int i => match atI xs i with | some d => .ok d | none => .bad
  | _, _ => .bad
def cutD (xs : List PyData) (lo hi : Option Int) : List PyData := (xs.drop (HT.sIx xs.length 0 lo)).take (HT.sIx xs.length xs.length hi - HT.sIx xs.length 0 lo)
def oCut (d : PyData) (lo hi : Option Int) : R PyData := match d with
  | .list xs => .ok (.list (cutD xs lo hi))
  | .tuple xs => .ok (.tuple (cutD xs lo hi))
  | _ => .bad
theorem cutD_length (xs : List PyData) (lo hi : Option Int) : (cutD xs lo hi).length ≤ xs.length := by
  unfold cutD
  rw [List.length_take, List.length_drop]
  omega
abbrev Dn := Rho → R PyData
abbrev DnL := Rho → R (List PyData)
abbrev DnB := Rho → R Bool
def dVar (i : Nat) : Dn := fun ρ => match ρ[i]? with
  | some (some (.d x)) => .ok x
  | _ => .bad
def dC (x : PyData) : Dn := fun _ => .ok x
def dOne (u : PyData → R PyData) (f : Dn) : Dn := fun ρ => f ρ >>= u
def dTwo (u : PyData → PyData → R PyData) (f g : Dn) : Dn := fun ρ => f ρ >>= fun a => g ρ >>= fun b => u a b
def dNil : DnL := fun _ => .ok []
def dCons (f : Dn) (g : DnL) : DnL := fun ρ => f ρ >>= fun a => g ρ >>= fun b => .ok (a :: b)
def dTup (g : DnL) : Dn := fun ρ => g ρ >>= fun xs => if xs.length ≤ sizeLine then .ok (.tuple xs) else .bad
def dLst (g : DnL) : Dn := fun ρ => g ρ >>= fun xs => if xs.length ≤ sizeLine then .ok (.list xs) else .bad
def dArg (m : List PyData → R PyData) (g : DnL) : Dn := fun ρ => g ρ >>= m
def asB : PyData → R Bool
  | .bool b => .ok b
  | _ => .bad
def dAsB (f : Dn) : DnB := fun ρ => f ρ >>= asB
def dAnd (f g : DnB) : DnB := fun ρ => f ρ >>= fun b => if b = true then g ρ else .ok false
def dOr (f g : DnB) : DnB := fun ρ => f ρ >>= fun b => if b = true then .ok true else g ρ
def dNot (f : DnB) : DnB := fun ρ => f ρ >>= fun b => .ok (!b)
def dAndV (f g : Dn) : Dn := fun ρ => f ρ >>= fun a => asB a >>= fun b => if b = true then g ρ else .ok (.bool false)
def dOrV (f g : Dn) : Dn := fun ρ => f ρ >>= fun a => asB a >>= fun b => if b = true then .ok (.bool true) else g ρ
def dNotV (f : Dn) : Dn := fun ρ => f ρ >>= fun a => asB a >>= fun b => .ok (.bool (!b))
def dIf (c : DnB) (f g : Dn) : Dn := fun ρ => c ρ >>= fun b => if b = true then f ρ else g ρ
def asI : PyData → R Int
  | .int i => .ok i
  | _ => .bad
abbrev DnO := Rho → R (Option Int)
def dNoP : DnO := fun _ => .ok none
def dPart (f : Dn) : DnO := fun ρ => f ρ >>= fun a => asI a >>= fun i => .ok (some i)
def dCut (f : Dn) (lo hi : DnO) : Dn := fun ρ => f ρ >>= fun a => lo ρ >>= fun l => hi ρ >>= fun h => oCut a l h
section
variable {X : Cx} {Tb : List Addr} {W : WX} {K : PySem.W.Frag} {O : List Addr} {H : Hp} {σ : L2.St} {Wx : Value → Option Addr → Hp → Prop}
def Al (O : List Addr) (H : Hp) : Prop := ∀ b ∈ O, H b ≠ none
/-- a new tuple, a new list -/
theorem Post.newTup {xs : List V} {ds : List PyData} {Q : VK} (al : Al O H) (h : Post K O (RlD K O) Wx H (.ok (.tuple ds)) Q) (z : ds.length ≤ sizeLine) (r : RpAll K (hide O H) xs ds) : ∀ p, H p = none → Q (.ref p) (upd H p (.tup xs)) := fun p hp => by
  have n : p ∉ O := fun m => al p m hp
  refine h _ _ (Ext.new hp) (.tup (.of (by rw [hide_out n, upd_same])) z (r.mono (Sub.hide (Ext.new hp).keep)))
theorem Post.newLst {xs : List V} {ds : List PyData} {Q : VK} (al : Al O H) (h : Post K O (RlD K O) Wx H (.ok (.list ds)) Q) (z : ds.length ≤ sizeLine) (r : RpAll K (hide O H) xs ds) : ∀ p, H p = none → Q (.ref p) (upd H p (.lst xs)) := fun p hp => by
  have n : p ∉ O := fun m => al p m hp
  refine h _ _ (Ext.new hp) (.lst (.of (by rw [hide_out n, upd_same])) z (r.mono (Sub.hide (Ext.new hp).keep)))
theorem Post.here {d : PyData} {v : V} {Q : VK} (h : Post K O (RlD K O) Wx H (.ok d) Q) (r : Rp K (hide O H) v d) : Q v H := h v H (Ext.refl H) r
def Ok2 (K : PySem.W.Frag) (r : R2) (u : PyData → PyData → R PyData) : Prop := ∀ (O : List Addr) (H : Hp) (Wx : Value → Option Addr → Hp → Prop) (x y : V) (d e : PyData) (Q : VK), Al O H → Rp K (hide O H) x d → Rp K (hide O H) y e → Post K O (RlD K O) Wx H (u d e) Q → r x y H Q
def OkL (K : PySem.W.Frag) (r : List V → Hp → VK → Prop) (u : List PyData → R PyData) : Prop := ∀ (O : List Addr) (H : Hp) (Wx : Value → Option Addr → Hp → Prop) (vs : List V) (ds : List PyData) (Q : VK), Al O H → RpAll K (hide O H) vs ds → Post K O (RlD K O) Wx H (u ds) Q → r vs H Q
theorem tD_two {r : R2} {u : PyData → PyData → R PyData} {f g : Dn} {Q : VK} (hr : Ok2 K r u) (h : tD K Tb W (dTwo u f g) σ H Q) : tOp r (tD K Tb W f) (tD K Tb W g) σ H Q := by
  obtain ⟨H0, O0, O, ρ, st, h⟩ := h
  refine ⟨H0, O0, O, ρ, st, Post.then h fun d v H1 e r1 k => ?_⟩
  refine ⟨H0, O0, O, ρ, st.step e, Post.then k fun d2 v2 H2 e2 r2 k2 => ?_⟩
  exact hr O H2 _ v v2 d d2 Q ((st.step e).step e2).al (r1.mono (Sub.hide e2.keep)) r2 k2
theorem tD_arg {r : List V → Hp → VK → Prop} {u : List PyData → R PyData} {g : DnL} {Q : VK} (hr : OkL K r u) (h : tD K Tb W (dArg u g) σ H Q) : tCB r (tDs K Tb W g) σ H Q := by
  obtain ⟨H0, O0, O, ρ, st, h⟩ := h
  exact ⟨H0, O0, O, ρ, st, Post.then h fun d v H1 e r1 k => hr O H1 _ v d Q (st.step e).al r1 k⟩
theorem fd_var (i : Nat) {x : Str} {pos : Pos} (hN : X.N[i]? = some x := by rfl) (hv : Vis X.env.scope x := by first | exact Or.inl rfl | exact Or.inr (Or.inl rfl) | exact Or.inr (Or.inr rfl)) (hd : (x == ("__debug__" : Str)) = false := by decide)
    (hcd : (x == ("__classdict__" : Str)) = false := by decide) : PE X (.Name x pos) (tD X.K Tb W (dVar i)) := (pv i hN hv hd hcd).by fun σ H Q h => by
  obtain ⟨H0, O0, O, ρ, st, h⟩ := h
  unfold dVar at h
  split at h
  · rename_i x e
    obtain ⟨v, h1, h2⟩ := st.slot i _ e
    exact ⟨v, h1, Post.here h h2⟩
  · exact h.elim
theorem fd_int {i : Int} {j pos} : PE X (.Constant (.int i) j pos) (tD X.K Tb W (dC (.int i))) := pe_int.by fun σ H Q ⟨_, _, _, _, _, h⟩ => Post.here h (.int i)
theorem fd_bl {b : Bool} {j pos} : PE X (.Constant (.bool b) j pos) (tD X.K Tb W (dC (.bool b))) := pe_bl.by fun σ H Q ⟨_, _, _, _, _, h⟩ => Post.here h (.bl b)
theorem fd_non {j pos} : PE X (.Constant .none j pos) (tD X.K Tb W (dC .none)) := pe_non.by fun σ H Q ⟨_, _, _, _, _, h⟩ => Post.here h .non
theorem fa_nil : PA X [] (tDs X.K Tb W dNil) := pa_nil.by fun σ H Q ⟨_, _, _, _, _, h⟩ => h [] H (Ext.refl H) .nil
theorem fa_cons {e : Expr} {es : List Expr} {f : Dn} {g : DnL} (ha : PE X e (tD X.K Tb W f)) (hr : PA X es (tDs X.K Tb W g)) (hs : starEach (e :: es) X.env = (false, eval e X.env) :: starEach es X.env := by rfl) : PA X (e :: es) (tDs X.K Tb W (dCons f g)) :=
  (pa_cons ha hr hs).by fun σ H Q h => by
    obtain ⟨H0, O0, O, ρ, st, h⟩ := h
    refine ⟨H0, O0, O, ρ, st, Post.then h fun d v H1 e r1 k => ?_⟩
    refine ⟨H0, O0, O, ρ, st.step e, Post.then k fun d2 v2 H2 e2 r2 k2 => ?_⟩
    exact k2 _ H2 (Ext.refl _) (.cons (r1.mono (Sub.hide e2.keep)) r2)
theorem fd_tup {es : List Expr} {g : DnL} {x1} {pos : Pos} (h : PA X es (tDs X.K Tb W g)) : PE X (.Tuple es x1 pos) (tD X.K Tb W (dTup g)) := (pe_tup h).by fun σ H Q h => by
  obtain ⟨H0, O0, O, ρ, st, h⟩ := h
  refine ⟨H0, O0, O, ρ, st, Post.then h fun d v H1 e r1 k => ?_⟩
  split at k
  · rename_i z
    exact ⟨by rw [r1.length]; exact z, Post.newTup (st.step e).al k z r1⟩
  · exact k.elim
theorem fd_lst {es : List Expr} {g : DnL} {pos : Pos} (h : PA X es (tDs X.K Tb W g)) : PE X (.List es pos) (tD X.K Tb W (dLst g)) := (pe_lst h).by fun σ H Q h => by
  obtain ⟨H0, O0, O, ρ, st, h⟩ := h
  refine ⟨H0, O0, O, ρ, st, Post.then h fun d v H1 e r1 k => ?_⟩
  split at k
  · rename_i z
    exact ⟨by rw [r1.length]; exact z, Post.newLst (st.step e).al k z r1⟩
  · exact k.elim
def rCatS (K : PySem.W.Frag) : R2 := fun x y H Q => ∃ l b xs zs, x = .ref l ∧ y = .ref b ∧ SqL K H l xs ∧ SqL K H b zs ∧ xs.length + zs.length ≤ sizeLine ∧ ∀ p, H p = none → Q (.ref p) (upd H p (.lst (xs ++ zs)))
theorem op_catS : OpR X (binaryOp .Add) (rCatS X.K) := by
  intro pins s σ H x y v u Q I rx ry h
  obtain ⟨l, b, xs, zs, rfl, rfl, hH, hB, hz, q⟩ := h
  cases rx
  cases ry
  obtain ⟨its, r, ⟨⟨cls, dd, data, sl⟩, n, ho, hc, hdd, hd⟩, _⟩ := I.list hH
  obtain ⟨its2, r2, ⟨⟨cls2, dd2, data2, sl2⟩, n2, ho2, hc2, hdd2, hd2⟩, _⟩ := I.list hB
  simp only at hc hdd hd hc2 hdd2 hd2
  subst hc hdd hd hc2 hdd2 hd2
  have l1 := r.length
  have l2 := r2.length
  have e : its.toArray ++ its2.toArray = (its ++ its2).toArray := by simp
  refine concat_meets ⟨_, ho, rfl⟩ ⟨_, ho2, rfl⟩ noFill_list_add seq_list_add PySem.F.slot_list_add PySem.F.entry_list_add (PySem.F.args_list_add_2 _ _) (list_addW l b its.toArray its2.toArray n n2 none none sl sl2 (by rw [List.size_toArray, List.size_toArray]; omega)) ⟨ho, ho2, ?_⟩
  rw [e]
  exact ⟨.ref _, _, I.lnew (t' := s.toks) (r.append r2) (by rw [List.length_append]; omega), rfl, q _ I.fresh⟩
theorem opR_or {f : Value → Value → Sem Value} {r r' : R2} (h : OpR X f r) (h' : OpR X f r') : OpR X f (fun x y H Q => r x y H Q ∨ r' x y H Q) := by
  intro pins s σ H x y v u Q I rx ry q
  rcases q with q | q
  · exact h pins s σ H x y v u Q I rx ry q
  · exact h' pins s σ H x y v u Q I rx ry q
theorem ok_add : Ok2 K (fun x y H Q => rI0 (fun i j => .int (i + j)) x y H Q ∨ (rCatA K x y H Q ∨ rCatS K x y H Q)) oAdd := by
  intro O H Wx x y d e Q al hx hy h
  unfold oAdd at h
  split at h
  · cases hx; cases hy
    exact .inl ⟨_, _, rfl, rfl, Post.here h (.int _)⟩
  · split at h
    · rename_i z
      cases hx with
      | tup h1 z1 a1 =>
        cases hy with
        | tup h2 z2 a2 =>
          refine .inr (.inl ⟨_, _, _, _, rfl, rfl, Sub.unhide.sqT h1, Sub.unhide.sqT h2, by rw [a1.length, a2.length]; exact z, fun e0 => ?_, fun _ e0 => ?_, fun _ _ => ?_⟩)
          · subst e0
            cases a1
            exact Post.here h (.tup h2 z2 a2)
          · subst e0
            cases a2
            rw [List.append_nil] at h
            exact Post.here h (.tup h1 z1 a1)
          · exact Post.newTup al h (by rw [List.length_append]; exact z) (a1.append a2)
    · exact h.elim
  · split at h
    · rename_i z
      cases hx with
      | lst h1 z1 a1 =>
        cases hy with
        | lst h2 z2 a2 =>
          exact .inr (.inr ⟨_, _, _, _, rfl, rfl, Sub.unhide.sqL h1, Sub.unhide.sqL h2, by rw [a1.length, a2.length]; exact z, Post.newLst al h (by rw [List.length_append]; exact z) (a1.append a2)⟩)
    · exact h.elim
  · exact h.elim
theorem ok_sub : Ok2 K (rI0 fun i j => .int (i - j)) oSub := by
  intro O H Wx x y d e Q al hx hy h
  unfold oSub at h
  split at h
  · cases hx; cases hy
    exact ⟨_, _, rfl, rfl, Post.here h (.int _)⟩
  · exact h.elim
theorem ok_mul : Ok2 K (rI CMul fun i j => .int (i * j)) oMul := by
  intro O H Wx x y d e Q al hx hy h
  unfold oMul at h
  split at h
  · cases hx; cases hy
    split at h
    · exact ⟨_, _, rfl, rfl, by assumption, Post.here h (.int _)⟩
    · exact h.elim
  · exact h.elim
theorem ok_div : Ok2 K (rI CDivN fun i j => .int (i.fdiv j)) oDiv := by
  intro O H Wx x y d e Q al hx hy h
  unfold oDiv at h
  split at h
  · cases hx; cases hy
    split at h
    · exact ⟨_, _, rfl, rfl, by assumption, Post.here h (.int _)⟩
    · exact h.elim
  · exact h.elim
theorem ok_mod : Ok2 K (rI (fun _ j => j ≠ 0) fun i j => .int (i.fmod j)) oMod := by
  intro O H Wx x y d e Q al hx hy h
  unfold oMod at h
  split at h
  · cases hx; cases hy
    split at h
    · exact ⟨_, _, rfl, rfl, by assumption, Post.here h (.int _)⟩
    · exact h.elim
  · exact h.elim
theorem ok_pow : Ok2 K (rI CPow fun i j => .int (i ^ j.toNat)) oPow := by
  intro O H Wx x y d e Q al hx hy h
  unfold oPow at h
  split at h
  · cases hx; cases hy
    split at h
    · exact ⟨_, _, rfl, rfl, by assumption, Post.here h (.int _)⟩
    · exact h.elim
  · exact h.elim
variable {a b c : Expr} {f g : Dn} {pos : Pos}
theorem fd_add (ha : PE X a (tD X.K Tb W f)) (hb : PE X b (tD X.K Tb W g)) : PE X (.BinOp a .Add b pos) (tD X.K Tb W (dTwo oAdd f g)) := (pe_op (opR_or op_add (opR_or op_catA op_catS)) ha hb).by fun σ H Q h => tD_two ok_add h
theorem fd_sub (ha : PE X a (tD X.K Tb W f)) (hb : PE X b (tD X.K Tb W g)) : PE X (.BinOp a .Sub b pos) (tD X.K Tb W (dTwo oSub f g)) := (pe_op op_sub ha hb).by fun σ H Q h => tD_two ok_sub h
theorem fd_mul (ha : PE X a (tD X.K Tb W f)) (hb : PE X b (tD X.K Tb W g)) : PE X (.BinOp a .Mult b pos) (tD X.K Tb W (dTwo oMul f g)) := (pe_op op_mul ha hb).by fun σ H Q h => tD_two ok_mul h
theorem fd_div (ha : PE X a (tD X.K Tb W f)) (hb : PE X b (tD X.K Tb W g)) : PE X (.BinOp a .FloorDiv b pos) (tD X.K Tb W (dTwo oDiv f g)) := (pe_op op_fdivN ha hb).by fun σ H Q h => tD_two ok_div h
theorem fd_mod (ha : PE X a (tD X.K Tb W f)) (hb : PE X b (tD X.K Tb W g)) : PE X (.BinOp a .Mod b pos) (tD X.K Tb W (dTwo oMod f g)) := (pe_op op_modN ha hb).by fun σ H Q h => tD_two ok_mod h
theorem fd_pow (ha : PE X a (tD X.K Tb W f)) (hb : PE X b (tD X.K Tb W g)) : PE X (.BinOp a .Pow b pos) (tD X.K Tb W (dTwo oPow f g)) := (pe_op op_pow ha hb).by fun σ H Q h => tD_two ok_pow h
theorem ok_eq : Ok2 K (rEqD K) oEq := by
  intro O H Wx x y d e Q al hx hy h
  unfold oEq at h
  split at h
  · rename_i z
    exact ⟨d, e, (hx.mono Sub.unhide).dp (nod_of_lay (SeqAt.canLay_of_shaped z.1)), (hy.mono Sub.unhide).dp (nod_of_lay (SeqAt.canLay_of_shaped z.2)), z.1, z.2, Post.here h (.bl _)⟩
  · exact h.elim
theorem ok_ne : Ok2 K (rNeD K) oNe := by
  intro O H Wx x y d e Q al hx hy h
  unfold oNe at h
  split at h
  · rename_i z
    exact ⟨d, e, (hx.mono Sub.unhide).dp (nod_of_lay (SeqAt.canLay_of_shaped z.1)), (hy.mono Sub.unhide).dp (nod_of_lay (SeqAt.canLay_of_shaped z.2)), z.1, z.2, Post.here h (.bl _)⟩
  · exact h.elim
def rInS (K : PySem.W.Frag) (neg : Bool) : R2 := fun x y H Q => ∃ d e ds, Dp K H x d ∧ Dp K H y e ∧ items e = .ok ds ∧ SeqAt.shaped d = true ∧ SeqAt.shaped e = true ∧ Q (.bl (if neg then !inD d ds else inD d ds)) H
theorem op_inS (hu : X.A.units + 65 < cLine) : OpR X (compareOp .In) (rInS X.K false) := by
  intro pins s σ H x y v u Q I rx ry h
  obtain ⟨d, e, ds, hd, he, hi, sd, se, q⟩ := h
  obtain ⟨as, r1⟩ := Dp.reads I d x v hd rx
  obtain ⟨bs, r2⟩ := Dp.reads I e y u he ry
  unfold items at hi
  split at hi
  · cases hi
    exact SeqAt.in_list_reads r2 r1 (SeqAt.canLay_of_shaped se) (SeqAt.canLay_of_shaped sd) (room_in_shaped sd hu) ⟨.bl _, H, I, rfl, q⟩
  · cases hi
    exact SeqAt.in_tuple_reads r2 r1 (SeqAt.canLay_of_shaped se) (SeqAt.canLay_of_shaped sd) (room_in_shaped sd hu) ⟨.bl _, H, I, rfl, q⟩
  · cases hi
theorem op_notInS (hu : X.A.units + 65 < cLine) : OpR X (compareOp .NotIn) (rInS X.K true) := by
  intro pins s σ H x y v u Q I rx ry h
  obtain ⟨d, e, ds, hd, he, hi, sd, se, q⟩ := h
  obtain ⟨as, r1⟩ := Dp.reads I d x v hd rx
  obtain ⟨bs, r2⟩ := Dp.reads I e y u he ry
  unfold items at hi
  split at hi
  · cases hi
    exact SeqAt.notIn_list_reads r2 r1 (SeqAt.canLay_of_shaped se) (SeqAt.canLay_of_shaped sd) (room_in_shaped sd hu) ⟨.bl _, H, I, rfl, q⟩
  · cases hi
    exact SeqAt.notIn_tuple_reads r2 r1 (SeqAt.canLay_of_shaped se) (SeqAt.canLay_of_shaped sd) (room_in_shaped sd hu) ⟨.bl _, H, I, rfl, q⟩
  · cases hi
theorem ok_in : Ok2 K (rInS K false) oIn := by
  intro O H Wx x y d e Q al hx hy h
  unfold oIn at h
  split at h
  · rename_i z
    cases hi : items e with
    | ok ds =>
      rw [hi] at h
      exact ⟨d, e, ds, (hx.mono Sub.unhide).dp (nod_of_lay (SeqAt.canLay_of_shaped z.1)), (hy.mono Sub.unhide).dp (nod_of_lay (SeqAt.canLay_of_shaped z.2)), hi, z.1, z.2, Post.here h (.bl _)⟩
    | exc x => cases e <;> cases hi
    | bad => rw [hi] at h; exact h.elim
  · exact h.elim
theorem ok_notIn : Ok2 K (rInS K true) oNotIn := by
  intro O H Wx x y d e Q al hx hy h
  unfold oNotIn at h
  split at h
  · rename_i z
    cases hi : items e with
    | ok ds =>
      rw [hi] at h
      exact ⟨d, e, ds, (hx.mono Sub.unhide).dp (nod_of_lay (SeqAt.canLay_of_shaped z.1)), (hy.mono Sub.unhide).dp (nod_of_lay (SeqAt.canLay_of_shaped z.2)), hi, z.1, z.2, Post.here h (.bl _)⟩
    | exc x => cases e <;> cases hi
    | bad => rw [hi] at h; exact h.elim
  · exact h.elim
theorem ok_cmp {p : Int → Int → Bool} {u : PyData → PyData → R PyData} (hu : ∀ d e, (∃ i j, d = .int i ∧ e = .int j ∧ u d e = .ok (.bool (p i j))) ∨ u d e = .bad) : Ok2 K (rI0 fun i j => .bl (p i j)) u := by
  intro O H Wx x y d e Q al hx hy h
  rcases hu d e with ⟨i, j, rfl, rfl, q⟩ | q
  · rw [q] at h
    cases hx; cases hy
    exact ⟨_, _, rfl, rfl, Post.here h (.bl _)⟩
  · rw [q] at h
    exact h.elim
theorem ok_lt : Ok2 K (rI0 fun i j => .bl (decide (i < j))) oLt := ok_cmp fun d e => by unfold oLt; split; exact .inl ⟨_, _, rfl, rfl, rfl⟩; exact .inr rfl
theorem ok_le : Ok2 K (rI0 fun i j => .bl (decide (i ≤ j))) oLe := ok_cmp fun d e => by unfold oLe; split; exact .inl ⟨_, _, rfl, rfl, rfl⟩; exact .inr rfl
theorem ok_gt : Ok2 K (rI0 fun i j => .bl (decide (j < i))) oGt := ok_cmp (p := fun i j => decide (j < i)) fun d e => by unfold oGt; split; exact .inl ⟨_, _, rfl, rfl, rfl⟩; exact .inr rfl
theorem ok_ge : Ok2 K (rI0 fun i j => .bl (decide (j ≤ i))) oGe := ok_cmp (p := fun i j => decide (j ≤ i)) fun d e => by unfold oGe; split; exact .inl ⟨_, _, rfl, rfl, rfl⟩; exact .inr rfl
/-- a comparison, by its rule -/
theorem fd_cmp {op : CmpOp} {r : R2} {u : PyData → PyData → R PyData} (ho : OpR X (compareOp op) r) (hk : Ok2 X.K r u) (ha : PE X a (tD X.K Tb W f)) (hb : PE X b (tD X.K Tb W g)) (hm : behindInMarks op b = false) : PE X (.Compare a [op] [b] pos) (tD X.K Tb W (dTwo u f g)) :=
  (pe_cmpR ho ha hb hm).by fun σ H Q h => tD_two hk h
theorem Post.asB {x : R PyData} {Q : Bool → Hp → Prop} (h : Post K O RlB Wx H (x >>= asB) Q) : Post K O (RlD K O) Wx H x (fun v H1 => ∃ k, v = .bl k ∧ Q k H1) := by
  refine Post.then h fun d v H1 e r k => ?_
  unfold PD.asB at k
  split at k
  · cases r
    exact ⟨_, rfl, k _ H1 (Ext.refl _) rfl⟩
  · exact k.elim
theorem ft_cmp {op : CmpOp} {r : R2} {u : PyData → PyData → R PyData} (ho : OpR X (compareOp op) r) (hk : Ok2 X.K r u) (ha : PE X a (tD X.K Tb W f)) (hb : PE X b (tD X.K Tb W g)) (hm : behindInMarks op b = false) : PT X (.Compare a [op] [b] pos) (tDT X.K Tb W (dAsB (dTwo u f g))) :=
  (pt_cmpR ho ha hb hm).by fun σ H Q ⟨H0, O0, O, ρ, st, h⟩ => tD_two (Tb := Tb) (W := W) hk ⟨H0, O0, O, ρ, st, Post.asB h⟩
theorem fd_isN {j pos'} (ha : PE X a (tD X.K Tb W f)) : PE X (.Compare a [.Is] [.Constant .none j pos'] pos) (tD X.K Tb W (dOne (fun d => .ok (.bool (isNone d))) f)) := (pe_cmp (pc_isN ha) rfl).by fun σ H Q h => by
  obtain ⟨H0, O0, O, ρ, st, h⟩ := h
  refine ⟨H0, O0, O, ρ, st, Post.then h fun d v H1 e r k => ?_⟩
  have : decide (v = .non) = isNone d := by cases r <;> simp [isNone]
  rw [this]
  exact Post.here k (.bl _)
/-- a test by an expression whose value is a bool -/
theorem ft_val (ha : PE X a (tD X.K Tb W f)) (he : ∀ whole, isTrue a X.env whole = (do let v ← whole; standAt a.pos; holding [v] (truthy v)) := by intro _; rfl) : PT X a (tDT X.K Tb W (dAsB f)) :=
  (pt_val ha he).by fun σ H Q ⟨H0, O0, O, ρ, st, h⟩ => ⟨H0, O0, O, ρ, st, (Post.asB h).mono fun b H1 q => q⟩
variable {fb gb : DnB} {rest : List Expr}
theorem fw_and1 (ha : PT X a (tDT X.K Tb W fb)) : PW X (.BoolOp .And [a] pos) (tDT X.K Tb W fb) := pw_and1 ha
theorem fw_or1 (ha : PT X a (tDT X.K Tb W fb)) : PW X (.BoolOp .Or [a] pos) (tDT X.K Tb W fb) := pw_or1 ha
theorem fw_and (ha : PT X a (tDT X.K Tb W fb)) (hb : PW X (.BoolOp .And (b :: rest) pos) (tDT X.K Tb W gb)) : PW X (.BoolOp .And (a :: b :: rest) pos) (tDT X.K Tb W (dAnd fb gb)) :=
  (pw_and ha hb).by fun σ H Q ⟨H0, O0, O, ρ, st, h⟩ => ⟨H0, O0, O, ρ, st, by
    refine Post.then h fun d v H1 e r k => ?_
    cases (show v = d from r)
    cases d with
    | true => exact ⟨H0, O0, O, ρ, st.step e, k⟩
    | false => exact k _ H1 (Ext.refl _) rfl⟩
theorem fw_or (ha : PT X a (tDT X.K Tb W fb)) (hb : PW X (.BoolOp .Or (b :: rest) pos) (tDT X.K Tb W gb)) : PW X (.BoolOp .Or (a :: b :: rest) pos) (tDT X.K Tb W (dOr fb gb)) :=
  (pw_or ha hb).by fun σ H Q ⟨H0, O0, O, ρ, st, h⟩ => ⟨H0, O0, O, ρ, st, by
    refine Post.then h fun d v H1 e r k => ?_
    cases (show v = d from r)
    cases d with
    | false => exact ⟨H0, O0, O, ρ, st.step e, k⟩
    | true => exact k _ H1 (Ext.refl _) rfl⟩
theorem ft_not (ha : PT X a (tDT X.K Tb W fb)) : PT X (.UnaryOp .Not a pos) (tDT X.K Tb W (dNot fb)) := (pt_not ha).by fun σ H Q ⟨H0, O0, O, ρ, st, h⟩ => ⟨H0, O0, O, ρ, st, by
    refine Post.then h fun d v H1 e r k => ?_
    cases (show v = d from r)
    exact k _ H1 (Ext.refl _) rfl⟩
theorem fd_one {op} (h : PE X a (tD X.K Tb W f)) : PE X (.BoolOp op [a] pos) (tD X.K Tb W f) := pe_one h
theorem asB_of {d : PyData} {v : V} {α β : Type} {Rl : Hp → β → α → Prop} {k : Bool → R α} {Q : β → Hp → Prop} {G : Hp} (r : Rp K G v d) (h : Post K O Rl Wx H (asB d >>= k) Q) : ∃ b, v = .bl b ∧ Post K O Rl Wx H (k b) Q := by
  unfold asB at h
  split at h
  · cases r; exact ⟨_, rfl, h⟩
  · exact h.elim
theorem fd_and (ha : PE X a (tD X.K Tb W f)) (hb : PE X (.BoolOp .And (b :: rest) pos) (tD X.K Tb W g)) : PE X (.BoolOp .And (a :: b :: rest) pos) (tD X.K Tb W (dAndV f g)) :=
  (pe_and ha hb).by fun σ H Q ⟨H0, O0, O, ρ, st, h⟩ => ⟨H0, O0, O, ρ, st, by
    refine Post.then h fun d v H1 e r k => ?_
    obtain ⟨b, rfl, k⟩ := asB_of r k
    refine ⟨b, rfl, ?_⟩
    cases b with
    | true => exact ⟨H0, O0, O, ρ, st.step e, k⟩
    | false => exact Post.here k (.bl _)⟩
theorem fd_not (ha : PE X a (tD X.K Tb W f)) : PE X (.UnaryOp .Not a pos) (tD X.K Tb W (dNotV f)) := (pe_not ha).by fun σ H Q ⟨H0, O0, O, ρ, st, h⟩ => ⟨H0, O0, O, ρ, st, by
    refine Post.then h fun d v H1 e r k => ?_
    obtain ⟨b, rfl, k⟩ := asB_of r k
    exact ⟨b, rfl, Post.here k (.bl _)⟩⟩
theorem fd_if (hc : PT X c (tDT X.K Tb W fb)) (ha : PE X a (tD X.K Tb W f)) (hb : PE X b (tD X.K Tb W g)) : PE X (.IfExp c a b pos) (tD X.K Tb W (dIf fb f g)) := (pe_ifExp hc ha hb).by fun σ H Q ⟨H0, O0, O, ρ, st, h⟩ => ⟨H0, O0, O, ρ, st, by
    refine Post.then h fun d v H1 e r k => ?_
    cases (show v = d from r)
    cases d with
    | true => exact ⟨H0, O0, O, ρ, st.step e, k⟩
    | false => exact ⟨H0, O0, O, ρ, st.step e, k⟩⟩
theorem atI_rp {G : Hp} {vs : List V} {ds : List PyData} {i : Int} {d : PyData} (r : RpAll K G vs ds) (h : atI ds i = some d) : ∃ v, atI vs i = some v ∧ Rp K G v d := by
  unfold atI at h ⊢
  rw [r.length]
  cases e : ixN ds.length i with
  | none => rw [e] at h; cases h
  | some j =>
    rw [e] at h
    exact r.get' h
theorem ok_ix : Ok2 K (rIx K) oIx := by
  intro O H Wx x y d e Q al hx hy h
  unfold oIx at h
  split at h
  · cases hy
    cases hx with
    | lst h1 z1 a1 =>
      split at h
      · rename_i e
        obtain ⟨v, h2, h3⟩ := atI_rp a1 e
        exact .inl ⟨_, _, _, v, rfl, rfl, Sub.unhide.sqL h1, h2, Post.here h h3⟩
      · exact h.elim
  · cases hy
    cases hx with
    | tup h1 z1 a1 =>
      split at h
      · rename_i e
        obtain ⟨v, h2, h3⟩ := atI_rp a1 e
        exact .inr (.inl ⟨_, _, _, v, rfl, rfl, Sub.unhide.sqT h1, h2, Post.here h h3⟩)
      · exact h.elim
  · exact h.elim
theorem fd_ix (ha : PE X a (tD X.K Tb W f)) (hb : PE X b (tD X.K Tb W g)) (hs : PlainIx b) : PE X (.Subscript a b pos) (tD X.K Tb W (dTwo oIx f g)) := (pe_ix ix_seq ha hb hs).by fun σ H Q h => tD_two ok_ix h
def tDO (K : PySem.W.Frag) (Tb : List Addr) (W : WX) (f : DnO) : TO := fun σ H Q => ∃ H0 O0 O ρ, St0 K Tb H0 O0 O H σ ρ ∧ Post K O (fun _ (x : Option Int) y => x = y) (fun c d H => W c d σ H) H (f ρ) Q
theorem _root_.L2.PO.by {X : Cx} {e : Option Expr} {t t' : TO} (h : PO X e t) (i : ∀ σ H Q, t' σ H Q → t σ H Q) : PO X e t' := ⟨fun pins s σ H Q I q => h.run pins s σ H Q I (i σ H Q q)⟩
theorem fo_none : PO X none (tDO X.K Tb W dNoP) := PO.by po_none fun σ H Q ⟨_, _, _, _, _, h⟩ => h none H (Ext.refl _) rfl
theorem asI_of {d : PyData} {v : V} {α β : Type} {Rl : Hp → β → α → Prop} {k : Int → R α} {Q : β → Hp → Prop} {G : Hp} (r : Rp K G v d) (h : Post K O Rl Wx H (asI d >>= k) Q) : ∃ b, v = .int b ∧ Post K O Rl Wx H (k b) Q := by
  unfold asI at h
  split at h
  · cases r; exact ⟨_, rfl, h⟩
  · exact h.elim
theorem fo_some (ha : PE X a (tD X.K Tb W f)) : PO X (some a) (tDO X.K Tb W (dPart f)) := PO.by (po_some ha) fun σ H Q ⟨H0, O0, O, ρ, st, h⟩ => ⟨H0, O0, O, ρ, st, by
    refine Post.then h fun d v H1 e r k => ?_
    obtain ⟨b, rfl, k⟩ := asI_of r k
    exact ⟨b, rfl, k _ H1 (Ext.refl _) rfl⟩⟩
theorem cut_rp {G : Hp} {vs : List V} {ds : List PyData} (lo hi : Option Int) (r : RpAll K G vs ds) : RpAll K G (cutV vs lo hi) (cutD ds lo hi) := by
  unfold cutV cutD
  rw [r.length]
  exact (r.drop _).take _
theorem fd_cut {lo hi : Option Expr} {fl fh : DnO} {p2 : Pos} (ha : PE X a (tD X.K Tb W f)) (hl : PO X lo (tDO X.K Tb W fl)) (hh : PO X hi (tDO X.K Tb W fh)) : PE X (.Subscript a (.Slice lo hi none p2) pos) (tD X.K Tb W (dCut f fl fh)) :=
  (pe_slice (SlR.or sl_list sl_tupA) ha hl hh).by fun σ H Q ⟨H0, O0, O, ρ, st, h⟩ => ⟨H0, O0, O, ρ, st, by
    refine Post.then h fun d v H1 e r k => ?_
    refine ⟨H0, O0, O, ρ, st.step e, Post.then k fun l l' H2 e2 r2 k2 => ?_⟩
    cases (show l' = l from r2)
    refine ⟨H0, O0, O, ρ, (st.step e).step e2, Post.then k2 fun u u' H3 e3 r3 k3 => ?_⟩
    cases (show u' = u from r3)
    have r' := r.mono (Sub.hide (e2.trans e3).keep)
    have al := (((st.step e).step e2).step e3).al
    unfold oCut at k3
    split at k3
    · cases r' with
      | lst h1 z1 a1 => exact .inl ⟨_, _, rfl, Sub.unhide.sqL h1, Post.newLst al k3 (Nat.le_trans (cutD_length _ _ _) z1) (cut_rp _ _ a1)⟩
    · cases r' with
      | tup h1 z1 a1 =>
        refine .inr ⟨_, _, rfl, Sub.unhide.sqT h1, fun hw => ?_, fun _ => Post.newTup al k3 (Nat.le_trans (cutD_length _ _ _) z1) (cut_rp _ _ a1)⟩
        refine Post.here k3 ?_
        rw [a1.length] at hw
        unfold cutD
        rw [hw.1, hw.2, List.drop_zero, Nat.sub_zero, List.take_length]
        exact .tup h1 z1 a1
    · exact k3.elim⟩
end
end PD
set_option Elab.async false
set_option linter.all false
set_option maxRecDepth 100000
set_option maxHeartbeats 1000000
namespace PD
open PySem PySem.Spec PyProof.Rows L2
def bLen : List PyData → R PyData
  | [d] => (items d) >>= fun xs => .ok (.int xs.length)
  | _ => .bad
def bInt : List PyData → R PyData
  | [.int i] => .ok (.int i)
  | [.bool b] => .ok (.int (if b then 1 else 0))
  | _ => .bad
def bAbs : List PyData → R PyData
  | [.int i] => .ok (.int (if i < 0 then -i else i))
  | _ => .bad
def bTuple : List PyData → R PyData
  | [d] => (items d) >>= fun xs => .ok (.tuple xs)
  | _ => .bad
def bList : List PyData → R PyData
  | [d] => (items d) >>= fun xs => .ok (.list xs)
  | _ => .bad
def asInts : List PyData → Option (List Int)
  | [] => some []
  | .int i :: r => (asInts r).map fun k => i :: k
  | _ :: _ => none
def asBools : List PyData → Option (List Bool)
  | [] => some []
  | .bool i :: r => (asBools r).map fun k => i :: k
  | _ :: _ => none
def ofO {α : Type} (x : Option α) (f : α → R PyData) : R PyData := match x with
  | some a => f a
  | none => .bad
def bSum : List PyData → R PyData
  | [.list xs] => ofO (asInts xs) fun ns => .ok (.int ns.sum)
  | _ => .bad
def maxI : List Int → Int
  | [] => 0
  | [x] => x
  | x :: r => max x (maxI r)
def bMax : List PyData → R PyData
  | [.list xs] => ofO (asInts xs) fun ns => if 0 < ns.length then .ok (.int (maxI ns)) else .bad
  | _ => .bad
def bMin2 : List PyData → R PyData
  | [.int i, .int j] => .ok (.int (if j < i then j else i))
  | _ => .bad
def bAny : List PyData → R PyData
  | [.list xs] => ofO (asBools xs) fun ns => .ok (.bool (ns.any id))
  | _ => .bad
def bAll : List PyData → R PyData
  | [.list xs] => ofO (asBools xs) fun ns => .ok (.bool (ns.all id))
  | _ => .bad
/-- isinstance(x, T) of data: T one of int, bool, tuple, list, str -/
def isiD (T : String) : PyData → Option Bool
  | .none => kitB "NoneType" T
  | .bool _ => kitB "bool" T
  | .int _ => kitB "int" T
  | .str _ => kitB "str" T
  | .list _ => kitB "list" T
  | .tuple _ => kitB "tuple" T
  | .dict _ => none
def oIsi (T : String) (d : PyData) : R PyData := match isiD T d with
  | some b => .ok (.bool b)
  | none => .bad
theorem maxI_mem : ∀ {ns : List Int}, 0 < ns.length → maxI ns ∈ ns
  | [], h => by simp at h
  | [x], _ => by simp [maxI]
  | x :: y :: r, _ => by
    have ih := maxI_mem (ns := y :: r) (by simp)
    show max x (maxI (y :: r)) ∈ x :: y :: r
    rcases Int.le_total x (maxI (y :: r)) with h | h
    · rw [Int.max_eq_right h]; exact List.mem_cons_of_mem _ ih
    · rw [Int.max_eq_left h]; exact List.mem_cons_self
theorem le_maxI : ∀ {ns : List Int} {y : Int}, y ∈ ns → y ≤ maxI ns
  | [], _, h => by simp at h
  | [x], y, h => by simp at h; subst h; simp [maxI]
  | x :: z :: r, y, h => by
    show y ≤ max x (maxI (z :: r))
    rcases List.mem_cons.mp h with rfl | h
    · exact Int.le_max_left _ _
    · exact Int.le_trans (le_maxI h) (Int.le_max_right _ _)
section
variable {X : Cx} {Tb : List Addr} {W : WX} {K : PySem.W.Frag} {O : List Addr} {H : Hp} {σ : L2.St} {Wx : Value → Option Addr → Hp → Prop}
theorem ints_rp {G : Hp} : ∀ {vs : List V} {ds : List PyData} {ns : List Int}, RpAll K G vs ds → asInts ds = some ns → vs = ns.map V.int
  | _, _, _, .nil, h => by cases h; rfl
  | _, _, _, .cons (d := d) (ds := ds) r t, h => by
    cases r with
    | int i =>
      obtain ⟨k, e, rfl⟩ := Option.map_eq_some_iff.mp h
      rw [ints_rp t e]; rfl
    | _ => cases h
theorem bools_rp {G : Hp} : ∀ {vs : List V} {ds : List PyData} {ns : List Bool}, RpAll K G vs ds → asBools ds = some ns → vs = ns.map V.bl
  | _, _, _, .nil, h => by cases h; rfl
  | _, _, _, .cons (d := d) (ds := ds) r t, h => by
    cases r with
    | bl i =>
      obtain ⟨k, e, rfl⟩ := Option.map_eq_some_iff.mp h
      rw [bools_rp t e]; rfl
    | _ => cases h
theorem ofO_post {α : Type} {x : Option α} {f : α → R PyData} {Q : VK} (h : Post K O (RlD K O) Wx H (ofO x f) Q) : ∃ a, x = some a ∧ Post K O (RlD K O) Wx H (f a) Q := by
  cases x with
  | some a => exact ⟨a, rfl, h⟩
  | none => exact h.elim
theorem ok_len : OkL K (fun xs H Q => ∃ p ys, xs = [.ref p] ∧ (SqL K H p ys ∨ SqT K H p ys) ∧ Q (.int ys.length) H) bLen := by
  intro O H Wx vs ds Q al r h
  unfold bLen at h
  split at h
  · cases r with
    | cons r1 r2 =>
      cases r2
      unfold items at h
      split at h
      · cases r1 with
        | lst h1 z1 a1 => exact ⟨_, _, rfl, .inl (Sub.unhide.sqL h1), by rw [a1.length]; exact Post.here h (.int _)⟩
      · cases r1 with
        | tup h1 z1 a1 => exact ⟨_, _, rfl, .inr (Sub.unhide.sqT h1), by rw [a1.length]; exact Post.here h (.int _)⟩
      · exact h.elim
  · exact h.elim
theorem ok_int : OkL K (fun xs H Q => (∃ i, xs = [.int i] ∧ Q (.int i) H) ∨ ∃ k, xs = [.bl k] ∧ Q (.int (if k then 1 else 0)) H) bInt := by
  intro O H Wx vs ds Q al r h
  unfold bInt at h
  split at h
  · cases r with
    | cons r1 r2 => cases r2; cases r1; exact .inl ⟨_, rfl, Post.here h (.int _)⟩
  · cases r with
    | cons r1 r2 => cases r2; cases r1; exact .inr ⟨_, rfl, Post.here h (.int _)⟩
  · exact h.elim
theorem ok_abs : OkL K (fun xs H Q => ∃ i, xs = [.int i] ∧ Q (.int (if i < 0 then -i else i)) H) bAbs := by
  intro O H Wx vs ds Q al r h
  unfold bAbs at h
  split at h
  · cases r with
    | cons r1 r2 => cases r2; cases r1; exact ⟨_, rfl, Post.here h (.int _)⟩
  · exact h.elim
theorem ok_tuple : OkL K (fun xs H Q => ∃ p ys, xs = [.ref p] ∧ ((SqL K H p ys ∧ ∀ l, H l = none → Q (.ref l) (upd H l (.tup ys))) ∨ (SqT K H p ys ∧ Q (.ref p) H))) bTuple := by
  intro O H Wx vs ds Q al r h
  unfold bTuple at h
  split at h
  · cases r with
    | cons r1 r2 =>
      cases r2
      unfold items at h
      split at h
      · cases r1 with
        | lst h1 z1 a1 => exact ⟨_, _, rfl, .inl ⟨Sub.unhide.sqL h1, Post.newTup al h z1 a1⟩⟩
      · cases r1 with
        | tup h1 z1 a1 => exact ⟨_, _, rfl, .inr ⟨Sub.unhide.sqT h1, Post.here h (.tup h1 z1 a1)⟩⟩
      · exact h.elim
  · exact h.elim
theorem ok_list : OkL K (fun xs H Q => ∃ p ys, xs = [.ref p] ∧ (SqL K H p ys ∨ SqT K H p ys) ∧ ∀ l, H l = none → Q (.ref l) (upd H l (.lst ys))) bList := by
  intro O H Wx vs ds Q al r h
  unfold bList at h
  split at h
  · cases r with
    | cons r1 r2 =>
      cases r2
      unfold items at h
      split at h
      · cases r1 with
        | lst h1 z1 a1 => exact ⟨_, _, rfl, .inl (Sub.unhide.sqL h1), Post.newLst al h z1 a1⟩
      · cases r1 with
        | tup h1 z1 a1 => exact ⟨_, _, rfl, .inr (Sub.unhide.sqT h1), Post.newLst al h z1 a1⟩
      · exact h.elim
  · exact h.elim
/-- of a list of ints -/
theorem ok_ints {g : List Int → R PyData} {u : List PyData → R PyData} {r : List V → Hp → VK → Prop} (hu : ∀ ds, (∃ xs, ds = [.list xs] ∧ u ds = ofO (asInts xs) g) ∨ u ds = .bad)
    (k : ∀ (O : List Addr) (H : Hp) (Wx : Value → Option Addr → Hp → Prop) (a : Addr) (ns : List Int) (Q : VK), Al O H → SqL K H a (ns.map V.int) → Post K O (RlD K O) Wx H (g ns) Q → r [.ref a] H Q) : OkL K r u := by
  intro O H Wx vs ds Q al rp h
  rcases hu ds with ⟨xs, rfl, e⟩ | e
  · rw [e] at h
    obtain ⟨ns, en, h⟩ := ofO_post h
    cases rp with
    | cons r1 r2 =>
      cases r2
      cases r1 with
      | lst h1 z1 a1 =>
        have q := ints_rp a1 en
        subst q
        exact k O H Wx _ ns Q al (Sub.unhide.sqL h1) h
  · rw [e] at h
    exact h.elim
theorem ok_bools {g : List Bool → R PyData} {u : List PyData → R PyData} {r : List V → Hp → VK → Prop} (hu : ∀ ds, (∃ xs, ds = [.list xs] ∧ u ds = ofO (asBools xs) g) ∨ u ds = .bad)
    (k : ∀ (O : List Addr) (H : Hp) (Wx : Value → Option Addr → Hp → Prop) (a : Addr) (ns : List Bool) (Q : VK), Al O H → SqL K H a (ns.map V.bl) → Post K O (RlD K O) Wx H (g ns) Q → r [.ref a] H Q) : OkL K r u := by
  intro O H Wx vs ds Q al rp h
  rcases hu ds with ⟨xs, rfl, e⟩ | e
  · rw [e] at h
    obtain ⟨ns, en, h⟩ := ofO_post h
    cases rp with
    | cons r1 r2 =>
      cases r2
      cases r1 with
      | lst h1 z1 a1 =>
        have q := bools_rp a1 en
        subst q
        exact k O H Wx _ ns Q al (Sub.unhide.sqL h1) h
  · rw [e] at h
    exact h.elim
theorem ok_sum : OkL K (rSum K) bSum := ok_ints (fun ds => by unfold bSum; split; exact .inl ⟨_, rfl, rfl⟩; exact .inr rfl) fun O H Wx a ns Q al s h => ⟨a, ns, rfl, s, Post.here h (.int _)⟩
theorem ok_max : OkL K (rMax K) bMax := ok_ints (fun ds => by unfold bMax; split; exact .inl ⟨_, rfl, rfl⟩; exact .inr rfl) fun O H Wx a ns Q al s h => by
  by_cases hn : 0 < ns.length
  · rw [if_pos hn] at h
    refine ⟨a, ns, rfl, s, hn, fun m h1 h2 => ?_⟩
    have e : m = maxI ns := Int.le_antisymm (le_maxI h1) (h2 _ (maxI_mem hn))
    rw [e]
    exact Post.here h (.int _)
  · rw [if_neg hn] at h
    exact h.elim
theorem ok_any : OkL K (rAny K) bAny := ok_bools (fun ds => by unfold bAny; split; exact .inl ⟨_, rfl, rfl⟩; exact .inr rfl) fun O H Wx a ns Q al s h => ⟨a, ns, rfl, s, Post.here h (.bl _)⟩
theorem ok_all : OkL K (rAll K) bAll := ok_bools (fun ds => by unfold bAll; split; exact .inl ⟨_, rfl, rfl⟩; exact .inr rfl) fun O H Wx a ns Q al s h => ⟨a, ns, rfl, s, Post.here h (.bl _)⟩
theorem ok_min2 : OkL K (fun xs H Q => ∃ i j, xs = [.int i, .int j] ∧ Q (.int (if j < i then j else i)) H) bMin2 := by
  intro O H Wx vs ds Q al r h
  unfold bMin2 at h
  split at h
  · cases r with
    | cons r1 r2 => cases r2 with
      | cons r2 r3 => cases r3; cases r1; cases r2; exact ⟨_, _, rfl, Post.here h (.int _)⟩
  · exact h.elim
variable {x : Str} {p pos : Pos} {e : Expr} {es : List Expr} {g : DnL} {id T : String} {r : List V → Hp → VK → Prop} {u : List PyData → R PyData}
theorem fd_callB (hc : CallR X (.builtin id) r) (hk : OkL X.K r u) (hg : Gl X x) (hm : X.mg x = none) (hv : bootBuiltins x = some (.builtin id)) (ha : PA X (e :: es) (tDs X.K Tb W g)) (hn : x ≠ "__name__" := by decide) (hdb : (x == ("__debug__" : Str)) = false := by decide)
    (he : starEach (e :: es) X.env = (false, eval e X.env) :: starEach es X.env := by rfl) (hpl : (backTo pos (starEach es X.env)).any (·.1) = false := by rfl) : PE X (.Call (.Name x p) (e :: es) [] pos) (tD X.K Tb W (dArg u g)) :=
  (pe_callB hc hg hm hv ha hn hdb he hpl).by fun σ H Q h => tD_arg hk h
theorem fd_callTy (hc : CallR X (.type T) r) (hk : OkL X.K r u) (hg : Gl X x) (hm : X.mg x = none) (hv : bootBuiltins x = some (.type T)) (ha : PA X (e :: es) (tDs X.K Tb W g)) (hn : x ≠ "__name__" := by decide) (hdb : (x == ("__debug__" : Str)) = false := by decide)
    (he : starEach (e :: es) X.env = (false, eval e X.env) :: starEach es X.env := by rfl) (hpl : (backTo pos (starEach es X.env)).any (·.1) = false := by rfl) : PE X (.Call (.Name x p) (e :: es) [] pos) (tD X.K Tb W (dArg u g)) :=
  (pe_callTy hc hg hm hv ha hn hdb he hpl).by fun σ H Q h => tD_arg hk h
theorem tyX_rp {G : Hp} {v : V} {d : PyData} {T : String} {b : Bool} (r : Rp K H v d) (h : isiD T d = some b) : ∃ t, TyX K H v (.type t) ∧ PySem.W.kitOne K (.type t) (.type T) = some b := by
  unfold isiD at h
  cases r with
  | non => exact ⟨_, .base .non, kit_ty h⟩
  | bl b => exact ⟨_, .base (.bl b), kit_ty h⟩
  | int b => exact ⟨_, .base (.int b), kit_ty h⟩
  | str b => exact ⟨_, .base (.str b), kit_ty h⟩
  | lst h1 z a =>
    rcases h1 with (h1 | ⟨o, h1⟩) | ⟨o, its, n, h1, h2, _⟩
    · exact ⟨_, .base (.lst h1), kit_ty h⟩
    · exact ⟨_, .base (.frz h1), kit_ty h⟩
    · exact ⟨_, .kList h1 h2, kit_ty h⟩
  | tup h1 z a =>
    rcases h1 with (h1 | ⟨o, h1⟩) | ⟨o, its, n, h1, h2, _⟩
    · exact ⟨_, .base (.tup h1), kit_ty h⟩
    · exact ⟨_, .fTuple h1, kit_ty h⟩
    · exact ⟨_, .kTuple h1 h2, kit_ty h⟩
  | dct _ _ => cases h
/-- isinstance(x, T) -/
theorem fd_isi {f : Dn} {a : Expr} {y : Str} {py : Pos} (ha : PE X a (tD X.K Tb W f)) (hg : Gl X "isinstance") (hm : X.mg "isinstance" = none) (hgy : Gl X y) (hmy : X.mg y = none) (hvy : bootBuiltins y = some (.type T)) (hny : y ≠ "__name__" := by decide) (hdy : (y == ("__debug__" : Str)) = false := by decide)
    (he : starEach [a, .Name y py] X.env = (false, eval a X.env) :: starEach [.Name y py] X.env := by rfl) (he2 : starEach [.Name y py] X.env = (false, eval (.Name y py) X.env) :: starEach [] X.env := by rfl) (hpl : (backTo pos (starEach [.Name y py] X.env)).any (·.1) = false := by rfl) :
    PE X (.Call (.Name "isinstance" p) [a, .Name y py] [] pos) (tD X.K Tb W (dOne (oIsi T) f)) :=
  (pe_callB call_isi hg hm boot_isinstance (pa_cons ha (pa_cons (pe_bltn (v := .ty T) hgy hmy hvy rfl hny hdy) pa_nil he2) he) (by decide) (by decide) he hpl).by fun σ H Q ⟨H0, O0, O, ρ, st, h⟩ => ⟨H0, O0, O, ρ, st, by
    refine Post.then h fun d v H1 e r k => ?_
    unfold oIsi at k
    split at k
    · rename_i b hb
      obtain ⟨t, h1, h2⟩ := tyX_rp (G := H1) (r.mono Sub.unhide) hb
      exact ⟨v, .ty T, .type t, .type T, b, rfl, .ty T, h1, h2, Post.here k (.bl b)⟩
    · exact k.elim⟩
end
end PD
set_option Elab.async false
set_option linter.all false
set_option maxRecDepth 100000
set_option maxHeartbeats 1000000
namespace PD
open PySem PySem.Spec PyProof.Rows L2
structure ItD (K : PySem.W.Frag) (G : Hp) (J : It) (ds : List PyData) : Prop where
  len : ds.length ≤ sizeLine
  go : ∀ i H', Ext G H' → i < ds.length → J.go i H'
  yld : ∀ i H' (O' : List Addr) x H'', Ext G H' → (∀ b ∈ O', G b = none) → Al O' H' → i < ds.length → J.yld i H' x H'' → Ext H' H'' ∧ ∃ d, ds[i]? = some d ∧ Rp K (hide O' H'') x d
  stop : ∀ H', Ext G H' → J.stop ds.length H'
def tI (K : PySem.W.Frag) (Tb : List Addr) (W : WX) (f : DnL) : TI := fun σ H R => ∃ H0 O0 O ρ, St0 K Tb H0 O0 O H σ ρ ∧ Post K O (fun H' J ds => ItD K (hide O H') J ds) (fun c d H => W c d σ H) H (f ρ) R
theorem _root_.L2.PI.by {X : Cx} {tg iter : Expr} {t t' : TI} (h : PI X tg iter t) (i : ∀ σ H Q, t' σ H Q → t σ H Q) : PI X tg iter t' := ⟨fun pins s σ H Q I q => h.run pins s σ H Q I (i σ H Q q)⟩
section
variable {K : PySem.W.Frag} {G H H' H'' : Hp} {O O' : List Addr} {a : Addr} {ds : List PyData} {xs : List V}
theorem Ext.under (e : Ext G H') (n : ∀ b ∈ O', G b = none) : Sub G (hide O' H') := fun b o h h2 => by
  have hb : b ∉ O' := fun m => by rw [n b m] at h; cases h
  rw [hide_out hb]
  exact e.keep b o h h2
theorem itd_list (h : SqL K G a xs) (z : ds.length ≤ sizeLine) (r : RpAll K G xs ds) : ItD K G (Itl K a) ds where
  len := z
  go := fun i H' e hi => by
    have hx : i < xs.length := by rw [r.length]; exact hi
    exact ⟨xs, xs[i], (Sub.ext e).sqL h, List.getElem?_eq_getElem hx⟩
  yld := fun i H' O' x H'' e n al hi y => by
    obtain ⟨rfl, y⟩ := y
    have q := y xs ((Sub.ext e).sqL h)
    obtain ⟨d, h1, h2⟩ := r.get q
    exact ⟨Ext.refl _, d, h1, h2.mono (e.under n)⟩
  stop := fun H' e => ⟨xs, (Sub.ext e).sqL h, by rw [r.length]; exact Nat.le_refl _⟩
theorem itd_tup (h : SqT K G a xs) (z : ds.length ≤ sizeLine) (r : RpAll K G xs ds) : ItD K G (Itt K a) ds where
  len := z
  go := fun i H' e hi => by
    have hx : i < xs.length := by rw [r.length]; exact hi
    exact ⟨xs, xs[i], (Sub.ext e).sqT h, List.getElem?_eq_getElem hx⟩
  yld := fun i H' O' x H'' e n al hi y => by
    obtain ⟨rfl, y⟩ := y
    have q := y xs ((Sub.ext e).sqT h)
    obtain ⟨d, h1, h2⟩ := r.get q
    exact ⟨Ext.refl _, d, h1, h2.mono (e.under n)⟩
  stop := fun H' e => ⟨xs, (Sub.ext e).sqT h, by rw [r.length]; exact Nat.le_refl _⟩
/-- lo, lo + 1, .. -/
def rngD (lo : Int) (n : Nat) : List PyData := (List.range n).map fun i => .int (lo + (i : Nat))
theorem itd_rng {lo : Int} {n : Nat} (z : n ≤ sizeLine) : ItD K G (Itr lo n) (rngD lo n) where
  len := by unfold rngD; rw [List.length_map, List.length_range]; exact z
  go := fun i H' e hi => by
    unfold rngD at hi; rw [List.length_map, List.length_range] at hi; exact hi
  yld := fun i H' O' x H'' e n' al hi y => by
    obtain ⟨rfl, rfl⟩ := y
    unfold rngD at hi ⊢
    rw [List.length_map, List.length_range] at hi
    exact ⟨Ext.refl _, _, by rw [List.getElem?_map, List.getElem?_range hi]; rfl, .int _⟩
  stop := fun H' e => by
    unfold rngD
    rw [List.length_map, List.length_range]
    exact Nat.le_refl n
end
section
variable {X : Cx} {Tb : List Addr} {W : WX} {tg : Expr}
theorem pi_both {l : Expr} {tl : TE} (hl : PE X l tl) : PI X tg l (fun σ H R => tl σ H fun x H1 => ∃ a, x = .ref a ∧ (((∃ xs, SqL X.K H1 a xs) ∧ R (Itl X.K a) H1) ∨ ((∃ xs, SqT X.K H1 a xs) ∧ R (Itt X.K a) H1))) := by
  refine ⟨fun pins s σ H R I h => ?_⟩
  refine thn (hl.run pins s σ H _ I h) fun v s1 ⟨x, H1, I1, r1, q1⟩ => ?_
  obtain ⟨a, e, q | q⟩ := q1
  · have k : PI X tg (.Name "x" ⟨0, 0, 0, 0⟩) (fun _ H' R' => H' = H1 ∧ R' = R) → True := fun _ => trivial
    obtain ⟨⟨xs, hq⟩, q⟩ := q
    subst e
    cases r1
    obtain ⟨its, rv, p, hz⟩ := I1.list hq
    refine wpAny_pyIter_list p.isList ?_
    have f : FpOk X pins H1 s1.heap.objs.size := I1.fpOk (Nat.le_refl _) (I1.hok.fresh (Nat.le_refl _))
    exact ⟨s1.heap.objs.size, [s1.heap.objs.size], _, _, H1, rfl, I1.kept (t' := s1.toks) fun b o e => Heap.get?_push_of_some _ e, turn_list a _, ⟨_, Heap.get?_push_size _ rfl, rfl, rfl⟩, fun b hb => (List.mem_singleton.mp hb) ▸ f, q⟩
  · obtain ⟨⟨xs, hq⟩, q⟩ := q
    subst e
    cases r1
    obtain ⟨its, rv, p, hz⟩ := I1.tuple hq
    refine wpAny_pyIter_tuple (show s1.heap.IsTuple a its.toArray from p) ?_
    have f : FpOk X pins H1 s1.heap.objs.size := I1.fpOk (Nat.le_refl _) (I1.hok.fresh (Nat.le_refl _))
    exact ⟨s1.heap.objs.size, [s1.heap.objs.size], _, _, H1, rfl, I1.kept (t' := s1.toks) fun b o e => Heap.get?_push_of_some _ e, turn_tuple a _, ⟨_, Heap.get?_push_size _ rfl, rfl, rfl⟩, fun b hb => (List.mem_singleton.mp hb) ▸ f, q⟩
def dItems (f : Dn) : DnL := fun ρ => f ρ >>= items
theorem fi_seq {l : Expr} {f : Dn} (hl : PE X l (tD X.K Tb W f)) : PI X tg l (tI X.K Tb W (dItems f)) := (pi_both hl).by fun σ H R ⟨H0, O0, O, ρ, st, h⟩ => ⟨H0, O0, O, ρ, st, by
  refine Post.then h fun d v H1 e r k => ?_
  unfold items at k
  split at k
  · cases r with
    | lst h1 z1 a1 => exact ⟨_, rfl, .inl ⟨⟨_, Sub.unhide.sqL h1⟩, k _ H1 (Ext.refl _) (itd_list h1 z1 a1)⟩⟩
  · cases r with
    | tup h1 z1 a1 => exact ⟨_, rfl, .inr ⟨⟨_, Sub.unhide.sqT h1⟩, k _ H1 (Ext.refl _) (itd_tup h1 z1 a1)⟩⟩
  · exact k.elim⟩
def rngA1 : List PyData → R (List PyData)
  | [.int n] => if -(2 ^ 62) ≤ n ∧ n.toNat ≤ sizeLine then .ok (rngD 0 n.toNat) else .bad
  | _ => .bad
def rngA2 : List PyData → R (List PyData)
  | [.int a, .int b] => if (-(2 ^ 62) ≤ a ∧ a < 2 ^ 62 ∧ -(2 ^ 62) ≤ b ∧ b < 2 ^ 62) ∧ (b - a).toNat ≤ sizeLine then .ok (rngD a (b - a).toNat) else .bad
  | _ => .bad
def dRng1 (g : DnL) : DnL := fun ρ => g ρ >>= rngA1
def dRng2 (g : DnL) : DnL := fun ρ => g ρ >>= rngA2
theorem line62 : (sizeLine : Int) < 2 ^ 62 := by rw [sizeLine_eq]; decide
theorem fi_rng1 {a : Expr} {g : DnL} {p pos : Pos} (hg : Gl X "range") (hm : X.mg "range" = none) (ha : PA X [a] (tDs X.K Tb W g)) (hs : starEach [a] X.env = [(false, eval a X.env)] := by rfl) : PI X tg (.Call (.Name "range" p) [a] [] pos) (tI X.K Tb W (dRng1 g)) :=
  (pi_range1 hg hm ha hs).by fun σ H R' ⟨H0, O0, O, ρ, st, h⟩ => ⟨H0, O0, O, ρ, st, by
    refine Post.then h fun d v H1 e r k => ?_
    unfold rngA1 at k
    split at k
    · split at k
      · rename_i z
        cases r with
        | cons r1 r2 =>
          cases r2
          cases r1
          have := line62
          exact ⟨_, rfl, z.1, by omega, k _ H1 (Ext.refl _) (itd_rng z.2)⟩
      · exact k.elim
    · exact k.elim⟩
inductive Tg where
  | nm (i : Nat)
  | tp (ts : List Tg)
mutual
def Tg.set : Tg → PyData → Rho → Option Rho
  | .nm i, d, ρ => some (ρ.set i (some (.d d)))
  | .tp ts, d, ρ => match d with
    | .tuple ds => Tg.sets ts ds ρ
    | _ => none
def Tg.sets : List Tg → List PyData → Rho → Option Rho
  | [], [], ρ => some ρ
  | t :: ts, d :: ds, ρ => (Tg.set t d ρ).bind fun ρ' => Tg.sets ts ds ρ'
  | _, _, _ => none
end
mutual
def Tg.ixs : Tg → List Nat
  | .nm i => [i]
  | .tp ts => Tg.ixss ts
def Tg.ixss : List Tg → List Nat
  | [] => []
  | t :: ts => Tg.ixs t ++ Tg.ixss ts
end
/-- but for the places is -/
def Agr (is : List Nat) (σ σ' : L2.St) : Prop := σ'.length = σ.length ∧ ∀ j, j ∉ is → σ'[j]? = σ[j]?
theorem Agr.refl (is : List Nat) (σ : L2.St) : Agr is σ σ := ⟨rfl, fun _ _ => rfl⟩
theorem Agr.trans {is js : List Nat} {σ σ1 σ2 : L2.St} (a : Agr is σ σ1) (b : Agr js σ1 σ2) : Agr (is ++ js) σ σ2 :=
  ⟨b.1.trans a.1, fun j h => by rw [List.mem_append, not_or] at h; rw [b.2 j h.2, a.2 j h.1]⟩
theorem wipe_in {σ : L2.St} {j : Nat} : ∀ {vs : List Nat}, j ∈ vs → j < σ.length → (wipe σ vs)[j]? = some none
  | v :: vs, h, hl => by
    unfold wipe
    by_cases e : v = j
    · subst e
      rw [List.getElem?_set_self (by rw [wipe_length]; exact hl)]
    · rw [List.getElem?_set_ne e]
      rcases List.mem_cons.mp h with h | h
      · exact absurd h.symm e
      · exact wipe_in h hl
theorem Agr.wipe {is vs : List Nat} {σ σ' : L2.St} (a : Agr is σ σ') (h : ∀ i ∈ is, i ∈ vs) : L2.wipe σ' vs = L2.wipe σ vs := by
  apply List.ext_getElem?
  intro j
  by_cases hj : j ∈ vs
  · by_cases hl : j < σ.length
    · rw [wipe_in hj hl, wipe_in hj (by rw [a.1]; exact hl)]
    · rw [List.getElem?_eq_none (by rw [wipe_length, a.1]; omega), List.getElem?_eq_none (by rw [wipe_length]; omega)]
  · rw [wipe_out hj, wipe_out hj, a.2 j fun m => hj (h j m)]
/-- a target: the value v, that reads as d, is stored -/
def tG (K : PySem.W.Frag) (Tb : List Addr) (t : Tg) : TG := fun v σ H Q => ∃ H0 O0 O ρ ρ' d, St0 K Tb H0 O0 O H σ ρ ∧ Rp K (hide O H) v d ∧ t.set d ρ = some ρ' ∧ ∀ σ', St0 K Tb H0 O0 O H σ' ρ' → Agr t.ixs σ σ' → Q σ' H
def tGs (K : PySem.W.Frag) (Tb : List Addr) (ts : List Tg) : TGs := fun vs σ H Q => ∃ H0 O0 O ρ ρ' ds, St0 K Tb H0 O0 O H σ ρ ∧ RpAll K (hide O H) vs ds ∧ Tg.sets ts ds ρ = some ρ' ∧ ∀ σ', St0 K Tb H0 O0 O H σ' ρ' → Agr (Tg.ixss ts) σ σ' → Q σ' H
theorem _root_.L2.PG.by {X : Cx} {tg : Expr} {t t' : TG} (h : PG X tg t) (i : ∀ v σ H Q, t' v σ H Q → t v σ H Q) : PG X tg t' := ⟨fun pins s σ H v u Q I r q => h.run pins s σ H v u Q I r (i v σ H Q q)⟩
theorem _root_.L2.PGs.by {X : Cx} {tg : List Expr} {t t' : TGs} (h : PGs X tg t) (i : ∀ v σ H Q, t' v σ H Q → t v σ H Q) : PGs X tg t' := ⟨fun pins s σ H v u Q I r q => h.run pins s σ H v u Q I r (i v σ H Q q)⟩
theorem St0.set {K : PySem.W.Frag} {H0 H : Hp} {O0 O : List Addr} {ρ : Rho} {σ : L2.St} {i : Nat} {v : V} {d : PyData} (st : St0 K Tb H0 O0 O H σ ρ) (r : Rp K (hide O H) v d) : St0 K Tb H0 O0 O H (σ.set i (some v)) (ρ.set i (some (.d d))) where
  ext := st.ext
  sub := st.sub
  new := st.new
  al := st.al
  tab := st.tab
  pln := st.pln
  len := by rw [List.length_set, List.length_set]; exact st.len
  slot := fun j x h => by
    by_cases e : i = j
    · subst e
      have hl : i < ρ.length := by
        have := (List.getElem?_eq_some_iff.mp h).1
        rw [List.length_set] at this
        exact this
      rw [List.getElem?_set_self hl] at h
      cases h
      exact ⟨v, by rw [List.getElem?_set_self (by rw [st.len]; exact hl)], r⟩
    · rw [List.getElem?_set_ne e] at h ⊢
      exact st.slot j x h
  inj := fun j k p xs ys hx hy h1 h2 h3 h4 => by
    by_cases e : i = j
    · subst e
      have hl : i < ρ.length := by
        have := (List.getElem?_eq_some_iff.mp h1).1
        rw [List.length_set] at this
        exact this
      rw [List.getElem?_set_self hl] at h1
      cases h1
      exact hx.elim
    · by_cases e2 : i = k
      · subst e2
        have hl : i < ρ.length := by
          have := (List.getElem?_eq_some_iff.mp h2).1
          rw [List.length_set] at this
          exact this
        rw [List.getElem?_set_self hl] at h2
        cases h2
        exact hy.elim
      · rw [List.getElem?_set_ne e] at h1 h3
        rw [List.getElem?_set_ne e2] at h2 h4
        exact st.inj j k p xs ys hx hy h1 h2 h3 h4
theorem fg_nm {i : Nat} {x : Str} {pos : Pos} (hN : X.N.Nodup) (hi : X.N[i]? = some x) (hx : Loc X.env.scope x) (hf : X.fn x = true ∨ X.env.scope.names.lookup x = some .local := by first | exact .inl rfl | exact .inr rfl | assumption) : PG X (.Name x pos) (tG X.K Tb (.nm i)) :=
  (pg_name hN hi hx hf).by fun v σ H Q ⟨H0, O0, O, ρ, ρ', d, st, r, e, q⟩ => by
    unfold Tg.set at e
    cases e
    refine q _ (st.set r) ⟨by rw [List.length_set], fun j hj => ?_⟩
    unfold Tg.ixs at hj
    rw [List.getElem?_set_ne (fun e => hj (by rw [e]; exact List.mem_singleton.mpr rfl))]
theorem fgs_nil : PGs X [] (tGs X.K Tb []) := pgs_nil.by fun v σ H Q ⟨H0, O0, O, ρ, ρ', ds, st, r, e, q⟩ => by
  cases r with
  | nil =>
    unfold Tg.sets at e
    cases e
    exact ⟨rfl, q _ st (Agr.refl _ _)⟩
  | cons _ _ => unfold Tg.sets at e; cases e
theorem fgs_cons {e : Expr} {es : List Expr} {t : Tg} {ts : List Tg} (h1 : PG X e (tG X.K Tb t)) (h2 : PGs X es (tGs X.K Tb ts))
    (hs : (assignEach (e :: es) X.env).map (·.2) = assign e X.env :: (assignEach es X.env).map (·.2) := by rfl) : PGs X (e :: es) (tGs X.K Tb (t :: ts)) := (pgs_cons h1 h2 hs).by fun v σ H Q ⟨H0, O0, O, ρ, ρ', ds, st, r, e, q⟩ => by
  cases r with
  | nil => unfold Tg.sets at e; cases e
  | @cons v vs d ds r1 r2 =>
    unfold Tg.sets at e
    cases e1 : Tg.set t d ρ with
    | none => rw [e1] at e; cases e
    | some ρ1 =>
      rw [e1] at e
      refine ⟨v, vs, rfl, H0, O0, O, ρ, ρ1, d, st, r1, e1, fun σ' st' ag => ?_⟩
      refine ⟨H0, O0, O, ρ1, ρ', ds, st', r2, e, fun σ2 st2 ag2 => q _ st2 ?_⟩
      unfold Tg.ixss
      exact ag.trans ag2
theorem fg_tup {es : List Expr} {k : Nat} {ts : List Tg} {pos : Pos} {n : Nat} (hc : X.calm = true) (h : PGs X es (tGs X.K Tb ts)) (hn : (assignEach es X.env).length = n := by rfl) (hst : (assignEach es X.env).findIdx? (·.1) = none := by rfl) (hl : ts.length = n := by rfl) :
    PG X (.Tuple es k pos) (tG X.K Tb (.tp ts)) := (pg_tup hc h hn hst).by fun v σ H Q ⟨H0, O0, O, ρ, ρ', d, st, r, e, q⟩ => by
  unfold Tg.set at e
  split at e
  · cases r with
    | tup h1 z1 a1 =>
      rename_i xs ds _
      have hlen : ∀ (ts : List Tg) (ds : List PyData) (ρ ρ' : Rho), Tg.sets ts ds ρ = some ρ' → ds.length = ts.length := by
        intro ts
        induction ts with
        | nil => intro ds ρ ρ' e; cases ds with
          | nil => rfl
          | cons _ _ => unfold Tg.sets at e; cases e
        | cons t ts ih => intro ds ρ ρ' e; cases ds with
          | nil => unfold Tg.sets at e; cases e
          | cons d ds =>
            unfold Tg.sets at e
            cases e1 : Tg.set t d ρ with
            | none => rw [e1] at e; cases e
            | some ρ1 =>
              rw [e1] at e
              rw [List.length_cons, List.length_cons, ih _ _ _ e]
      refine ⟨_, _, rfl, Sub.unhide.sqT h1, ?_, H0, O0, O, ρ, ρ', _, st, a1, e, fun σ' st' ag => q σ' st' ?_⟩
      · rw [a1.length, hlen _ _ _ _ e, hl]
      · unfold Tg.ixs
        exact ag
  · cases e
end
end PD
set_option Elab.async false
set_option linter.all false
set_option maxRecDepth 100000
set_option maxHeartbeats 1000000
namespace PD
open PySem PySem.Spec PyProof.Rows L2
def nx {α β : Type} (x : R α) (k : α → R β) : R β := match x with
  | .ok a => k a
  | _ => .bad
theorem nx_ok {α β : Type} {x : R α} {k : α → R β} {b : β} (h : nx x k = .ok b) : ∃ a, x = .ok a ∧ k a = .ok b := by
  cases x with
  | ok a => exact ⟨a, rfl, h⟩
  | exc e => cases h
  | bad => cases h
@[simp] theorem nx_ok' {α β : Type} {a : α} {k : α → R β} : nx (.ok a) k = k a := rfl
def wipeR (ρ : Rho) : List Nat → Rho
  | [] => ρ
  | v :: vs => (wipeR ρ vs).set v none
def lcGo (t : Tg) (ft : DnB) (fe : Dn) (ρ : Rho) : List PyData → R (List PyData)
  | [] => .ok []
  | d :: ds => match t.set d ρ with
    | some ρ1 => nx (ft ρ1) fun b => if b = true then nx (fe ρ1) fun y => nx (lcGo t ft fe ρ ds) fun ys => .ok (y :: ys) else lcGo t ft fe ρ ds
    | none => .bad
def dLc (fi : DnL) (t : Tg) (ft : DnB) (fe : Dn) (vs : List Nat) : Dn := fun ρ => fi ρ >>= fun ds => nx (lcGo t ft fe (wipeR ρ vs) ds) fun ys => .ok (.list ys)
def W0 : WX := fun _ _ _ _ => False
def dYes : DnB := fun _ => .ok true
theorem wipeR_length (ρ : Rho) : ∀ vs : List Nat, (wipeR ρ vs).length = ρ.length
  | [] => rfl
  | v :: vs => by unfold wipeR; rw [List.length_set, wipeR_length ρ vs]
theorem wipeR_some {ρ : Rho} {i : Nat} {x : Sl} : ∀ {vs : List Nat}, (wipeR ρ vs)[i]? = some (some x) → ρ[i]? = some (some x) ∧ i ∉ vs
  | [], h => ⟨h, by simp⟩
  | v :: vs, h => by
    unfold wipeR at h
    by_cases hi : v = i
    · subst hi
      by_cases hv : v < (wipeR ρ vs).length
      · rw [List.getElem?_set_self hv] at h; cases h
      · rw [List.getElem?_eq_none (by simpa using hv)] at h; cases h
    · rw [List.getElem?_set_ne hi] at h
      obtain ⟨h1, h2⟩ := wipeR_some h
      exact ⟨h1, by simp only [List.mem_cons, not_or]; exact ⟨fun e => hi e.symm, h2⟩⟩
theorem wipe_wipe {σ : L2.St} {vs : List Nat} : L2.wipe (L2.wipe σ vs) vs = L2.wipe σ vs := by
  refine Agr.wipe (is := vs) ⟨wipe_length _ _, fun j h => wipe_out h⟩ fun _ h => h
section
variable {K : PySem.W.Frag} {Tb : List Addr} {H0 H H1 : Hp} {O0 O : List Addr} {ρ : Rho} {σ : L2.St} {D p : Addr} {o : HO}
theorem St0.wiped (st : St0 K Tb H0 O0 O H σ ρ) (vs : List Nat) : St0 K Tb H0 O0 O H (L2.wipe σ vs) (wipeR ρ vs) where
  ext := st.ext
  sub := st.sub
  new := st.new
  al := st.al
  tab := st.tab
  pln := st.pln
  len := by rw [wipe_length, wipeR_length]; exact st.len
  slot := fun i x h => by
    obtain ⟨h1, h2⟩ := wipeR_some h
    obtain ⟨v, h3, h4⟩ := st.slot i x h1
    exact ⟨v, by rw [wipe_out h2]; exact h3, h4⟩
  inj := fun i j p xs ys hx hy h1 h2 h3 h4 => by
    obtain ⟨a1, a2⟩ := wipeR_some h1
    obtain ⟨b1, b2⟩ := wipeR_some h2
    rw [wipe_out a2] at h3
    rw [wipe_out b2] at h4
    exact st.inj i j p xs ys hx hy a1 b1 h3 h4
theorem tabG_ne {H : Hp} {P p : Addr} (t : TabC H P) (h : ∀ ps, H p ≠ some (.tbl ps)) : P ≠ p := fun e => by
  obtain ⟨ps, q, _⟩ := t
  rw [e] at q
  exact h ps q
theorem Ext.updN (e : Ext H H1) (n : H D = none) (pl : ∀ c q, H1 D ≠ some (LamX.CodeO c q)) : Ext H (upd H1 D o) where
  keep := fun b x h t => by
    rw [upd_ne (ne_of_none h n)]
    exact e.keep b x h t
  tab := fun b t => by
    have hb : b ≠ D := tabG_ne t fun ps q => by rw [n] at q; cases q
    exact (e.tab b t).mono (fun ps h => by rw [upd_ne hb]; exact h) fun c q h => by rw [upd_ne fun z => pl c q (by rw [← z]; exact h)]; exact h
  al := fun b h => by
    by_cases hb : b = D
    · rw [hb, upd_same]; simp
    · rw [upd_ne hb]; exact e.al b h
theorem hide_upd (m : p ∈ O) : hide O (upd H p o) = hide O H := by
  funext b
  unfold hide
  by_cases hb : b ∈ O
  · rw [if_pos hb, if_pos hb]
  · rw [if_neg hb, if_neg hb, upd_ne (fun e => hb (by rw [e]; exact m))]
/-- a new hidden object -/
theorem St0.more (st : St0 K Tb H0 O0 O H σ ρ) (n : H D = none) (pl : Plain o) : St0 K Tb H0 O0 (D :: O) (upd H D o) σ ρ := by
  have n0 : H0 D = none := by
    cases q : H0 D with
    | none => rfl
    | some x => exact absurd n (st.ext.al D (by rw [q]; simp))
  have sub : Sub (hide O H) (hide (D :: O) (upd H D o)) := fun b x h t => by
    obtain ⟨h1, h2⟩ := hide_some h
    have hb : b ≠ D := ne_of_none h2 n
    rw [hide_out (by rw [List.mem_cons, not_or]; exact ⟨hb, h1⟩), upd_ne hb]
    exact h2
  refine ⟨st.ext.updN n0 (fun _ _ z => by rw [n] at z; cases z), fun b h => List.mem_cons_of_mem _ (st.sub b h), fun b h h2 => ?_, fun b h => ?_, fun P m => ?_, fun b m m2 => ?_, st.len, fun i x h => ?_, st.inj⟩
  · rcases List.mem_cons.mp h with rfl | h
    · exact n0
    · exact st.new b h h2
  · rcases List.mem_cons.mp h with rfl | h
    · rw [upd_same]; simp
    · by_cases hb : b = D
      · rw [hb, upd_same]; simp
      · rw [upd_ne hb]; exact st.al b h
  · exact (st.tab P m).mono (fun ps h => by rw [upd_ne (ne_of_none h n)]; exact h) fun c q h => by rw [upd_ne (ne_of_none h n)]; exact h
  · rcases List.mem_cons.mp m with rfl | m
    · exact ⟨o, upd_same, pl⟩
    · obtain ⟨x, h, q⟩ := st.pln b m m2
      exact ⟨x, by rw [upd_ne (ne_of_none h n)]; exact h, q⟩
  · obtain ⟨v, h1, h2⟩ := st.slot i x h
    exact ⟨v, h1, h2.mv sub (fun _ p _ m _ => ⟨List.mem_cons_of_mem _ m, fun o hp _ => by rw [upd_ne (ne_of_none hp n)]; exact hp⟩) fun dd fs h => by rw [upd_ne (ne_of_none h n)]; exact h⟩
/-- the hidden object at D, which no slot owns, is changed -/
theorem St0.hid (st : St0 K Tb H0 O0 O H σ ρ) (m : D ∈ O) (m0 : D ∉ O0) {l : List V} (hD : H D = some (.lst l)) (hs : ∀ (i : Nat) (s : Sl), s.Hold → ρ[i]? = some (some s) → σ[i]? ≠ some (some (.ref D))) {l' : List V} : St0 K Tb H0 O0 O (upd H D (.lst l')) σ ρ where
  ext := st.ext.updN (st.new D m m0) (fun c q z => by rw [hD] at z; exact (plain_lst l).1 c q (Option.some.inj z))
  sub := st.sub
  new := st.new
  al := fun b h => by
    by_cases hb : b = D
    · rw [hb, upd_same]; simp
    · rw [upd_ne hb]; exact st.al b h
  tab := fun P mp => by
    have hb : P ≠ D := tabG_ne (st.tab P mp) fun ps q => by rw [hD] at q; cases q
    exact (st.tab P mp).mono (fun ps h => by rw [upd_ne hb]; exact h) fun c q h => by
      rw [upd_ne fun z => (plain_lst l).1 c q (Option.some.inj (hD.symm.trans (by rw [← z]; exact h)))]
      exact h
  pln := fun b mb nb => by
    by_cases hb : b = D
    · exact ⟨_, by rw [hb]; exact upd_same, plain_lst l'⟩
    · obtain ⟨x, h, q⟩ := st.pln b mb nb
      exact ⟨x, by rw [upd_ne hb]; exact h, q⟩
  len := st.len
  slot := fun i x h => by
    obtain ⟨v, h1, h2⟩ := st.slot i x h
    refine ⟨v, h1, h2.mv (by rw [hide_upd m]; exact fun _ _ h _ => h) (fun hx p ev mp _ => ⟨mp, fun o hp _ => ?_⟩) fun dd fs h => ?_⟩
    · have hne : p ≠ D := fun e => hs i x hx h (by rw [h1, ev, e])
      rw [upd_ne hne]; exact hp
    · rw [upd_ne (fun e => by rw [e, hD] at h; cases h)]; exact h
  inj := st.inj
theorem Ext.unhide : Ext (hide O H) H where
  keep := Sub.unhide
  tab := fun b t => t.mono (fun ps h => (hide_some h).2) fun c q h => (hide_some h).2
  al := fun b h => by
    cases q : hide O H b with
    | none => exact absurd q h
    | some x => rw [(hide_some q).2]; simp
theorem hide_in {b : Addr} (h : b ∈ O) : hide O H b = none := by unfold hide; rw [if_pos h]
theorem hide_none {b : Addr} (h : H b = none) : hide O H b = none := by unfold hide; split <;> first | rfl | exact h
end
section
variable {X : Cx} {Tb : List Addr} {W : WX}
theorem ft_yes : PTs X [] (tDT X.K Tb W dYes) := ⟨fun pins s σ H Q I ⟨_, _, _, _, _, h⟩ => pts_nil.run pins s σ H Q I (h true H (Ext.refl _) rfl)⟩
theorem ft_one {c : Expr} {f : DnB} (h : PT X c (tDT X.K Tb W f)) : PTs X [c] (tDT X.K Tb W f) := pts_one h
/-- the turns of a comprehension's block -/
theorem lc_turns {K : PySem.W.Frag} {t : Tg} {ft : DnB} {fe : Dn} {vs : List Nat} {σ : L2.St} {ρ : Rho} {H0 H1 : Hp} {O0 O : List Addr} {J : It} {ds ys : List PyData} {Q : VK} (hv : ∀ i ∈ t.ixs, i ∈ vs)
    (st1 : St0 K Tb H0 O0 O H1 σ ρ) (it : ItD K (hide O H1) J ds) (hys : lcGo t ft fe (wipeR ρ vs) ds = .ok ys)
    (fin : ∀ D acc H', Ext H1 H' → H1 D = none → H' D = some (.lst acc) → ys.length ≤ sizeLine → RpAll K (hide (D :: O) H') acc ys → Q (.ref D) H') :
    ∀ D, H1 D = none → ∃ W : Nat → Nat → Hp → Prop, (∃ m, W 0 m (upd H1 D (.lst []))) ∧ ∀ i m H, W i m H →
      (J.stop i H ∧ Q (.ref D) H) ∨ (J.go i H ∧ ∃ Nx : Hp → Prop, (∀ H', Nx H' → ∃ m', m' < m ∧ W (i + 1) m' H') ∧ ∀ x H', J.yld i H x H' → tG K Tb t x (L2.wipe σ vs) H' fun σ2 H2 => L2.wipe σ2 vs = L2.wipe σ vs ∧ tDT K Tb W0 ft σ2 H2 fun b H3 =>
        if b = true then tD K Tb W0 fe σ2 H3 fun y H4 => ∃ acc, H4 D = some (.lst acc) ∧ acc.length < sizeLine ∧ Nx (upd H4 D (.lst (acc ++ [y]))) else Nx H3) := by
  intro D nD
  have aD : D ∉ O := st1.fresh nD
  have stw := (st1.wiped vs).more (o := .lst []) nD (plain_lst [])
  have aD0 : D ∉ O0 := fun m => aD (st1.sub D m)
  have own : ∀ (i : Nat) (s : Sl), s.Hold → (wipeR ρ vs)[i]? = some (some s) → (L2.wipe σ vs)[i]? ≠ some (some (.ref D)) := fun i s hs h1 h2 => aD ((st1.wiped vs).hold hs h1 h2).1
  have nO : ∀ b ∈ D :: O, hide O H1 b = none := fun b hb => by
    rcases List.mem_cons.mp hb with rfl | hb
    · exact hide_none nD
    · exact hide_in hb
  refine ⟨fun i m H' => i ≤ ds.length ∧ m = ds.length - i ∧ ∃ acc accD rest, St0 K Tb H0 O0 (D :: O) H' (L2.wipe σ vs) (wipeR ρ vs) ∧ Ext H1 H' ∧ H' D = some (.lst acc) ∧ RpAll K (hide (D :: O) H') acc accD ∧ acc.length ≤ i ∧ lcGo t ft fe (wipeR ρ vs) (ds.drop i) = .ok rest ∧ accD ++ rest = ys,
    ⟨ds.length, Nat.zero_le _, by simp, [], [], ys, stw, Ext.new nD, upd_same, .nil, Nat.le_refl _, hys, rfl⟩, ?_⟩
  rintro i m H' ⟨hi, rfl, acc, accD, rest, s1, e1, hD, ra, la, go, ey⟩
  have eG : Ext (hide O H1) H' := Ext.unhide.trans e1
  by_cases hlt : i < ds.length
  · refine .inr ⟨it.go i H' eG hlt, fun H2 => i + 1 ≤ ds.length ∧ ∃ acc accD rest, St0 K Tb H0 O0 (D :: O) H2 (L2.wipe σ vs) (wipeR ρ vs) ∧ Ext H1 H2 ∧ H2 D = some (.lst acc) ∧ RpAll K (hide (D :: O) H2) acc accD ∧ acc.length ≤ i + 1 ∧ lcGo t ft fe (wipeR ρ vs) (ds.drop (i + 1)) = .ok rest ∧ accD ++ rest = ys,
      fun H2 q => ⟨ds.length - (i + 1), by omega, q.1, rfl, q.2⟩, fun x H2 y => ?_⟩
    obtain ⟨e2, d, hd, rx⟩ := it.yld i H' (D :: O) x H2 eG nO s1.al hlt y
    have hdr : ds.drop i = d :: ds.drop (i + 1) := by
      obtain ⟨hl, hd'⟩ := List.getElem?_eq_some_iff.mp hd
      rw [List.drop_eq_getElem_cons hl, hd']
    rw [hdr] at go
    unfold lcGo at go
    cases et : t.set d (wipeR ρ vs) with
    | none => rw [et] at go; cases go
    | some ρ1 =>
      rw [et] at go
      obtain ⟨b, eb, go⟩ := nx_ok go
      have s2 := s1.step e2
      refine ⟨H0, O0, D :: O, wipeR ρ vs, ρ1, d, s2, rx, et, fun σ' st' ag => ⟨(ag.wipe hv).trans wipe_wipe, H0, O0, D :: O, ρ1, st', ?_⟩⟩
      rw [eb]
      intro b' H3 e3 r3
      cases (show b' = b from r3)
      have s3 := st'.step e3
      cases b with
      | false =>
        refine ⟨hlt, acc, accD, rest, s2.step e3, (e1.trans e2).trans e3, (e2.trans e3).keep D _ hD (fun _ q => by cases q), ra.mono (Sub.hide (e2.trans e3).keep), Nat.le_succ_of_le la, go, ey⟩
      | true =>
        obtain ⟨yd, ey1, go⟩ := nx_ok go
        obtain ⟨rs, er, go⟩ := nx_ok go
        cases go
        refine ⟨H0, O0, D :: O, ρ1, s3, ?_⟩
        rw [ey1]
        intro y H4 e4 r4
        have hD4 := ((e2.trans e3).trans e4).keep D _ hD (fun _ q => by cases q)
        have s4 := (s2.step e3).step e4
        have zl : acc.length < sizeLine := by have := it.len; omega
        refine ⟨acc, hD4, zl, hlt, acc ++ [y], accD ++ [yd], rs, s4.hid List.mem_cons_self aD0 hD4 own, (((e1.trans e2).trans e3).trans e4).updN nD (fun c q z => (plain_lst acc).1 c q (Option.some.inj (hD4.symm.trans z))), upd_same, ?_, ?_, er, ?_⟩
        · rw [hide_upd List.mem_cons_self]
          exact (ra.mono (Sub.hide ((e2.trans e3).trans e4).keep)).append (.one r4)
        · rw [List.length_append]; simp; exact la
        · rw [List.append_assoc]; exact ey
  · have ei : i = ds.length := by omega
    subst ei
    refine .inl ⟨it.stop H' eG, ?_⟩
    rw [List.drop_length] at go
    cases go
    rw [List.append_nil] at ey
    subst ey
    refine fin D acc H' e1 nD hD ?_ ra
    have := it.len
    have := ra.length
    omega
/-- the walk of a comprehension's block -/
theorem lc_walk {K : PySem.W.Frag} {t : Tg} {ft : DnB} {fe : Dn} {fi : DnL} {vs : List Nat} {σ : L2.St} {H : Hp} {Q : VK} (hv : ∀ i ∈ t.ixs, i ∈ vs) (h : tD K Tb W (dLc fi t ft fe vs) σ H Q) :
    tLc (tI K Tb W fi) (tG K Tb t) (tDT K Tb W0 ft) (tD K Tb W0 fe) vs σ H Q := by
  obtain ⟨H0, O0, O, ρ, st, h⟩ := h
  refine ⟨H0, O0, O, ρ, st, Post.then h fun ds J H1 e it k => ?_⟩
  cases q : lcGo t ft fe (wipeR ρ vs) ds with
  | exc x => rw [q] at k; exact k.elim
  | bad => rw [q] at k; exact k.elim
  | ok ys =>
    rw [q] at k
    refine lc_turns hv (st.step e) it q fun D acc H' e1 nD hD z ra => ?_
    have aD : D ∉ O := (st.step e).fresh nD
    exact k _ H' e1 (.lst (.of (by rw [hide_out aD]; exact hD)) z (ra.mono (Sub.less fun b hb => List.mem_cons_of_mem _ hb)))
/-- [e for t in i if c] -/
theorem fd_lc {elt tg iter : Expr} {ifs : List Expr} {scope : Scope} {own : List (Str × Nat)} {pos : Pos} {fi : DnL} {t : Tg} {ft : DnB} {fe : Dn} (hc : X.calm = true) (hN : X.N.Nodup) (hi : PI X tg iter (tI X.K Tb W fi)) (ok : BlkOk X.N X.env.scope scope own)
    (hg : ∀ (s : Shared) (H : Hp) (C : Addr) (cl : List (Str × Addr)) (fp : List Addr), PG (X.blk s H scope (compEnvC scope cl C X.env) fp) tg (tG X.K Tb t))
    (ht : ∀ (s : Shared) (H : Hp) (C : Addr) (cl : List (Str × Addr)) (fp : List Addr), PTs (X.blk s H scope (compEnvC scope cl C X.env) fp) ifs (tDT X.K Tb W0 ft))
    (he : ∀ (s : Shared) (H : Hp) (C : Addr) (cl : List (Str × Addr)) (fp : List Addr), PE (X.blk s H scope (compEnvC scope cl C X.env) fp) elt (tD X.K Tb W0 fe))
    (hv : ∀ i ∈ t.ixs, i ∈ own.map (·.2) := by decide) (hs : ∀ x, foldedSetIterable iter X.env x = pure x := by intro _; rfl) : PE X (.ListComp elt [⟨tg, iter, ifs, 0⟩] scope pos) (tD X.K Tb W (dLc fi t ft fe (own.map (·.2)))) :=
  (pe_lc hc hN hi ok hg ht he hs).by fun σ H Q h => lc_walk hv h
end
end PD
set_option Elab.async false
set_option linter.all false
set_option maxRecDepth 100000
set_option maxHeartbeats 1000000
namespace PD
open PySem PySem.Spec PyProof.Rows L2
inductive Out where
  | nx (ρ : Rho)
  | rt (d : PyData)
  | bk (ρ : Rho)
  | ct (ρ : Rho)
  | exc (e : Ex) (ρ : Rho)
  | bad
abbrev Sn := Rho → Out
def PostS (K : PySem.W.Frag) (Tb : List Addr) (W : WX) (H0 : Hp) (O0 : List Addr) (out : Out) (D : Ends) : Prop := match out with
  | .nx ρ => ∀ O σ H, St0 K Tb H0 O0 O H σ ρ → D.nx σ H
  | .rt d => ∀ v H, Ext H0 H → Rp K (hide O0 H) v d → D.rt v H
  | .bk ρ => ∀ O σ H, St0 K Tb H0 O0 O H σ ρ → D.bk σ H
  | .ct ρ => ∀ O σ H, St0 K Tb H0 O0 O H σ ρ → D.ct σ H
  | .exc e ρ => ∀ O σ H c d, St0 K Tb H0 O0 O H σ ρ → ExR K (hide O H) H c d e → W c d σ H
  | .bad => False
def tS (K : PySem.W.Frag) (Tb : List Addr) (W : WX) (g : Sn) : TS := fun D σ H => ∃ H0 O0 O ρ, St0 K Tb H0 O0 O H σ ρ ∧ PostS K Tb W H0 O0 (g ρ) D
/-- a result, then a statement's end -/
def oR {α : Type} (x : R α) (ρ : Rho) (k : α → Out) : Out := match x with
  | .ok a => k a
  | .exc e => .exc e ρ
  | .bad => .bad
def oO (x : Option Rho) : Out := match x with
  | some ρ => .nx ρ
  | none => .bad
def gSkip : Sn := .nx
def gSeq (g h : Sn) : Sn := fun ρ => match g ρ with
  | .nx ρ' => h ρ'
  | o => o
def gSet (f : Dn) (t : Tg) : Sn := fun ρ => oR (f ρ) ρ fun d => oO (t.set d ρ)
def gExpr (f : Dn) : Sn := fun ρ => oR (f ρ) ρ fun _ => .nx ρ
def gRet (f : Dn) : Sn := fun ρ => oR (f ρ) ρ .rt
def gIf (c : DnB) (g h : Sn) : Sn := fun ρ => oR (c ρ) ρ fun b => if b = true then g ρ else h ρ
def forGo (t : Tg) (g : Sn) : List PyData → Rho → Out
  | [], ρ => .nx ρ
  | d :: ds, ρ => match t.set d ρ with
    | some ρ1 => match g ρ1 with
      | .nx ρ2 => forGo t g ds ρ2
      | .ct ρ2 => forGo t g ds ρ2
      | .bk ρ2 => .nx ρ2
      | o => o
    | none => .bad
def gFor (fi : DnL) (t : Tg) (g : Sn) : Sn := fun ρ => oR (fi ρ) ρ fun ds => forGo t g ds ρ
/-- the list that slot i owns becomes a plain datum -/
def frz (i : Nat) (ρ : Rho) : Option Rho := match ρ[i]? with
  | some (some (.own ds)) => some (ρ.set i (some (.d (.list ds))))
  | _ => none
def gFrz (i : Nat) (g : Sn) : Sn := fun ρ => match frz i ρ with
  | some ρ' => g ρ'
  | none => .bad
/-- slot i owns a new list -/
def gOwn (f : Dn) (i : Nat) : Sn := fun ρ => oR (f ρ) ρ fun d => match d with
  | .list ds => .nx (ρ.set i (some (.own ds)))
  | _ => .bad
def ownAt (ρ : Rho) (i : Nat) (k : List PyData → Out) : Out := match ρ[i]? with
  | some (some (.own ds)) => k ds
  | _ => .bad
def gApp (i : Nat) (f : Dn) : Sn := fun ρ => ownAt ρ i fun ds => oR (f ρ) ρ fun d => if ds.length < sizeLine then .nx (ρ.set i (some (.own (ds ++ [d])))) else .bad
def thaw (ρ : Rho) : Rho := ρ.map fun s => match s with
  | some (.own ds) => some (.d (.list ds))
  | some (.dct ks) => some (.d (.dict (ks.map fun k => (.tuple (k.map .int), .bool true))))
  | some (.dk _) => none
  | s => s
def dThawB (f : DnB) : DnB := fun ρ => nx (f (thaw ρ)) .ok
def flat : PyData → Bool
  | .none => true
  | .bool _ => true
  | .int _ => true
  | .str _ => true
  | _ => false
def dThaw (f : Dn) : Dn := fun ρ => nx (f (thaw ρ)) fun d => if flat d = true then .ok d else .bad
section
variable {K : PySem.W.Frag} {Tb : List Addr} {W : WX} {H0 H0' H H' : Hp} {O0 O : List Addr} {ρ : Rho} {σ : L2.St} {p : Addr} {D : Ends}
theorem St0.init {vs : List V} {ds : List PyData} (n : Nat) (al : Al O H) (tb : ∀ P ∈ Tb, TabC H P) (r : RpAll K (hide O H) vs ds) : St0 K Tb H O O H (vs.map some ++ List.replicate n none) (ds.map (fun d => some (.d d)) ++ List.replicate n none) where
  ext := Ext.refl H
  sub := fun _ h => h
  new := fun b h h2 => absurd h h2
  al := al
  tab := tb
  pln := fun b m n => absurd m n
  len := by simp [r.length]
  slot := fun i s h => by
    have hi : i < ds.length := by
      by_cases hi : i < ds.length
      · exact hi
      · rw [List.getElem?_append_right (by simpa using hi), List.getElem?_replicate] at h
        split at h <;> cases h
    rw [List.getElem?_append_left (by simpa using hi), List.getElem?_map] at h
    cases e : ds[i]? with
    | none => rw [e] at h; cases h
    | some d =>
      rw [e] at h
      cases h
      obtain ⟨v, h1, h2⟩ := r.get' e
      refine ⟨v, ?_, h2⟩
      have hl : i < vs.length := by rw [r.length]; exact hi
      rw [List.getElem?_append_left (by simpa using hl), List.getElem?_map, h1]
      rfl
  inj := fun i j p xs ys hx _ h1 _ _ _ => by
    have hi : i < ds.length := by
      by_cases hi : i < ds.length
      · exact hi
      · rw [List.getElem?_append_right (by simpa using hi), List.getElem?_replicate] at h1
        split at h1 <;> cases h1
    rw [List.getElem?_append_left (by simpa using hi), List.getElem?_map] at h1
    cases e : ds[i]? with
    | none => rw [e] at h1; cases h1
    | some d => rw [e] at h1; cases h1; exact hx.elim
def rebase (O0 O : List Addr) (H : Hp) : Hp := hide (O.filter fun b => decide (b ∉ O0)) H
theorem mem_rebase {b : Addr} : b ∈ (O.filter fun b => decide (b ∉ O0)) ↔ b ∈ O ∧ b ∉ O0 := by
  rw [List.mem_filter, decide_eq_true_eq]
theorem St0.rebase (st : St0 K Tb H0 O0 O H σ ρ) : St0 K Tb (rebase O0 O H) O0 O H σ ρ :=
  ⟨Ext.unhide, st.sub, fun b h h2 => hide_in (mem_rebase.mpr ⟨h, h2⟩), st.al, st.tab, st.pln, st.len, st.slot, st.inj⟩
theorem St0.baseExt (st : St0 K Tb H0 O0 O H σ ρ) : Ext H0 (PD.rebase O0 O H) := by
  have out : ∀ b, H0 b ≠ none → PD.rebase O0 O H b = H b := fun b h => hide_out fun m => by
    obtain ⟨h1, h2⟩ := mem_rebase.mp m
    exact h (st.new b h1 h2)
  refine ⟨fun b o h t => ?_, fun b t => ?_, fun b h => ?_⟩
  · rw [out b (by rw [h]; simp)]
    exact st.ext.keep b o h t
  · refine (st.ext.tab b t).mono (fun ps h => ?_) fun c q h => ?_
    · obtain ⟨ps0, h0, _⟩ := t
      rw [out b (by rw [h0]; simp)]
      exact h
    · refine (hide_out fun m => ?_).trans h
      obtain ⟨m1, m2⟩ := mem_rebase.mp m
      obtain ⟨x, g1, g2⟩ := st.pln c m1 m2
      rw [h] at g1
      exact g2.1 c q (Option.some.inj g1).symm
  · rw [out b h]
    exact st.ext.al b h
theorem St0.unbase {O' : List Addr} {σ' : L2.St} {ρ' : Rho} (e : Ext H0 H0') (st : St0 K Tb H0' O0 O' H' σ' ρ') : St0 K Tb H0 O0 O' H' σ' ρ' :=
  ⟨e.trans st.ext, st.sub, fun b h h2 => by
    cases q : H0 b with
    | none => rfl
    | some x => exact absurd (st.new b h h2) (e.al b (by rw [q]; simp)), st.al, st.tab, st.pln, st.len, st.slot, st.inj⟩
theorem PostS.rebase {out : Out} (e : Ext H0 H0') (h : PostS K Tb W H0 O0 out D) : PostS K Tb W H0' O0 out D := by
  cases out with
  | nx ρ => exact fun O σ H st => h O σ H (st.unbase e)
  | bk ρ => exact fun O σ H st => h O σ H (st.unbase e)
  | ct ρ => exact fun O σ H st => h O σ H (st.unbase e)
  | rt d => exact fun v H e' r => h v H (e.trans e') r
  | exc x ρ => exact fun O σ H c d st => h O σ H c d (st.unbase e)
  | bad => exact h
theorem oR_post {α β : Type} {Rl : Hp → β → α → Prop} {x : R α} {k : α → Out} {Q : β → Hp → Prop} (st : St0 K Tb H0 O0 O H σ ρ) (h : PostS K Tb W H0 O0 (oR x ρ k) D)
    (q : ∀ a b H1, Ext H H1 → Rl H1 b a → PostS K Tb W H0 O0 (k a) D → Q b H1) : Post K O Rl (fun c d H => W c d σ H) H x Q := by
  cases x with
  | ok a => exact fun b H1 e r => q a b H1 e r h
  | exc e => exact fun c d H1 ex r => h O σ H1 c d (st.step ex) r
  | bad => exact h
/-- a list that slot i owns changes -/
theorem St0.ownSet {i : Nat} {ds ds' : List PyData} {vs' : List V} (st : St0 K Tb H0 O0 O H σ ρ) (hi : ρ[i]? = some (some (.own ds))) (hp : σ[i]? = some (some (.ref p))) (z : ds'.length ≤ sizeLine) (r : RpAll K (hide O H) vs' ds') :
    St0 K Tb H0 O0 O (upd H p (.lst vs')) σ (ρ.set i (some (.own ds'))) := by
  obtain ⟨v, h1, p', vs, h2, m, m0, hH, _, _⟩ := st.slot i _ hi
  rw [hp] at h1
  cases h1
  cases h2
  have il : i < ρ.length := (List.getElem?_eq_some_iff.mp hi).1
  have own : ∀ (j : Nat) (s : Sl), s.Hold → j ≠ i → ρ[j]? = some (some s) → σ[j]? ≠ some (some (.ref p)) := fun j s hs hj h1 h2 => hj (st.inj j i p s (.own ds) hs trivial h1 hi h2 hp)
  refine ⟨st.ext.updN (st.new p m m0) (fun c q z => (plain_lst vs).1 c q (Option.some.inj (hH.symm.trans z))), st.sub, st.new, fun b h => ?_, fun P mp => ?_, fun b mb nb => ?_, by rw [List.length_set]; exact st.len, fun j x h => ?_, fun j k q xs ys hx hy h1 h2 h3 h4 => ?_⟩
  · by_cases hb : b = p
    · rw [hb, upd_same]; simp
    · rw [upd_ne hb]; exact st.al b h
  · have hb : P ≠ p := tabG_ne (st.tab P mp) fun ps q => by rw [hH] at q; cases q
    exact (st.tab P mp).mono (fun ps h => by rw [upd_ne hb]; exact h) fun c q h => by
      rw [upd_ne fun z => (plain_lst vs).1 c q (Option.some.inj (hH.symm.trans (by rw [← z]; exact h)))]
      exact h
  · by_cases hb : b = p
    · exact ⟨_, by rw [hb]; exact upd_same, plain_lst vs'⟩
    · obtain ⟨x, h, q⟩ := st.pln b mb nb
      exact ⟨x, by rw [upd_ne hb]; exact h, q⟩
  · by_cases e : i = j
    · subst e
      rw [List.getElem?_set_self il] at h
      cases h
      exact ⟨_, hp, p, vs', rfl, m, m0, upd_same, z, by rw [hide_upd m]; exact r⟩
    · rw [List.getElem?_set_ne e] at h
      obtain ⟨v, h1, h2⟩ := st.slot j x h
      refine ⟨v, h1, h2.mv (by rw [hide_upd m]; exact fun _ _ h _ => h) (fun hx q ev mq _ => ⟨mq, fun o hq _ => ?_⟩) fun dd fs h => ?_⟩
      · have hne : q ≠ p := fun e2 => own j x hx (fun z => e z.symm) h (by rw [h1, ev, e2])
        rw [upd_ne hne]; exact hq
      · rw [upd_ne (fun e => by rw [e, hH] at h; cases h)]; exact h
  · have g : ∀ (j : Nat) (s : Sl), s.Hold → (ρ.set i (some (.own ds')))[j]? = some (some s) → ∃ s', s'.Hold ∧ ρ[j]? = some (some s') := fun j s hs h => by
      by_cases e : i = j
      · subst e; exact ⟨.own ds, trivial, hi⟩
      · rw [List.getElem?_set_ne e] at h; exact ⟨s, hs, h⟩
    obtain ⟨xs', x1, g1⟩ := g j xs hx h1
    obtain ⟨ys', y1, g2⟩ := g k ys hy h2
    exact st.inj j k q xs' ys' x1 y1 g1 g2 h3 h4
/-- a new list becomes slot i's own -/
theorem St0.ownNew {i : Nat} {ds : List PyData} {vs : List V} (st : St0 K Tb H0 O0 O H σ ρ) (e : Ext H H') (n : H p = none) (hp : H' p = some (.lst vs)) (z : ds.length ≤ sizeLine) (r : RpAll K (hide (p :: O) H') vs ds) :
    St0 K Tb H0 O0 (p :: O) H' (σ.set i (some (.ref p))) (ρ.set i (some (.own ds))) := by
  have nO : p ∉ O := st.fresh n
  have n0 : H0 p = none := by
    cases q : H0 p with
    | none => rfl
    | some x => exact absurd n (st.ext.al p (by rw [q]; simp))
  have sub : Sub (hide O H) (hide (p :: O) H') := fun b o h t => by
    obtain ⟨h1, h2⟩ := hide_some h
    have hb : b ≠ p := ne_of_none h2 n
    rw [hide_out (by rw [List.mem_cons, not_or]; exact ⟨hb, h1⟩)]
    exact e.keep b o h2 t
  have nown : ∀ (j : Nat) (s : Sl), s.Hold → ρ[j]? = some (some s) → σ[j]? ≠ some (some (.ref p)) := fun j s hs h h2 => nO (st.hold hs h h2).1
  refine ⟨st.ext.trans e, fun b h => List.mem_cons_of_mem _ (st.sub b h), fun b h h2 => ?_, fun b h => ?_, fun P m => e.tab P (st.tab P m), fun b mb nb => ?_, by rw [List.length_set, List.length_set]; exact st.len, fun j s h => ?_, fun j k q xs ys hx hy h1 h2 h3 h4 => ?_⟩
  · rcases List.mem_cons.mp h with rfl | h
    · exact n0
    · exact st.new b h h2
  · rcases List.mem_cons.mp h with rfl | h
    · rw [hp]; simp
    · exact e.al b (st.al b h)
  · rcases List.mem_cons.mp mb with rfl | mb
    · exact ⟨_, hp, plain_lst vs⟩
    · obtain ⟨x, h, q⟩ := st.pln b mb nb
      exact ⟨x, e.keep b x h q.2, q⟩
  · by_cases ej : i = j
    · subst ej
      have il : i < ρ.length := by
        have := (List.getElem?_eq_some_iff.mp h).1
        rw [List.length_set] at this
        exact this
      rw [List.getElem?_set_self il] at h
      cases h
      exact ⟨_, by rw [List.getElem?_set_self (by rw [st.len]; exact il)], p, vs, rfl, List.mem_cons_self, fun m => nO (st.sub p m), hp, z, r⟩
    · rw [List.getElem?_set_ne ej] at h ⊢
      obtain ⟨v, h1, h2⟩ := st.slot j s h
      exact ⟨v, h1, h2.mv sub (fun _ q _ mq _ => ⟨List.mem_cons_of_mem _ mq, fun o hq n => e.keep q o hq n⟩) fun dd fs h => e.keep dd _ h fun _ z => by cases z⟩
  · have lt : ∀ (j : Nat) (s : Sl), i = j → (ρ.set i (some (.own ds)))[j]? = some (some s) → j < σ.length := fun j xs ej h => by
      have := (List.getElem?_eq_some_iff.mp h).1
      rw [List.length_set] at this
      rw [st.len]; exact this
    by_cases ej : i = j
    · by_cases ek : i = k
      · rw [← ej, ← ek]
      · subst ej
        rw [List.getElem?_set_self (lt _ _ rfl h1)] at h3
        cases h3
        rw [List.getElem?_set_ne ek] at h2 h4
        exact absurd h4 (nown k ys hy h2)
    · by_cases ek : i = k
      · subst ek
        rw [List.getElem?_set_self (lt _ _ rfl h2)] at h4
        cases h4
        rw [List.getElem?_set_ne ej] at h1 h3
        exact absurd h3 (nown j xs hx h1)
      · rw [List.getElem?_set_ne ej] at h1 h3
        rw [List.getElem?_set_ne ek] at h2 h4
        exact st.inj j k q xs ys hx hy h1 h2 h3 h4
/-- slot i's own list becomes a datum -/
theorem St0.frz {i : Nat} {ρ' : Rho} (st : St0 K Tb H0 O0 O H σ ρ) (h : PD.frz i ρ = some ρ') : ∃ O', St0 K Tb H0 O0 O' H σ ρ' := by
  unfold PD.frz at h
  split at h
  · rename_i ds hi
    cases h
    obtain ⟨v, h1, p, vs, rfl, m, m0, hp, z, r⟩ := st.slot i _ hi
    have il : i < ρ.length := (List.getElem?_eq_some_iff.mp hi).1
    have mem : ∀ b, b ∈ O.filter (fun b => decide (b ≠ p)) ↔ b ∈ O ∧ b ≠ p := fun b => by rw [List.mem_filter, decide_eq_true_eq]
    have sub : Sub (hide O H) (hide (O.filter fun b => decide (b ≠ p)) H) := Sub.less fun b hb => ((mem b).mp hb).1
    refine ⟨O.filter fun b => decide (b ≠ p), st.ext, fun b hb => (mem b).mpr ⟨st.sub b hb, fun e => m0 (by rw [← e]; exact hb)⟩, fun b hb => st.new b ((mem b).mp hb).1, fun b hb => st.al b ((mem b).mp hb).1, st.tab, fun b hb => st.pln b ((mem b).mp hb).1, by rw [List.length_set]; exact st.len, fun j s hs => ?_, fun j k q xs ys hx hy h2 h3 h4 h5 => ?_⟩
    · by_cases ej : i = j
      · subst ej
        rw [List.getElem?_set_self il] at hs
        cases hs
        refine ⟨_, h1, .lst (.of ?_) z (r.mono sub)⟩
        rw [hide_out (fun hb => ((mem p).mp hb).2 rfl)]
        exact hp
      · rw [List.getElem?_set_ne ej] at hs
        obtain ⟨v, g1, g2⟩ := st.slot j s hs
        exact ⟨v, g1, g2.mv sub (fun hx q ev mq _ => ⟨(mem q).mpr ⟨mq, fun e => ej (st.inj i j p (.own ds) s trivial hx hi hs h1 (by rw [g1, ev, e]))⟩, fun o hq _ => hq⟩) fun _ _ h => h⟩
    · by_cases ej : i = j
      · subst ej
        rw [List.getElem?_set_self il] at h2
        cases h2
        exact hx.elim
      · by_cases ek : i = k
        · subst ek
          rw [List.getElem?_set_self il] at h3
          cases h3
          exact hy.elim
        · rw [List.getElem?_set_ne ej] at h2
          rw [List.getElem?_set_ne ek] at h3
          exact st.inj j k q xs ys hx hy h2 h3 h4 h5
  · cases h
/-- all own lists as data, for a moment -/
theorem St0.thaw (st : St0 K Tb H0 O0 O H σ ρ) : St0 K Tb H0 O0 O0 H σ (PD.thaw ρ) := by
  have sub : Sub (hide O H) (hide O0 H) := Sub.less st.sub
  have get : ∀ (i : Nat) (s : Sl), (PD.thaw ρ)[i]? = some (some s) → (∃ x, s = .d x ∧ ρ[i]? = some (some (.d x))) ∨ (∃ xs, s = .d (.list xs) ∧ ρ[i]? = some (some (.own xs))) ∨ (∃ ks, s = .d (.dict (ks.map fun k => (.tuple (k.map .int), .bool true))) ∧ ρ[i]? = some (some (.dct ks))) ∨ ∃ a c dd e, s = .exn a c dd e ∧ ρ[i]? = some (some (.exn a c dd e)) := fun i s h => by
    unfold PD.thaw at h
    rw [List.getElem?_map] at h
    cases e : ρ[i]? with
    | none => rw [e] at h; cases h
    | some o =>
      rw [e] at h
      cases o with
      | none => cases h
      | some s' =>
        cases s' with
        | d x => cases h; exact .inl ⟨x, rfl, rfl⟩
        | own xs => cases h; exact .inr (.inl ⟨xs, rfl, rfl⟩)
        | dct ks => cases h; exact .inr (.inr (.inl ⟨ks, rfl, rfl⟩))
        | dk ks => cases h
        | exn a c dd e => cases h; exact .inr (.inr (.inr ⟨_, _, _, _, rfl, rfl⟩))
  refine ⟨st.ext, fun _ h => h, fun b h h2 => absurd h h2, fun b h => st.al b (st.sub b h), st.tab, fun b h h2 => absurd h h2, by unfold PD.thaw; rw [List.length_map]; exact st.len, fun i s h => ?_, fun i j p xs ys hx _ h1 _ _ _ => ?_⟩
  · rcases get i s h with ⟨x, rfl, e⟩ | ⟨xs, rfl, e⟩ | ⟨ks, rfl, e⟩ | ⟨a, c, dd, x, rfl, e⟩
    · obtain ⟨v, h1, h2⟩ := st.slot i _ e
      exact ⟨v, h1, Rp.mono sub h2⟩
    · obtain ⟨v, h1, p, vs, rfl, m, m0, hp, z, r⟩ := st.slot i _ e
      exact ⟨_, h1, .lst (.of (by rw [hide_out m0]; exact hp)) z (r.mono sub)⟩
    · obtain ⟨v, h1, p, ep, xs, rfl, m, m0, hp, rfl, r⟩ := st.slot i _ e
      refine ⟨_, h1, ?_⟩
      rw [List.map_map]
      exact .dct (by rw [hide_out m0]; exact hp) fun x hx => sub.sqT (r x hx)
    · obtain ⟨v, h1, h2⟩ := st.slot i _ e
      exact ⟨v, h1, h2.mv sub (fun hx _ _ _ _ => hx.elim) fun _ _ h => h⟩
  · rcases get i _ h1 with ⟨x, rfl, _⟩ | ⟨xs', rfl, _⟩ | ⟨ks, rfl, _⟩ | ⟨a, c, dd, x, rfl, _⟩ <;> exact hx.elim
theorem flat_rp {G G' : Hp} {v : V} {d : PyData} (r : Rp K G v d) (h : flat d = true) : Rp K G' v d := by
  cases r with
  | non => exact .non
  | bl b => exact .bl b
  | int i => exact .int i
  | str x => exact .str x
  | lst _ _ _ => cases h
  | tup _ _ _ => cases h
  | dct _ _ => cases h
end
section
variable {X : Cx} {Tb : List Addr} {W : WX} {e c : Expr} {f : Dn} {fb : DnB} {g h : Sn} {pos : Pos} {st : Stmt} {sts : List Stmt}
theorem ft_thaw (hc : PT X c (tDT X.K Tb W fb)) : PT X c (tDT X.K Tb W (dThawB fb)) := hc.by fun σ H Q ⟨H0, O0, O, ρ, st, h⟩ => ⟨H0, O0, O0, thaw ρ, st.thaw, by
  unfold dThawB at h
  cases q : fb (thaw ρ) with
  | ok b => rw [q] at h; exact h
  | exc x => rw [q] at h; exact h.elim
  | bad => rw [q] at h; exact h.elim⟩
theorem fd_thaw (he : PE X e (tD X.K Tb W f)) : PE X e (tD X.K Tb W (dThaw f)) := he.by fun σ H Q ⟨H0, O0, O, ρ, st, h⟩ => ⟨H0, O0, O0, thaw ρ, st.thaw, by
  unfold dThaw at h
  cases q : f (thaw ρ) with
  | ok d =>
    rw [q] at h
    by_cases hf : flat d = true
    · have h : Post X.K O (RlD X.K O) _ H (if flat d = true then .ok d else .bad) Q := h
      rw [if_pos hf] at h
      exact fun v H' e' r => h v H' e' (flat_rp r hf)
    · have h : Post X.K O (RlD X.K O) _ H (if flat d = true then .ok d else .bad) Q := h
      rw [if_neg hf] at h
      exact h.elim
  | exc x => rw [q] at h; exact h.elim
  | bad => rw [q] at h; exact h.elim⟩
theorem fs_nil : PSs X [] (tS X.K Tb W gSkip) := pss_nil.by fun D σ H ⟨H0, O0, O, ρ, st, h⟩ => h O σ H st
theorem fs_cons (h1 : PS X st (tS X.K Tb W g)) (h2 : PSs X sts (tS X.K Tb W h)) : PSs X (st :: sts) (tS X.K Tb W (gSeq g h)) := (pss_cons h1 h2).by fun D σ H ⟨H0, O0, O, ρ, st, q⟩ => ⟨H0, O0, O, ρ, st, by
  unfold gSeq at q
  cases e : g ρ with
  | nx ρ' => rw [e] at q; exact fun O' σ' H' st' => ⟨H0, O0, O', ρ', st', q⟩
  | rt d => rw [e] at q; exact q
  | bk ρ' => rw [e] at q; exact q
  | ct ρ' => rw [e] at q; exact q
  | exc x ρ' => rw [e] at q; exact q
  | bad => rw [e] at q; exact q⟩
theorem fs_one (h1 : PS X st (tS X.K Tb W g)) : PSs X [st] (tS X.K Tb W g) := pss_one h1
theorem fs_frz (i : Nat) (h1 : PSs X sts (tS X.K Tb W g)) : PSs X sts (tS X.K Tb W (gFrz i g)) := h1.by fun D σ H ⟨H0, O0, O, ρ, st, q⟩ => by
  unfold gFrz at q
  cases e : frz i ρ with
  | none => rw [e] at q; exact q.elim
  | some ρ' =>
    rw [e] at q
    obtain ⟨O', st'⟩ := st.frz e
    exact ⟨H0, O0, O', ρ', st', q⟩
theorem fs_ret (he : PE X e (tD X.K Tb W f)) : PS X (.Return (some e) pos) (tS X.K Tb W (gRet f)) := (ps_ret he).by fun D σ H ⟨H0, O0, O, ρ, st, h⟩ => ⟨H0, O0, O, ρ, st, oR_post st h fun d v H1 e r k => k v H1 (st.ext.trans e) (r.mono (Sub.less st.sub))⟩
theorem fs_if {a b : List Stmt} (hc : PT X c (tDT X.K Tb W fb)) (ha : PSs X a (tS X.K Tb W g)) (hb : PSs X b (tS X.K Tb W h)) : PS X (.If c a b pos) (tS X.K Tb W (gIf fb g h)) := (ps_if hc ha hb).by fun D σ H ⟨H0, O0, O, ρ, st, q⟩ => ⟨H0, O0, O, ρ, st, oR_post st q fun b b' H1 e r k => by
  cases (show b' = b from r)
  cases b with
  | true => exact ⟨H0, O0, O, ρ, st.step e, k⟩
  | false => exact ⟨H0, O0, O, ρ, st.step e, k⟩⟩
/-- name = e -/
theorem fs_set {i : Nat} {x : Str} {pos' : Pos} (hN : X.N.Nodup) (hi : X.N[i]? = some x) (hx : Loc X.env.scope x) (he : PE X e (tD X.K Tb W f)) (hs : swapsWith e (some (.Name x pos')) pos.line X.env = pure false := by rfl)
    (hf : X.fn x = true ∨ X.env.scope.names.lookup x = some .local := by first | exact .inl rfl | exact .inr rfl | assumption) : PS X (.Assign [.Name x pos'] e pos) (tS X.K Tb W (gSet f (.nm i))) := (ps_set hN hi hx he hs hf).by fun D σ H ⟨H0, O0, O, ρ, st, h⟩ => ⟨H0, O0, O, ρ, st, oR_post st h fun d v H1 e r k => by
  unfold Tg.set at k
  exact k O _ H1 ((st.step e).set r)⟩
/-- target = e -/
theorem fs_asg {tg : Expr} {t : Tg} (he : PE X e (tD X.K Tb W f)) (hg : PG X tg (tG X.K Tb t)) (hs : swapsWithSole [tg] e pos.line X.env = pure false := by rfl) (hw : swappedStores [tg] e X.env = pure none := by rfl)
    (h1 : (assignEach [tg] X.env).map (·.2) = [assign tg X.env] := by rfl) : PS X (.Assign [tg] e pos) (tS X.K Tb W (gSet f t)) := (ps_asg he hg hs hw h1).by fun D σ H ⟨H0, O0, O, ρ, st, h⟩ => ⟨H0, O0, O, ρ, st, oR_post st h fun d v H1 e r k => by
  cases q : t.set d ρ with
  | none => rw [q] at k; exact k.elim
  | some ρ' =>
    rw [q] at k
    exact ⟨H0, O0, O, ρ, ρ', d, st.step e, r, q, fun σ' st' _ => k O σ' H1 st'⟩⟩
/-- name = [.. for ..] -/
theorem fs_setLc {i : Nat} {y : Str} {py : Pos} {elt tg iter : Expr} {ifs : List Expr} {scope : Scope} {own : List (Str × Nat)} {spos : Pos} {fi : DnL} {t : Tg} {ft : DnB} {fe : Dn} (hc : X.calm = true) (hN : X.N.Nodup) (hy : X.N[i]? = some y) (hyl : X.env.scope.names.lookup y = some .local)
    (hsw : swapsWith (.ListComp elt [⟨tg, iter, ifs, 0⟩] scope pos) (some (.Name y py)) spos.line X.env = pure true) (hi : PI X tg iter (tI X.K Tb W fi)) (ok : BlkOk X.N X.env.scope scope own)
    (hg : ∀ (s : Shared) (H : Hp) (C : Addr) (cl : List (Str × Addr)) (fp : List Addr), PG (X.blk s H scope (compEnvC scope cl C X.env) fp) tg (tG X.K Tb t))
    (ht : ∀ (s : Shared) (H : Hp) (C : Addr) (cl : List (Str × Addr)) (fp : List Addr), PTs (X.blk s H scope (compEnvC scope cl C X.env) fp) ifs (tDT X.K Tb W0 ft))
    (he : ∀ (s : Shared) (H : Hp) (C : Addr) (cl : List (Str × Addr)) (fp : List Addr), PE (X.blk s H scope (compEnvC scope cl C X.env) fp) elt (tD X.K Tb W0 fe))
    (hv : ∀ i ∈ t.ixs, i ∈ own.map (·.2) := by decide) (hs : ∀ x, foldedSetIterable iter X.env x = pure x := by intro _; rfl) :
    PS X (.Assign [.Name y py] (.ListComp elt [⟨tg, iter, ifs, 0⟩] scope pos) spos) (tS X.K Tb W (gSet (dLc fi t ft fe (own.map (·.2))) (.nm i))) :=
  (ps_setLc hc hN hy hyl hsw hi ok hg ht he hs).by fun D σ H ⟨H0, O0, O, ρ, st, h⟩ => lc_walk (W := W) (Q := fun x H1 => gName i x σ H1 D.nx) hv ⟨H0, O0, O, ρ, st, oR_post st h fun d v H1 e r k => by
    unfold Tg.set at k
    exact k O _ H1 ((st.step e).set r)⟩
theorem fs_for {tg iter : Expr} {body : List Stmt} {fi : DnL} {t : Tg} (hp : PassesOwn (model X.prog X.w) X.A X.env X.xe) (hc : X.calm = true) (hi : PI X tg iter (tI X.K Tb W fi)) (hg : PG X tg (tG X.K Tb t)) (hb : PSs X body (tS X.K Tb W g))
    (hs : ∀ x, foldedSetIterable iter X.env x = pure x := by intro _; rfl) : PS X (.For tg iter body [] pos) (tS X.K Tb W (gFor fi t g)) := (ps_for hp hc hi hg hb hs).by fun D σ H ⟨H0, O0, O, ρ, st, h⟩ => ⟨H0, O0, O, ρ, st, oR_post st h fun ds J H1 e it k => by
  have st1 := (st.step e)
  have eB : Ext H0 (rebase O0 O H1) := st1.baseExt
  have k1 := PostS.rebase eB k
  have eG : Ext (hide O H1) (rebase O0 O H1) := by
    have out : ∀ b o, hide O H1 b = some o → rebase O0 O H1 b = some o := fun b o h => by
      obtain ⟨h1, h2⟩ := hide_some h
      unfold rebase
      rw [hide_out fun m => h1 (mem_rebase.mp m).1]
      exact h2
    refine ⟨fun b o h _ => out b o h, fun b t => t.mono (fun ps h => out b _ h) fun c q h => out c _ h, fun b h => ?_⟩
    cases q : hide O H1 b with
    | none => exact absurd q h
    | some x => rw [out b x q]; simp
  refine ⟨fun i m σ' H' => i ≤ ds.length ∧ m = ds.length - i ∧ ∃ O' ρ', St0 X.K Tb (rebase O0 O H1) O0 O' H' σ' ρ' ∧ PostS X.K Tb W (rebase O0 O H1) O0 (forGo t g (ds.drop i) ρ') D,
    ⟨ds.length, Nat.zero_le _, by simp, O, ρ, st1.rebase, k1⟩, ?_⟩
  rintro i m σ' H' ⟨hi, rfl, O', ρ', s1, k2⟩
  have eH : Ext (hide O H1) H' := eG.trans s1.ext
  have nG : ∀ b ∈ O', hide O H1 b = none := fun b hb => by
    by_cases h0 : b ∈ O0
    · exact hide_in (st1.sub b h0)
    · have q := s1.new b hb h0
      cases z : hide O H1 b with
      | none => rfl
      | some x =>
        obtain ⟨z1, z2⟩ := hide_some z
        unfold rebase at q
        rw [hide_out fun m => z1 (mem_rebase.mp m).1, z2] at q
        cases q
  by_cases hlt : i < ds.length
  · refine .inr ⟨it.go i H' eH hlt, fun σ2 H2 => i + 1 ≤ ds.length ∧ ∃ O' ρ', St0 X.K Tb (rebase O0 O H1) O0 O' H2 σ2 ρ' ∧ PostS X.K Tb W (rebase O0 O H1) O0 (forGo t g (ds.drop (i + 1)) ρ') D,
      fun σ2 H2 q => ⟨ds.length - (i + 1), by omega, q.1, rfl, q.2⟩, fun x H2 y => ?_⟩
    obtain ⟨e2, d, hd, rx⟩ := it.yld i H' O' x H2 eH nG s1.al hlt y
    have hdr : ds.drop i = d :: ds.drop (i + 1) := by
      obtain ⟨hl, hd'⟩ := List.getElem?_eq_some_iff.mp hd
      rw [List.drop_eq_getElem_cons hl, hd']
    rw [hdr] at k2
    unfold forGo at k2
    cases et : t.set d ρ' with
    | none => rw [et] at k2; exact k2.elim
    | some ρ1 =>
      rw [et] at k2
      refine ⟨_, O0, O', ρ', ρ1, d, s1.step e2, rx, et, fun σ3 s3 _ => ⟨_, O0, O', ρ1, s3, ?_⟩⟩
      cases eg : g ρ1 with
      | nx ρ2 => simp only [eg] at k2; exact fun O4 σ4 H4 s4 => ⟨hlt, O4, ρ2, s4, k2⟩
      | ct ρ2 => simp only [eg] at k2; exact fun O4 σ4 H4 s4 => ⟨hlt, O4, ρ2, s4, k2⟩
      | bk ρ2 => simp only [eg] at k2; exact k2
      | rt d => simp only [eg] at k2; exact k2
      | exc x ρ2 => simp only [eg] at k2; exact k2
      | bad => simp only [eg] at k2; exact k2
  · have ei : i = ds.length := by omega
    subst ei
    rw [List.drop_length] at k2
    exact .inl ⟨it.stop H' eH, k2 O' σ' H' s1⟩⟩
end
end PD
set_option Elab.async false
set_option linter.all false
set_option maxRecDepth 100000
set_option maxHeartbeats 1000000
namespace PD
open PySem PySem.Spec PyProof.Rows L2
/-- an expression whose value is a new list -/
def tN (K : PySem.W.Frag) (Tb : List Addr) (W : WX) (f : Dn) : TE := fun σ H Q => ∃ H0 O0 O ρ, St0 K Tb H0 O0 O H σ ρ ∧ match f ρ with
  | .ok (.list ds) => ∀ p vs H', Ext H H' → H p = none → H' p = some (.lst vs) → ds.length ≤ sizeLine → RpAll K (hide (p :: O) H') vs ds → Q (.ref p) H'
  | .exc e => AftX K O H e fun c d H => W c d σ H
  | _ => False
section
variable {K : PySem.W.Frag} {Tb : List Addr} {W : WX} {H0 H H' H1 : Hp} {O0 O : List Addr} {ρ : Rho} {σ : L2.St} {p : Addr} {D : Ends} {ds : List PyData} {xs : List V}
theorem RpAll.beside (al : Al O H) (n : H p = none) (r : RpAll K (hide O H) xs ds) {o : HO} : RpAll K (hide (p :: O) (upd H p o)) xs ds := r.mono fun b x h t => by
  obtain ⟨h1, h2⟩ := hide_some h
  have hb : b ≠ p := ne_of_none h2 n
  rw [hide_out (by rw [List.mem_cons, not_or]; exact ⟨hb, h1⟩), upd_ne hb]
  exact h2
end
section
variable {X : Cx} {Tb : List Addr} {W : WX} {e : Expr} {es : List Expr} {f : Dn} {gl : DnL} {pos p : Pos} {x : Str}
/-- f ρ is a list: what is wanted once the parts are known -/
theorem tN_of {K : PySem.W.Frag} {O : List Addr} {H : Hp} {σ : L2.St} {Q : VK} {α β : Type} {Rl : Hp → β → α → Prop} {x : R α} {u : α → R PyData} {Q1 : β → Hp → Prop}
    (h : match x >>= u with
      | .ok (.list ds) => ∀ p vs H', Ext H H' → H p = none → H' p = some (.lst vs) → ds.length ≤ sizeLine → RpAll K (hide (p :: O) H') vs ds → Q (.ref p) H'
      | .exc e => AftX K O H e fun c d H => W c d σ H
      | _ => False)
    (hu : ∀ a e, u a ≠ .exc e)
    (k : ∀ a b H1, Ext H H1 → Rl H1 b a → (∀ ds, u a = .ok (.list ds) → (∀ p vs H', Ext H1 H' → H1 p = none → H' p = some (.lst vs) → ds.length ≤ sizeLine → RpAll K (hide (p :: O) H') vs ds → Q (.ref p) H') → Q1 b H1)) (nb : ∀ a, (∃ ds, u a = .ok (.list ds)) ∨ (match u a with | .ok (.list _) => True | _ => False) → True := by intros; trivial) :
    Post K O Rl (fun c d H => W c d σ H) H x Q1 := by
  cases x with
  | exc e => exact h
  | bad => exact h.elim
  | ok a =>
    intro b H1 ex r
    have h' : match u a with
      | .ok (.list ds) => ∀ p vs H', Ext H H' → H p = none → H' p = some (.lst vs) → ds.length ≤ sizeLine → RpAll K (hide (p :: O) H') vs ds → Q (.ref p) H'
      | .exc e => AftX K O H e fun c d H => W c d σ H
      | _ => False := h
    cases hu2 : u a with
    | bad => rw [hu2] at h'; exact h'.elim
    | exc e => exact absurd hu2 (hu a e)
    | ok d =>
      rw [hu2] at h'
      cases d with
      | list ds =>
        refine k a b H1 ex r ds hu2 fun p vs H' e2 n hp z rr => h' p vs H' (ex.trans e2) ?_ hp z rr
        cases q : H p with
        | none => rfl
        | some o => exact absurd n (ex.al p (by rw [q]; simp))
      | _ => exact h'.elim
theorem fn_lst (h : PA X es (tDs X.K Tb W gl)) : PE X (.List es pos) (tN X.K Tb W (dLst gl)) := (pe_lst h).by fun σ H Q ⟨H0, O0, O, ρ, st, h⟩ => by
  refine ⟨H0, O0, O, ρ, st, tN_of (u := fun xs => if xs.length ≤ sizeLine then .ok (.list xs) else .bad) h (fun a e q => by split at q <;> cases q) fun ds vs H1 ex r ds' e k => ?_⟩
  split at e
  · rename_i z
    cases e
    exact ⟨by rw [r.length]; exact z, fun p hp => k p vs _ (Ext.new hp) hp upd_same z (r.beside (st.step ex).al hp)⟩
  · cases e
/-- the slot's name takes the new list as its own -/
theorem own_end {K : PySem.W.Frag} {H0 H : Hp} {O0 O : List Addr} {ρ : Rho} {σ : L2.St} {D : Ends} {i : Nat} (st : St0 K Tb H0 O0 O H σ ρ) (h : PostS K Tb W H0 O0 (gOwn f i ρ) D) : tN K Tb W f σ H fun x H1 => D.nx (σ.set i (some x)) H1 := by
  refine ⟨H0, O0, O, ρ, st, ?_⟩
  unfold gOwn at h
  cases e : f ρ with
  | bad => rw [e] at h; exact h.elim
  | exc x => rw [e] at h; exact fun c d H1 ex r => h O σ H1 c d (st.step ex) r
  | ok d =>
    rw [e] at h
    cases d with
    | list ds => exact fun p vs H' ex n hp z r => h _ _ H' (st.ownNew ex n hp z r)
    | _ => exact h.elim
theorem fs_own {i : Nat} {pos' : Pos} (hN : X.N.Nodup) (hi : X.N[i]? = some x) (hx : Loc X.env.scope x) (he : PE X e (tN X.K Tb W f)) (hs : swapsWith e (some (.Name x pos')) pos.line X.env = pure false := by rfl)
    (hf : X.fn x = true ∨ X.env.scope.names.lookup x = some .local := by first | exact .inl rfl | exact .inr rfl | assumption) : PS X (.Assign [.Name x pos'] e pos) (tS X.K Tb W (gOwn f i)) := (ps_set hN hi hx he hs hf).by fun D σ H ⟨H0, O0, O, ρ, st, h⟩ => own_end st h
/-- name = [.. for ..], the name the list's only owner -/
theorem lc_walkN {K : PySem.W.Frag} {t : Tg} {ft : DnB} {fe : Dn} {fi : DnL} {vs : List Nat} {σ : L2.St} {H : Hp} {Q : VK} (hv : ∀ i ∈ t.ixs, i ∈ vs) (h : tN K Tb W (dLc fi t ft fe vs) σ H Q) :
    tLc (tI K Tb W fi) (tG K Tb t) (tDT K Tb W0 ft) (tD K Tb W0 fe) vs σ H Q := by
  obtain ⟨H0, O0, O, ρ, st, h⟩ := h
  refine ⟨H0, O0, O, ρ, st, tN_of (x := fi ρ) (u := fun ds => nx (lcGo t ft fe (wipeR ρ vs) ds) fun ys => .ok (.list ys)) h (fun a e q => by cases q2 : lcGo t ft fe (wipeR ρ vs) a <;> rw [q2] at q <;> cases q) fun ds J H1 ex it ds' e k => ?_⟩
  obtain ⟨ys, q, e⟩ := nx_ok e
  cases e
  exact lc_turns hv (st.step ex) it q fun D acc H' e1 nD hD z ra => k D acc H' e1 nD hD z ra
theorem fs_ownLc {i : Nat} {y : Str} {py : Pos} {elt tg iter : Expr} {ifs : List Expr} {scope : Scope} {own : List (Str × Nat)} {spos : Pos} {fi : DnL} {t : Tg} {ft : DnB} {fe : Dn} (hc : X.calm = true) (hN : X.N.Nodup) (hy : X.N[i]? = some y) (hyl : X.env.scope.names.lookup y = some .local)
    (hsw : swapsWith (.ListComp elt [⟨tg, iter, ifs, 0⟩] scope pos) (some (.Name y py)) spos.line X.env = pure true) (hi : PI X tg iter (tI X.K Tb W fi)) (ok : BlkOk X.N X.env.scope scope own)
    (hg : ∀ (s : Shared) (H : Hp) (C : Addr) (cl : List (Str × Addr)) (fp : List Addr), PG (X.blk s H scope (compEnvC scope cl C X.env) fp) tg (tG X.K Tb t))
    (ht : ∀ (s : Shared) (H : Hp) (C : Addr) (cl : List (Str × Addr)) (fp : List Addr), PTs (X.blk s H scope (compEnvC scope cl C X.env) fp) ifs (tDT X.K Tb W0 ft))
    (he : ∀ (s : Shared) (H : Hp) (C : Addr) (cl : List (Str × Addr)) (fp : List Addr), PE (X.blk s H scope (compEnvC scope cl C X.env) fp) elt (tD X.K Tb W0 fe))
    (hv : ∀ i ∈ t.ixs, i ∈ own.map (·.2) := by decide) (hs : ∀ x, foldedSetIterable iter X.env x = pure x := by intro _; rfl) :
    PS X (.Assign [.Name y py] (.ListComp elt [⟨tg, iter, ifs, 0⟩] scope pos) spos) (tS X.K Tb W (gOwn (dLc fi t ft fe (own.map (·.2))) i)) :=
  (ps_setLc hc hN hy hyl hsw hi ok hg ht he hs).by fun D σ H ⟨H0, O0, O, ρ, st, h⟩ => lc_walkN (W := W) (Q := fun x H1 => gName i x σ H1 D.nx) hv (own_end st h)
/-- the list at slot i, at the place of a method's receiver -/
theorem own_at {K : PySem.W.Frag} {H0 H : Hp} {O0 O : List Addr} {ρ : Rho} {σ : L2.St} {D : Ends} {i : Nat} {k : List PyData → Out} (st : St0 K Tb H0 O0 O H σ ρ) (h : PostS K Tb W H0 O0 (ownAt ρ i k) D) :
    ∃ ds p vs, ρ[i]? = some (some (.own ds)) ∧ σ[i]? = some (some (.ref p)) ∧ H p = some (.lst vs) ∧ ds.length ≤ sizeLine ∧ RpAll K (hide O H) vs ds ∧ PostS K Tb W H0 O0 (k ds) D := by
  unfold ownAt at h
  split at h
  · rename_i ds e
    obtain ⟨v, h1, p, vs, rfl, m, m0, hp, z, r⟩ := st.slot i _ e
    exact ⟨ds, p, vs, e, h1, hp, z, r, h⟩
  · exact h.elim
theorem fs_app {i : Nat} {apos npos cpos : Pos} (ho : X.N[i]? = some x) (hv : Vis X.env.scope x) (hd : (x == ("__debug__" : Str)) = false) (hcd : (x == ("__classdict__" : Str)) = false) (ha : PE X e (tD X.K Tb W f))
    (hse : starEach [e] X.env = (false, eval e X.env) :: starEach [] X.env) (hbase : attributeBase (.Name x npos) "append" X.env (eval (.Name x npos) X.env) = eval (.Name x npos) X.env)
    (hfew : ((backTo cpos (starEach [e] X.env)).all (fun x => !x.1) && (backToKw cpos (keywordEach [] X.env)).all (fun x => x.1.isSome)
      && decide (([e] : List Expr).length + ([] : List Keyword).length + (if ([] : List Keyword).isEmpty then 0 else 1) < 30)) = true)
    (hline : (apos.endLine == cpos.line) = true) (hplain : (backTo cpos (starEach [] X.env)).any (·.1) = false)
    (hs : swapsWith (.Call (.Attribute (.Name x npos) "append" apos) [e] [] cpos) none pos.line X.env = pure false) :
    PS X (.Expr (.Call (.Attribute (.Name x npos) "append" apos) [e] [] cpos) pos) (tS X.K Tb W (gApp i f)) :=
  (ps_expr (pe_bm PySem.F.plainAttrs_list PySem.F.slot_list_append PySem.F.type_list_append mt_append (pe_var ho hv hd hcd) (pa_cons ha pa_nil hse) hbase hfew hline hse hplain) hs).by fun D σ H ⟨H0, O0, O, ρ, st, h⟩ => by
    obtain ⟨ds, p, vs, e1, e2, hp, z, r, h⟩ := own_at st h
    refine ⟨.ref p, e2, .inl ⟨rfl, vs, .of hp⟩, H0, O0, O, ρ, st, oR_post st h fun d v H1 ex rv k => ?_⟩
    split at k
    · rename_i hl
      refine ⟨p, vs, v, rfl, rfl, ex.keep p _ hp (fun _ q => by cases q), by rw [r.length]; exact hl, k O σ _ ((st.step ex).ownSet e1 e2 ?_ ?_)⟩
      · rw [List.length_append]; simp; exact hl
      · exact (r.mono (Sub.hide ex.keep)).append (.one rv)
    · exact k.elim
end
def startR (n : Nat) (ds : List PyData) : Rho := ds.map (fun d => some (.d d)) ++ List.replicate (n - ds.length) none
def endR : Out → R PyData
  | .nx _ => .ok .none
  | .rt d => .ok d
  | .exc e _ => .exc e
  | _ => .bad
def runD (n p : Nat) (g : Sn) : List PyData → R PyData := fun ds => if ds.length = p then endR (g (startR n ds)) else .bad
def spD (K : PySem.W.Frag) (Tb : List Addr) (m : List PyData → R PyData) : Sp := fun vs H Q E => ∃ O ds, Al O H ∧ (∀ P ∈ Tb, TabC H P) ∧ RpAll K (hide O H) vs ds ∧ Post K O (RlD K O) E H (m ds) Q
def WE (E : XK) : WX := fun c d _ H => E c d H
theorem lets_of {X : Cx} {W : WX} (tk : L2N.Takes X W) (σ : L2.St) : PassesAt (L2N.CX X.prog X.w) X σ (L2.WE W σ) := L2N.passAt tk σ
theorem lets0 {X : Cx} (σ : L2.St) : PassesAt (L2N.CX X.prog X.w) X σ (L2.WE W0 σ) := fun _ _ _ _ _ _ h => by
  obtain ⟨_, _, _, _, _, _, _, _, _, _, _, _, z⟩ := h
  exact z.elim
section
variable {P : Program} {w : World} {K : PySem.W.Frag} {mg : Str → Option Value} {base : Heap} {Tb : List Addr}
/-- a def, by its body -/
theorem fn_okD {x qual : Str} {st : Stmt} {f : Addr} {fd : FuncData} {N ps : List Str} {k : Nat} {g : Sn} (F : Fun K x qual st f fd) (S : FnScope N ps (defScope st))
    (hb : ∀ (cdv : Value) (A : Around) (outer : List Env) (s : Shared) (H : Hp) (E : XK), Room k (A.deeper (envOfC qual (defScope st) s.heap.objs.size f cdv)) →
      PSs (cxOf (L2N.CX P w) P w K mg base N qual (defScope st) f cdv A outer s H E) (defBody st) (tS K Tb (WE E) g)) :
    FnOk P w K mg base (L2N.CX P w) (k + 1) f fd ps (spD K Tb (runD N.length ps.length g)) := by
  obtain ⟨oc, od, kV, doc, pm, an, cdv, ct, osl, rfl, lk, hcd⟩ := F.ex
  refine fn_of lk hcd S (fun vs H Q E h => ?_) fun A outer s H vs Q E hr h => ⟨_, hb cdv A outer s H E hr, ?_⟩
  · obtain ⟨O, ds, al, tb, r, h⟩ := h
    unfold runD at h
    split at h
    · rename_i e
      rw [r.length]; exact e
    · exact h.elim
  · obtain ⟨O, ds, al, tb, r, h⟩ := h
    unfold runD at h
    split at h
    · rename_i e
      have st := St0.init (N.length - ds.length) al tb r
      refine ⟨H, O, O, startR N.length ds, ?_, ?_⟩
      · unfold L2.start startR
        rw [r.length]
        exact st
      · cases q : g (startR N.length ds) with
        | nx ρ => rw [q] at h; exact fun O' σ' H' st' => h .non H' st'.ext .non
        | rt d => rw [q] at h; exact fun v H' e' r' => h v H' e' r'
        | exc x ρ => rw [q] at h; exact fun O' σ' H' c d st' ex => h c d H' st'.ext (by
            obtain ⟨h1, h2⟩ := ex
            refine ⟨h1, ?_⟩
            rcases h2 with h2 | ⟨dd, fs, h3, h4, h5, h6⟩
            · exact .inl h2
            · exact .inr ⟨dd, fs, h3, h4, h5, h6.mono (Sub.less st'.sub)⟩)
        | bk ρ => rw [q] at h; exact h.elim
        | ct ρ => rw [q] at h; exact h.elim
        | bad => rw [q] at h; exact h.elim
    · exact h.elim
end
section
variable {X : Cx} {Tb : List Addr} {W : WX} {k : Nat} {f : Addr} {fd : FuncData} {ps : List Str} {m : List PyData → R PyData} {x : Str} {p pos : Pos} {e : Expr} {es : List Expr} {gl : DnL}
theorem fd_call (F : FnOk X.prog X.w X.K X.mg X.base (L2N.CX X.prog X.w) k f fd ps (spD X.K Tb m)) (hr : Room k X.A) (hg : Gl X x) (hm : X.mg x = some (.ref f)) (hk : PySem.W.keepIn X.K (.ref f) = true) (hb : Binds X.K fd ps []) (hx : ∀ σ, PassesAt (L2N.CX X.prog X.w) X σ (L2.WE W σ))
    (ha : PA X (e :: es) (tDs X.K Tb W gl)) (hdb : (x == ("__debug__" : Str)) = false := by decide) (he : starEach (e :: es) X.env = (false, eval e X.env) :: starEach es X.env := by rfl) (hpl : (backTo pos (starEach es X.env)).any (·.1) = false := by rfl) :
    PE X (.Call (.Name x p) (e :: es) [] pos) (tD X.K Tb W (dArg m gl)) := (pe_callS F hr hg hm hk hb hx ha hdb he hpl).by fun σ H Q ⟨H0, O0, O, ρ, st, h⟩ => ⟨H0, O0, O, ρ, st, by
  refine Post.then h fun ds vs H1 ex r k => ?_
  exact ⟨O, ds, (st.step ex).al, (st.step ex).tab, r, k⟩⟩
end
end PD
set_option Elab.async false
set_option linter.all false
set_option maxRecDepth 100000
set_option maxHeartbeats 1000000
namespace PySem.W
open PySem PySem.Calls PySem.SeqAt PyProof.Rows
section
variable {prog : Program} {w : World} {A : Around} {s : Shared}
/-- does a tuple have a first item -/
def hasFst : PyData → Bool
  | .tuple (_ :: _) => true
  | _ => false
theorem call_tuple_ltP {E : Value → Shared → Prop} {Q : Value → Shared → Prop} {l b : Addr} {items items2 : Array Value} {e r : Nat → Bool} (hl : s.heap.IsTuple l items) (hb : s.heap.IsTuple b items2)
    (he : ∀ j (h1 : j < items.size) (h2 : j < items2.size), EqAt A.in1 s items[j] items2[j] (e j)) (hr : ∀ j (h1 : j < items.size) (h2 : j < items2.size), e j = false → RcLt A.in1 s items[j] items2[j] (r j))
    (h : Q (.bool (firstLt e r (decide (items.size < items2.size)) (List.range (min items.size items2.size)))) s) : wpAny (model prog w) A (call (.builtin "tuple.__lt__") [.ref l, .ref b]) Q E s := by
  obtain ⟨⟨c1, d1, x1, l1⟩, ho, hc, n, hd⟩ := id hl
  obtain ⟨⟨c2, d2, x2, l2⟩, ho2, hc2, n2, hd2⟩ := id hb
  simp only at hc hd hc2 hd2
  subst hc hd hc2 hd2
  exact call_meets F.slot_tuple_lt ⟨_, ho, rfl⟩ F.entry_tuple_lt (F.args_tuple_lt_2 _ _) (tuple_ltAt l b items items2 n n2 d1 d2 l1 l2 e r) ⟨ho, ho2, he, hr, h⟩
theorem oneLt_tup {f : Bool} {xs ys : List PyData} {a b : Value} {as bs : List Addr} {Q : Bool → Shared → Prop} {E : Value → Shared → Prop} (ra : Reads s.heap a (.tuple xs) as) (rb : Reads s.heap b (.tuple ys) bs) (hal : alikeAll xs ys = true)
    (hu : A.units + min (PyData.tuple xs).depth (PyData.tuple ys).depth < cLine) (hq : Q (dataLt (.tuple xs) (.tuple ys)) s) : wpAny (model prog w) A (oneLt' f a b) Q E s := by
  cases f with
  | false => exact oneLt_alike (fun h => by cases h) ra rb (by simpa [alike] using hal) (fun h => by cases h) hu hq
  | true =>
    cases ra with
    | @tuple l o vs n _ as1 h1 h2 h3 h4 =>
      cases rb with
      | @tuple l' o' vs' n' _ bs1 k1 k2 k3 k4 =>
        have n1 : vs.size = xs.length := by simpa using SeqAt.ReadsAll.length _ _ _ h4
        have n2 : vs'.size = ys.length := by simpa using SeqAt.ReadsAll.length _ _ _ k4
        rw [dataLt_tuple, ← firstLt_toks xs ys hal, ← n1, ← n2] at hq
        rw [oneLt'_eq]
        simp only [if_true]
        refine wpAny_bind (wpAny_cRoomFor (SeqAt.room_here hu) ?_)
        refine wpAny_bind (wpAny_callSpecialIfBound?_slot (T := "tuple") ⟨_, h1, h2⟩ F.slot_tuple_lt (call_tuple_ltP (e := pairEq xs ys) (r := fun j => dataLt (xs.getD j .none) (ys.getD j .none)) ⟨_, h1, h2, _, h3⟩ ⟨_, k1, k2, _, k3⟩ (fun j j1 j2 => ?_) (fun j j1 j2 hj => ?_) ?_))
        · have := eqAt_alikeAll xs ys A.in1 s vs.toList vs'.toList _ _ h4 k4 hal (SeqAt.room_in hu) j (by simpa using j1) (by simpa using j2)
          simpa using this
        · have := rcLt_alikeAll xs ys A.in1 s vs.toList vs'.toList _ _ h4 k4 hal (SeqAt.room_in hu) j (by simpa using j1) (by simpa using j2) hj
          simpa using this
        · exact wpAny_truthy_bool hq
theorem mapM_firsts {E : Value → Shared → Prop} : ∀ {vs : List Value} {ds : List PyData} {Q : List (Option Value) → Shared → Prop}, EachIs (fun v d => ∃ as, Reads s.heap v d as) vs ds → (∀ d ∈ ds, ∃ xs, d = .tuple xs) →
    (∀ rs : List (Option Value), rs.map (·.isSome) = ds.map hasFst → Q rs s) → wpAny (model prog w) A (vs.mapM firstOfTuple') Q E s
  | _, _, Q, .nil, _, h => by rw [List.mapM_nil]; exact wpAny_pure (h [] rfl)
  | _, _, Q, .cons (b := d) ⟨as, r⟩ t, ht, h => by
    rw [List.mapM_cons]
    obtain ⟨xs, rfl⟩ := ht d (List.mem_cons_self ..)
    cases r with
    | @tuple a o vs n _ _ ho hc hd hr =>
      refine wpAny_bind ?_
      rw [kas_first_eq]
      refine wpAny_bind (wpAny_typeOf_ref ho ?_)
      rw [hc, if_neg (by decide)]
      refine wpAny_bind (wpAny_listItems (prog := prog) (w := w) ho hd (wpAny_pure ?_))
      refine (wpAny_bind (mapM_firsts t (fun d hd => ht d (List.mem_cons_of_mem _ hd)) fun rs e => wpAny_pure (h _ ?_)))
      rw [List.map_cons, List.map_cons, e]
      congr 1
      have hl := SeqAt.ReadsAll.length _ _ _ hr
      cases xs with
      | nil =>
        have : vs.size = 0 := by simpa using hl
        simp [hasFst, this]
      | cons x xs =>
        have : 0 < vs.size := by simp at hl; omega
        simp [hasFst, this]
/-- tuples, some of them empty -/
theorem SortsAt.tuples {vs : List Value} {ds : List PyData} (e : EachIs (fun v d => ∃ as, Reads s.heap v d as) vs ds) (hal : AllAlike ds) (ht : ∀ d ∈ ds, ∃ xs, d = .tuple xs) (hu : ∀ d, d ∈ ds → A.units + d.depth < cLine) : SortsAt prog w A s (dataKind s.heap ds) vs := by
  by_cases hne : ∀ d ∈ ds, hasFst d = true
  · refine SortsAt.data e hal (.inl fun d hd => ?_) hu
    obtain ⟨xs, rfl⟩ := ht d hd
    have q := hne _ hd
    cases xs with
    | nil => cases q
    | cons x r => exact ⟨x, r, rfl⟩
  · refine ⟨fun v hv => ?_, ?_⟩
    · obtain ⟨d, hd, as, r⟩ := e.left v hv
      exact ⟨_, dataKind_some hal hd r⟩
    · have lt : ∀ f : Bool, ∀ (E : Value → Shared → Prop) (x y : Value) (a b : (dataKind s.heap ds).α) {Q : Bool → Shared → Prop}, (dataKind s.heap ds).keyOf x = some a → (dataKind s.heap ds).keyOf y = some b → Q ((dataKind s.heap ds).blt a b) s → wpAny (model prog w) A (oneLt' f x y) Q E s := by
        intro f E x y a b Q ha hb hq
        obtain ⟨d, as, hd, ra, rfl⟩ := dataKind_inv ha
        obtain ⟨d', as', hd', rb, rfl⟩ := dataKind_inv hb
        have hdd := hal d hd d' hd'
        have hroom : A.units + min d.depth d'.depth < cLine := Nat.lt_of_le_of_lt (Nat.add_le_add_left (Nat.min_le_left _ _) _) (hu d hd)
        obtain ⟨xs, rfl⟩ := ht d hd
        obtain ⟨ys, rfl⟩ := ht d' hd'
        exact oneLt_tup ra rb (by simpa [alike] using hdd) hroom hq
      have some0 : ∀ rs : List (Option Value), rs.map (·.isSome) = ds.map hasFst → ¬ (rs.toArray.all (·.isSome)) = true := fun rs er q => by
        apply hne
        intro d hd
        have q' : ∀ r ∈ rs, r.isSome = true := by simpa using q
        have m : hasFst d ∈ ds.map hasFst := List.mem_map.mpr ⟨d, hd, rfl⟩
        rw [← er] at m
        obtain ⟨r, hr, er2⟩ := List.mem_map.mp m
        rw [← er2]
        exact q' r hr
      cases ds with
      | nil => exact absurd (fun d hd => absurd hd (by simp)) hne
      | cons d0 r0 =>
        cases h0 : hasFst d0 with
        | true =>
          refine ⟨general', fun E x y a b Q ha hb hq => lt false E x y a b ha hb hq, fun h2 E Q hq => ?_⟩
          rw [keyKind'_eq, List.mapM_toArray, map_eq_pure_bind]
          refine wpAny_bind (wpAny_bind (mapM_firsts e ht fun rs er => wpAny_pure ?_))
          rw [if_neg (some0 rs er), if_pos ?_]
          · exact wpAny_pure hq
          · cases rs with
            | nil => cases er
            | cons r rr =>
              have : r.isSome = true := (List.cons.inj er).1.trans h0
              simpa using this
        | false =>
          refine ⟨oneType', fun E x y a b Q ha hb hq => lt true E x y a b ha hb hq, fun h2 E Q hq => ?_⟩
          rw [keyKind'_eq, List.mapM_toArray, map_eq_pure_bind]
          refine wpAny_bind (wpAny_bind (mapM_firsts e ht fun rs er => wpAny_pure ?_))
          rw [if_neg (some0 rs er), if_neg ?_]
          · rw [oneTypeOnly'_eq, List.mapM_toArray, map_eq_pure_bind]
            have hT : ∀ v ∈ vs, Looks (model prog w) s.heap (typeOf v) (Value.type "tuple") := fun v hv => by
              obtain ⟨d, hd, as, r⟩ := e.left v hv
              obtain ⟨xs, rfl⟩ := ht d hd
              exact looks_reads r
            cases vs with
            | nil => exact absurd h2 (by simp)
            | cons v1 vr =>
              refine wpAny_bind (wpAny_bind (wpAny_bind (kas_mapM (r := Value.type "tuple") _ (fun v hv Q' hq => (hT v hv).here hq) (wpAny_pure ?_))))
              have hall : ((List.map (fun _ => Value.type "tuple") (v1 :: vr)).toArray.all fun x => x == Value.type "tuple") = true := by
                simp only [List.all_toArray, List.all_map, List.all_eq_true]
                intro _ _
                exact beq_self_eq_true _
              have hz : (List.map (fun _ => Value.type "tuple") (v1 :: vr)).toArray[0]? = some (Value.type "tuple") := by simp
              rw [hz]
              simp only [hall, if_true]
              exact wpAny_pure (wpAny_pure hq)
          · cases rs with
            | nil => simp
            | cons r rr =>
              have : r.isSome = false := (List.cons.inj er).1.trans h0
              simpa using this
end
end PySem.W
namespace PD
open PySem PySem.Spec PyProof.Rows L2
section
variable {prog : Program} {w : World} {A : Around} {E : Value → Shared → Prop} {s : Shared}
theorem gather_tup {l : Addr} {vs : List Value} {Q : List Value → Shared → Prop} (hl : IsTup s.heap l vs.toArray)
    (h : Q vs { s with heap := (s.heap.push (seqObj "list" #[] 0)).update s.heap.objs.size (Obj.mapSeq (· ++ vs.toArray)) }) (hsz : vs.length ≤ sizeLine) :
    wpAny (model prog w) A (collect (.ref l)) Q E s := by
  obtain ⟨o, ho, hc, n, hd⟩ := id hl
  unfold collect
  refine wpAny_bind (wpAny_runValue (codeAny_builtin entry_proto_collect' ?_))
  show wpAny _ _ (do again (.builtin "list.__iadd__" ⟨[← newList [], .ref l], []⟩)) _ _ s
  refine wpAny_bind (wpAny_newList (wpAny_pure ⟨Code.quiet_builtin _ (by decide +kernel), codeAny_builtin entry_list_iadd' ?_⟩))
  show wpAny _ _ (Builtin.List.listExtendWith (.ref s.heap.objs.size) (.ref l) (.ref s.heap.objs.size)) _ _ { s with heap := s.heap.push (seqObj "list" #[] 0) }
  unfold Builtin.List.listExtendWith
  have ho' : (s.heap.push (seqObj "list" #[] 0)).get? l = some o := Heap.get?_push_of_some _ ho
  refine wpAny_bind (wpAny_typeOf (T := "tuple") ⟨o, ho', hc⟩ ?_)
  have ht : (Value.type "tuple" == Value.type "tuple") = true := by rfl
  rw [if_pos (by rw [ht]; simp)]
  refine wpAny_bind (listItems_at ho' hd ?_)
  refine wpAny_bind (listItems_at (xs := #[]) (n := 0) (Heap.get?_push_size _ rfl) rfl ?_)
  rw [if_neg (by simp)]
  refine wpAny_bind (listUpdate_at (xs := #[]) (n := 0) (Heap.get?_push_size _ rfl) rfl ?_ (Nat.zero_le _) (by show (#[] ++ vs.toArray).size ≤ sizeLine + 1; simp only [Array.size_append, List.size_toArray, List.length_nil]; omega))
  refine wpAny_pure ?_
  show wpAny (model prog w) A (do
      let o ← load s.heap.objs.size
      match o.data with
      | .seq xs _ => pure xs.toList
      | _ => unsupported "internal:collect") Q E { s with heap := (s.heap.push (seqObj "list" #[] 0)).update s.heap.objs.size (Obj.mapSeq (· ++ vs.toArray)) }
  refine wpAny_bind (wpAny_load (get?_update_seq (Heap.get?_push_size _ rfl) _) ?_)
  show wpAny _ _ (pure ((#[] : Array Value) ++ vs.toArray).toList) Q E _
  rw [show ((#[] : Array Value) ++ vs.toArray).toList = vs by simp]
  exact wpAny_pure h
theorem sorted_tup {κ : PyProof.Rows.KeyKind} {l : Addr} {vs : List Value} {Q : Value → Shared → Prop} (hl : IsTup s.heap l vs.toArray) (S : PySem.W.SortsAt prog w A.in1.in1 { s with heap := PySem.W.sortingHeap (PySem.W.copyHeap s.heap vs) (s.heap.objs.size + 1) vs } κ vs) (hL : vs.length ≤ sizeLine)
    (h : Q (.ref (s.heap.objs.size + 1)) { s with heap := sortedAll s.heap vs (PySem.W.sortVals κ false vs vs).toArray }) : wpAny (model prog w) A (call (.builtin "sorted") [.ref l]) Q E s := by
  refine call_function_entry_kw kind_sorted plain_sorted entry_sorted (args_sorted1 _) ?_
  unfold Builtin.«sorted»
  refine wpAny_bind (m := checkCount "sorted" 1 1 _) (wpAny_pure ?_)
  refine wpAny_bind (gather_tup hl ?_ hL)
  refine wpAny_bind (wpAny_newList ?_ hL)
  have hsz : ((s.heap.push (seqObj "list" #[] 0)).update s.heap.objs.size (Obj.mapSeq (· ++ vs.toArray))).objs.size = s.heap.objs.size + 1 := by
    rw [Heap.size_update]; exact Heap.size_push ..
  show wpAny _ _ _ _ _ { s with heap := PySem.W.copyHeap s.heap vs }
  rw [hsz]
  refine wpAny_bind (wpAny_holding (wpAny_call_entry_kw slot_list_sort ⟨_, PySem.W.copyHeap_at s.heap vs, rfl⟩ entry_list_sort ?body (args_list_sort _)))
  case body =>
    show wpAny (model prog w) A.in1.in1 (Builtin.«list.sort» ⟨[.ref (s.heap.objs.size + 1)], []⟩) _ _ _
    refine PySem.W.list_sort_vals (s := { s with heap := PySem.W.copyHeap s.heap vs }) (PySem.W.copyHeap_at s.heap vs) S hL ?_
    exact ⟨_, rfl, wpAny_pure ⟨_, rfl, h⟩⟩
end
def allTup (ds : List PyData) : Bool := ds.all fun d => match d with | .tuple _ => true | _ => false
def allNot (ds : List PyData) : Bool := ds.all fun d => match d with | .tuple _ => false | .none => false | _ => true
def allAlike (ds : List PyData) : Bool := ds.all fun d => ds.all fun e => PySem.W.alike d e
def okSort (ds : List PyData) : Bool := allAlike ds && (allTup ds || allNot ds) && ds.all fun d => decide (d.depth ≤ 60)
def sortD (ds : List PyData) : List PyData := ds.mergeSort (PySem.W.dataLe false id)
def bSorted : List PyData → R PyData
  | [.list xs] => if okSort xs = true then .ok (.list (sortD xs)) else .bad
  | [.tuple xs] => if okSort xs = true then .ok (.list (sortD xs)) else .bad
  | _ => .bad
mutual
theorem nod_of_alike : ∀ {d : PyData}, PySem.W.alike d d = true → nod d = true
  | .none, _ => rfl
  | .bool _, _ => rfl
  | .int _, _ => rfl
  | .str _, _ => rfl
  | .list xs, h => by
    rw [PySem.W.alike] at h
    exact nodAll_of_alike (xs := xs) h
  | .tuple xs, h => by
    rw [PySem.W.alike] at h
    exact nodAll_of_alike (xs := xs) h
  | .dict _, h => by simp [PySem.W.alike] at h
theorem nodAll_of_alike : ∀ {xs : List PyData}, PySem.W.alikeAll xs xs = true → nodAll xs = true
  | [], _ => rfl
  | x :: xs, h => by
    rw [PySem.W.alikeAll, Bool.and_eq_true] at h
    show (nod x && nodAll xs) = true
    rw [Bool.and_eq_true]
    exact ⟨nod_of_alike h.1, nodAll_of_alike h.2⟩
end
section
variable {X : Cx} {K : PySem.W.Frag}
theorem rpAll_reads {pins : List (Addr × Obj)} {σ : L2.St} {H : Hp} {s : Shared} {G : Hp} (I : Inv X pins σ H s) (sub : Sub G H) : ∀ {xs : List V} {ds : List PyData} {us : List Value}, RpAll X.K G xs ds → Vals xs us → (∀ d ∈ ds, nod d = true) → PySem.W.EachIs (fun v d => ∃ as, Reads s.heap v d as) us ds
  | _, _, _, .nil, .nil, _ => .nil
  | _, _, _, .cons r t, .cons q u, h => .cons (Dp.reads I _ _ _ ((r.mono sub).dp (h _ List.mem_cons_self)) q) (rpAll_reads I sub t u fun d hd => h d (List.mem_cons_of_mem _ hd))
theorem rpAll_each {G : Hp} : ∀ {xs : List V} {ds : List PyData} {us : List Value}, RpAll K G xs ds → Vals xs us → PySem.W.EachIs (fun u d => ∃ v, RelV v u ∧ Rp K G v d) us ds
  | _, _, _, .nil, .nil => .nil
  | _, _, _, .cons r t, .cons q u => .cons ⟨_, q, r⟩ (rpAll_each t u)
theorem each_rpAll {G : Hp} : ∀ {us : List Value} {ds : List PyData}, PySem.W.EachIs (fun u d => ∃ v, RelV v u ∧ Rp K G v d) us ds → ∃ xs, Vals xs us ∧ RpAll K G xs ds
  | _, _, .nil => ⟨[], .nil, .nil⟩
  | _, _, .cons ⟨v, q, r⟩ t => by
    obtain ⟨xs, h1, h2⟩ := each_rpAll t
    exact ⟨v :: xs, .cons q h1, .cons r h2⟩
def rSortD (K : PySem.W.Frag) : List V → Hp → VK → Prop := fun vs H Q => ∃ (G : Hp) (a : Addr) (xs : List V) (ds : List PyData), vs = [V.ref a] ∧ Sub G H ∧ (SqL K H a xs ∨ SqT K H a xs) ∧ RpAll K G xs ds ∧ okSort ds = true ∧
  ∀ p ys, H p = none → ys.length = xs.length → RpAll K G ys (sortD ds) → Q (.ref p) (upd H p (.lst ys))
theorem okSort_of {ds : List PyData} (h : okSort ds = true) : PySem.W.AllAlike ds ∧ ((∀ d ∈ ds, ∃ xs, d = .tuple xs) ∨ ∀ d ∈ ds, d ≠ .none ∧ ∀ xs, d ≠ .tuple xs) ∧ ∀ d ∈ ds, d.depth ≤ 60 := by
  unfold okSort at h
  rw [Bool.and_eq_true, Bool.and_eq_true, Bool.or_eq_true] at h
  obtain ⟨⟨h1, h2⟩, h3⟩ := h
  refine ⟨fun d hd e he => ?_, ?_, fun d hd => ?_⟩
  · unfold allAlike at h1
    rw [List.all_eq_true] at h1
    have := h1 d hd
    rw [List.all_eq_true] at this
    exact this e he
  · rcases h2 with h2 | h2
    · refine .inl fun d hd => ?_
      unfold allTup at h2
      rw [List.all_eq_true] at h2
      have := h2 d hd
      cases d <;> first | exact ⟨_, rfl⟩ | cases this
    · refine .inr fun d hd => ?_
      unfold allNot at h2
      rw [List.all_eq_true] at h2
      have := h2 d hd
      cases d <;> first | exact absurd this Bool.false_ne_true | exact ⟨by simp, by simp⟩
  · rw [List.all_eq_true] at h3
    exact of_decide_eq_true (h3 d hd)
theorem cr_sortD (hu : X.A.units + 64 < cLine) : CallR X (.builtin "sorted") (rSortD X.K) := by
  intro pins s σ H vs us Q I r h
  obtain ⟨G, a, xs, ds, rfl, sub, hs, ra, ok, q⟩ := h
  obtain ⟨al, kind, dep⟩ := okSort_of ok
  obtain ⟨its, rv, hl, hz⟩ : ∃ its : List Value, Vals xs its ∧ (s.heap.IsList a its.toArray ∨ IsTup s.heap a its.toArray) ∧ xs.length ≤ sizeLine := by
    rcases hs with hs | hs
    · obtain ⟨its, rv, hl, hz⟩ := I.list hs
      exact ⟨its, rv, .inl hl.isList, hz⟩
    · obtain ⟨its, rv, hl, hz⟩ := I.tuple hs
      exact ⟨its, rv, .inr hl, hz⟩
  rw [Vals.ref1 r]
  have er := rpAll_reads I sub ra rv fun d hd => nod_of_alike (al d hd d hd)
  have ev := rpAll_each ra rv
  have er' : PySem.W.EachIs (fun v d => ∃ as, Reads (PySem.W.sortingHeap (PySem.W.copyHeap s.heap its) (s.heap.objs.size + 1) its) v d as) its ds := er.mono fun _ _ ⟨as, r⟩ => ⟨as, PyProof.Rows.Reads.keeps (fun _ _ => PySem.W.sorting_copy_old) r⟩
  have hlen := rv.length
  have hu2 : ∀ d, d ∈ ds → X.A.in1.in1.units + d.depth < cLine := fun d hd => by
    have h1 := dep d hd
    show X.A.units + 1 + 1 + d.depth < cLine
    omega
  have S : PySem.W.SortsAt X.prog X.w X.A.in1.in1 { s with heap := PySem.W.sortingHeap (PySem.W.copyHeap s.heap its) (s.heap.objs.size + 1) its } (PySem.W.dataKind (PySem.W.sortingHeap (PySem.W.copyHeap s.heap its) (s.heap.objs.size + 1) its) ds) its := by
    rcases kind with k | k
    · exact PySem.W.SortsAt.tuples (s := { s with heap := PySem.W.sortingHeap (PySem.W.copyHeap s.heap its) (s.heap.objs.size + 1) its }) er' al k hu2
    · exact PySem.W.SortsAt.data (s := { s with heap := PySem.W.sortingHeap (PySem.W.copyHeap s.heap its) (s.heap.objs.size + 1) its }) er' al (.inr k) hu2
  refine (hl.elim (fun hl h => PySem.W.sorted_vals hl S (by rw [← hlen]; exact hz) h) (fun hl h => sorted_tup hl S (by rw [← hlen]; exact hz) h) : (_ → wpAny _ _ _ _ _ _)) ?_
  have eo := PySem.W.sortVals_data (h' := PySem.W.sortingHeap (PySem.W.copyHeap s.heap its) (s.heap.objs.size + 1) its) (enc := id) false ev (er'.mono fun _ _ h => h) (by rw [List.map_id]; exact al)
  rw [List.map_id] at eo
  obtain ⟨ys, hy1, hy2⟩ := each_rpAll eo
  obtain ⟨ep, he⟩ := PyProof.Rows.sortedAll_at s.heap its (PySem.W.sortVals (PySem.W.dataKind (PySem.W.sortingHeap (PySem.W.copyHeap s.heap its) (s.heap.objs.size + 1) its) ds) false its its).toArray
  have hyl : ys.length = xs.length := by
    rw [hy2.length, ra.length]
    exact List.length_mergeSort ds
  exact ⟨.ref _, upd H (s.heap.objs.size + 1) (.lst ys), I.laid (t' := s.toks) (fun _ _ => PyProof.Rows.sortedAll_old) (Nat.le_succ _) ⟨by rw [hyl]; exact hz, _, ep, hy1, he⟩, rfl, q _ ys (I.hok.fresh (Nat.le_succ _)) hyl hy2⟩
theorem ok_sorted : OkL K (rSortD K) bSorted := by
  intro O H Wx vs ds Q al r h
  unfold bSorted at h
  split at h
  · split at h
    · rename_i xs ok
      cases r with
      | cons r1 r2 =>
        cases r2
        cases r1 with
        | lst h1 z1 a1 =>
          refine ⟨hide O H, _, _, _, rfl, Sub.unhide, .inl (Sub.unhide.sqL h1), a1, ok, fun p ys hp hy ry => Post.newLst al h ?_ ry p hp⟩
          have : (sortD xs).length = xs.length := List.length_mergeSort xs
          rw [this]; exact z1
    · exact h.elim
  · split at h
    · rename_i xs ok
      cases r with
      | cons r1 r2 =>
        cases r2
        cases r1 with
        | tup h1 z1 a1 =>
          refine ⟨hide O H, _, _, _, rfl, Sub.unhide, .inr (Sub.unhide.sqT h1), a1, ok, fun p ys hp hy ry => Post.newLst al h ?_ ry p hp⟩
          have : (sortD xs).length = xs.length := List.length_mergeSort xs
          rw [this]; exact z1
    · exact h.elim
  · exact h.elim
end
end PD
set_option Elab.async false
set_option linter.all false
set_option maxRecDepth 100000
set_option maxHeartbeats 1000000
namespace PD
open PySem PySem.Spec PyProof.Rows L2 GenW
/-- the same heap -/
theorem inv_gens {X : Cx} {pins : List (Addr × Obj)} {σ : L2.St} {H : Hp} {s s' : Shared} (I : Inv X pins σ H s) (hp : s'.heap = s.heap) (os : s'.os = s.os) (b : AllBare s'.gens) : Inv X pins σ H s' := by
  obtain ⟨h', g', d', t', o'⟩ := s'
  cases hp; cases os
  exact { I with bare := b }
def GI (XG : Cx) (fp : List Addr) (tn : Nat → Heap → Prop) (σw : L2.St) (W : Nat → Nat → Hp → Prop) (i m : Nat) (s : Shared) : Prop := ∃ H', Inv XG [] σw H' s ∧ tn i s.heap ∧ (∀ b ∈ fp, H' b = none) ∧ W i m H'
def FB (XG : Cx) (Q : VK) (b : Bool) (s : Shared) : Prop := ∃ pins' σ' H', Inv XG pins' σ' H' s ∧ Q (.bl b) H'
section
variable {X XG : Cx} {A : Around} {fp : List Addr} {tn : Nat → Heap → Prop} {σw : L2.St} {W : Nat → Nat → Hp → Prop} {Q : VK} {stop : Bool} {Rr : Result → Shared → Prop} {P : Program} {w : World}
theorem FB.gens {b : Bool} {s s' : Shared} (h : FB XG Q b s) (e : s'.heap = s.heap) (os : s'.os = s.os) (bb : AllBare s'.gens) : FB XG Q b s' := by
  obtain ⟨p, σ, H, I, q⟩ := h
  exact ⟨p, σ, H, inv_gens I e os bb, q⟩
theorem FB.bare {b : Bool} {s : Shared} (h : FB XG Q b s) : AllBare s.gens := by
  obtain ⟨p, σ, H, I, q⟩ := h
  exact I.bare
theorem FB.kept {b : Bool} {s : Shared} {h' : Heap} (h : FB XG Q b s) (k : ∀ b o, s.heap.get? b = some o → h'.get? b = some o) : FB XG Q b { s with heap := h' } := by
  obtain ⟨p, σ, H, I, q⟩ := h
  exact ⟨p, σ, H, I.un (t' := s.toks) (Un.kept k) (I.hok.kept k), q⟩
theorem GI.bare {i m : Nat} {s : Shared} (h : GI XG fp tn σw W i m s) : AllBare s.gens := by
  obtain ⟨H, I, q⟩ := h
  exact I.bare
theorem GI.gens {i m : Nat} {s s' : Shared} (h : GI XG fp tn σw W i m s) (e : s'.heap = s.heap) (os : s'.os = s.os) (bb : AllBare s'.gens) : GI XG fp tn σw W i m s' := by
  obtain ⟨H, I, t, n, q⟩ := h
  exact ⟨H, inv_gens I e os bb, by rw [e]; exact t, n, q⟩
end
end PD
set_option Elab.async false
set_option linter.all false
set_option maxRecDepth 100000
set_option maxHeartbeats 1000000
namespace PD
open PySem PySem.Spec PyProof.Rows L2
def anyGo (stop : Bool) (t : Tg) (ft : DnB) (fe : Dn) (ρ : Rho) : List PyData → R Bool
  | [] => .ok (!stop)
  | d :: ds => match t.set d ρ with
    | some ρ1 => nx (ft ρ1) fun b => if b = true then nx (fe ρ1) fun y => match y with
        | .bool c => if c = stop then .ok stop else anyGo stop t ft fe ρ ds
        | _ => .bad
      else anyGo stop t ft fe ρ ds
    | none => .bad
def dAnyG (stop : Bool) (fi : DnL) (t : Tg) (ft : DnB) (fe : Dn) (vs : List Nat) : Dn := fun ρ => fi ρ >>= fun ds => nx (anyGo stop t ft fe (wipeR ρ vs) ds) fun b => .ok (.bool b)
end PD
set_option Elab.async false
set_option linter.all false
set_option maxRecDepth 100000
set_option maxHeartbeats 1000000
namespace PD
open PySem PySem.Spec PyProof.Rows L2
def gPopAt (i : Nat) (f : Dn) : Sn := fun ρ => ownAt ρ i fun ds => oR (f ρ) ρ fun d => match d with
  | .int k => match seqIndex? k ds.length with
    | some j => if -(2 ^ 63) ≤ k ∧ k < 2 ^ 63 ∧ j < ds.length then .nx (ρ.set i (some (.own (ds.eraseIdx j)))) else .bad
    | none => .bad
  | _ => .bad
def lstRg (lo hi : Int) : List PyData := (List.range (hi - lo).toNat).map fun i => .int (lo + (i : Nat))
def rgOk (a b : Int) : Bool := decide (-(2 ^ 62) ≤ a ∧ a < 2 ^ 62 ∧ -(2 ^ 62) ≤ b ∧ b < 2 ^ 62 ∧ (b - a).toNat ≤ 2 ^ 24)
def bLstR1 : PyData → R PyData
  | .int n => if rgOk 0 n = true then .ok (.list (lstRg 0 n)) else .bad
  | _ => .bad
theorem rgOk_ok {a b : Int} (h : rgOk a b = true) : RgOk a b := by
  have h := of_decide_eq_true (p := -(2 ^ 62) ≤ a ∧ a < 2 ^ 62 ∧ -(2 ^ 62) ≤ b ∧ b < 2 ^ 62 ∧ (b - a).toNat ≤ 2 ^ 24) h
  exact h
theorem rp_rg {K : PySem.W.Frag} {G : Hp} (a b : Int) : RpAll K G (rgV a b) (lstRg a b) := by
  unfold rgV lstRg
  induction List.range (b - a).toNat with
  | nil => exact .nil
  | cons i r ih => exact .cons (.int _) ih
theorem lstRg_len (a b : Int) (h : rgOk a b = true) : (lstRg a b).length ≤ sizeLine := by
  unfold lstRg
  rw [List.length_map, List.length_range, sizeLine_eq]
  have := of_decide_eq_true h
  omega
section
variable {X : Cx} {Tb : List Addr} {W : WX} {a b : Expr} {f g : Dn} {pos p p2 pos2 : Pos}
theorem fd_lstR1 (hc : X.calm = true) (hl : Gl X "list") (ml : X.mg "list" = none) (hr : Gl X "range") (mr : X.mg "range" = none) (ha : PE X a (tD X.K Tb W f))
    (n1 : starEach [a] X.env = (false, eval a X.env) :: starEach [] X.env := by rfl) (n2 : starEach [.Call (.Name "range" p2) [a] [] pos2] X.env = (false, eval (.Call (.Name "range" p2) [a] [] pos2) X.env) :: starEach [] X.env := by rfl) :
    PE X (.Call (.Name "list" p) [.Call (.Name "range" p2) [a] [] pos2] [] pos) (tD X.K Tb W (dOne bLstR1 f)) :=
  (pe_listRg hc hl ml (prg_1 hr mr ha n1) n2).by fun σ H Q ⟨H0, O0, O, ρ, st, h⟩ => ⟨H0, O0, O, ρ, st, by
    refine Post.then h fun d v H1 ex rv k => ?_
    unfold bLstR1 at k
    split at k
    · rename_i n
      cases rv
      split at k
      · rename_i z
        refine ⟨n, rfl, rgOk_ok z, fun q hq => ?_⟩
        have al := (st.step ex).al
        refine k _ _ (Ext.new hq) (.lst (.of ?_) (lstRg_len _ _ z) (rp_rg _ _))
        rw [hide_out (fun m => al q m hq)]
        exact upd_same
      · exact k.elim
    · exact k.elim⟩
theorem fn_lstR1 (hc : X.calm = true) (hl : Gl X "list") (ml : X.mg "list" = none) (hr : Gl X "range") (mr : X.mg "range" = none) (ha : PE X a (tD X.K Tb W f))
    (n1 : starEach [a] X.env = (false, eval a X.env) :: starEach [] X.env := by rfl) (n2 : starEach [.Call (.Name "range" p2) [a] [] pos2] X.env = (false, eval (.Call (.Name "range" p2) [a] [] pos2) X.env) :: starEach [] X.env := by rfl) :
    PE X (.Call (.Name "list" p) [.Call (.Name "range" p2) [a] [] pos2] [] pos) (tN X.K Tb W (dOne bLstR1 f)) :=
  (pe_listRg hc hl ml (prg_1 hr mr ha n1) n2).by fun σ H Q ⟨H0, O0, O, ρ, st, h⟩ => ⟨H0, O0, O, ρ, st, by
    refine tN_of (x := f ρ) (u := bLstR1) h (fun a e q => by unfold bLstR1 at q; split at q <;> (try split at q) <;> cases q) fun d v H1 ex rv ds' e k => ?_
    unfold bLstR1 at e
    split at e
    · rename_i n
      cases rv
      split at e
      · rename_i z
        cases e
        exact ⟨n, rfl, rgOk_ok z, fun q hq => k q _ _ (Ext.new hq) hq upd_same (lstRg_len _ _ z) (rp_rg _ _)⟩
      · cases e
    · cases e⟩
end
end PD
set_option Elab.async false
set_option linter.all false
set_option maxRecDepth 100000
set_option maxHeartbeats 1000000
namespace PD
open PySem PySem.Spec PyProof.Rows L2
/-- the module hides none of the names that Python gives -/
structure Bi (mg : Str → Option Value) : Prop where
  len : mg "len" = none
  int : mg "int" = none
  bool : mg "bool" = none
  abs : mg "abs" = none
  tuple : mg "tuple" = none
  list : mg "list" = none
  sum : mg "sum" = none
  max : mg "max" = none
  min : mg "min" = none
  any : mg "any" = none
  all : mg "all" = none
  range : mg "range" = none
  isinstance : mg "isinstance" = none
  sorted : mg "sorted" = none
  enumerate : mg "enumerate" = none
  zip : mg "zip" = none
  set : mg "set" = none
section
variable {X : Cx} {Tb : List Addr} {W : WX} {a b e : Expr} {es : List Expr} {f g : Dn} {gl : DnL} {pos p : Pos} {k : Nat}
theorem boot_max : bootBuiltins "max" = some (.builtin "max") := by decide +kernel
theorem boot_min : bootBuiltins "min" = some (.builtin "min") := by decide +kernel
theorem boot_sum : bootBuiltins "sum" = some (.builtin "sum") := by decide +kernel
theorem boot_abs : bootBuiltins "abs" = some (.builtin "abs") := by decide +kernel
theorem boot_sorted : bootBuiltins "sorted" = some (.builtin "sorted") := by decide +kernel
theorem boot_any : bootBuiltins "any" = some (.builtin "any") := by decide +kernel
theorem boot_all : bootBuiltins "all" = some (.builtin "all") := by decide +kernel
theorem _root_.L2.Room.u64 {k : Nat} {A : Around} (r : Room k A) : A.units + 64 < cLine := by have := r.un; omega
theorem _root_.L2.Room.u65 {k : Nat} {A : Around} (r : Room k A) : A.units + 65 < cLine := by have := r.un; omega
theorem e_eq (hr : Room k X.A) (ha : PE X a (tD X.K Tb W f)) (hb : PE X b (tD X.K Tb W g)) (hm : behindInMarks .Eq b = false := by rfl) : PE X (.Compare a [.Eq] [b] pos) (tD X.K Tb W (dTwo oEq f g)) := fd_cmp (op_eqD hr.u64) ok_eq ha hb hm
theorem e_ne (hr : Room k X.A) (ha : PE X a (tD X.K Tb W f)) (hb : PE X b (tD X.K Tb W g)) (hm : behindInMarks .NotEq b = false := by rfl) : PE X (.Compare a [.NotEq] [b] pos) (tD X.K Tb W (dTwo oNe f g)) := fd_cmp (op_neD hr.u64) ok_ne ha hb hm
theorem e_lt (ha : PE X a (tD X.K Tb W f)) (hb : PE X b (tD X.K Tb W g)) (hm : behindInMarks .Lt b = false := by rfl) : PE X (.Compare a [.Lt] [b] pos) (tD X.K Tb W (dTwo oLt f g)) := fd_cmp op_lt ok_lt ha hb hm
theorem e_le (ha : PE X a (tD X.K Tb W f)) (hb : PE X b (tD X.K Tb W g)) (hm : behindInMarks .LtE b = false := by rfl) : PE X (.Compare a [.LtE] [b] pos) (tD X.K Tb W (dTwo oLe f g)) := fd_cmp op_le ok_le ha hb hm
theorem e_gt (ha : PE X a (tD X.K Tb W f)) (hb : PE X b (tD X.K Tb W g)) (hm : behindInMarks .Gt b = false := by rfl) : PE X (.Compare a [.Gt] [b] pos) (tD X.K Tb W (dTwo oGt f g)) := fd_cmp op_gt ok_gt ha hb hm
theorem e_ge (ha : PE X a (tD X.K Tb W f)) (hb : PE X b (tD X.K Tb W g)) (hm : behindInMarks .GtE b = false := by rfl) : PE X (.Compare a [.GtE] [b] pos) (tD X.K Tb W (dTwo oGe f g)) := fd_cmp op_ge ok_ge ha hb hm
theorem e_in (hr : Room k X.A) (ha : PE X a (tD X.K Tb W f)) (hb : PE X b (tD X.K Tb W g)) (hm : behindInMarks .In b = false := by rfl) : PE X (.Compare a [.In] [b] pos) (tD X.K Tb W (dTwo oIn f g)) := fd_cmp (PD.op_inS hr.u65) ok_in ha hb hm
theorem t_eq (hr : Room k X.A) (ha : PE X a (tD X.K Tb W f)) (hb : PE X b (tD X.K Tb W g)) (hm : behindInMarks .Eq b = false := by rfl) : PT X (.Compare a [.Eq] [b] pos) (tDT X.K Tb W (dAsB (dTwo oEq f g))) := ft_cmp (op_eqD hr.u64) ok_eq ha hb hm
theorem t_ne (hr : Room k X.A) (ha : PE X a (tD X.K Tb W f)) (hb : PE X b (tD X.K Tb W g)) (hm : behindInMarks .NotEq b = false := by rfl) : PT X (.Compare a [.NotEq] [b] pos) (tDT X.K Tb W (dAsB (dTwo oNe f g))) := ft_cmp (op_neD hr.u64) ok_ne ha hb hm
theorem t_lt (ha : PE X a (tD X.K Tb W f)) (hb : PE X b (tD X.K Tb W g)) (hm : behindInMarks .Lt b = false := by rfl) : PT X (.Compare a [.Lt] [b] pos) (tDT X.K Tb W (dAsB (dTwo oLt f g))) := ft_cmp op_lt ok_lt ha hb hm
theorem t_le (ha : PE X a (tD X.K Tb W f)) (hb : PE X b (tD X.K Tb W g)) (hm : behindInMarks .LtE b = false := by rfl) : PT X (.Compare a [.LtE] [b] pos) (tDT X.K Tb W (dAsB (dTwo oLe f g))) := ft_cmp op_le ok_le ha hb hm
theorem t_gt (ha : PE X a (tD X.K Tb W f)) (hb : PE X b (tD X.K Tb W g)) (hm : behindInMarks .Gt b = false := by rfl) : PT X (.Compare a [.Gt] [b] pos) (tDT X.K Tb W (dAsB (dTwo oGt f g))) := ft_cmp op_gt ok_gt ha hb hm
theorem t_ge (ha : PE X a (tD X.K Tb W f)) (hb : PE X b (tD X.K Tb W g)) (hm : behindInMarks .GtE b = false := by rfl) : PT X (.Compare a [.GtE] [b] pos) (tDT X.K Tb W (dAsB (dTwo oGe f g))) := ft_cmp op_ge ok_ge ha hb hm
theorem t_in (hr : Room k X.A) (ha : PE X a (tD X.K Tb W f)) (hb : PE X b (tD X.K Tb W g)) (hm : behindInMarks .In b = false := by rfl) : PT X (.Compare a [.In] [b] pos) (tDT X.K Tb W (dAsB (dTwo oIn f g))) := ft_cmp (PD.op_inS hr.u65) ok_in ha hb hm
theorem t_notin (hr : Room k X.A) (ha : PE X a (tD X.K Tb W f)) (hb : PE X b (tD X.K Tb W g)) (hm : behindInMarks .NotIn b = false := by rfl) : PT X (.Compare a [.NotIn] [b] pos) (tDT X.K Tb W (dAsB (dTwo oNotIn f g))) := ft_cmp (PD.op_notInS hr.u65) ok_notIn ha hb hm
theorem e_ix (ha : PE X a (tD X.K Tb W f)) (hb : PE X b (tD X.K Tb W g)) (hs : PlainIx b := by intro _ _; rfl) : PE X (.Subscript a b pos) (tD X.K Tb W (dTwo oIx f g)) := fd_ix ha hb hs
theorem e_len (B : Bi X.mg) (ha : PA X (e :: es) (tDs X.K Tb W gl)) (hg : Gl X "len" := by rfl) (he : starEach (e :: es) X.env = (false, eval e X.env) :: starEach es X.env := by rfl) (hpl : (backTo pos (starEach es X.env)).any (·.1) = false := by rfl) :
    PE X (.Call (.Name "len" p) (e :: es) [] pos) (tD X.K Tb W (dArg bLen gl)) := fd_callB call_len_seq ok_len hg B.len PySem.boot_len ha (by decide) (by decide) he hpl
theorem e_int (B : Bi X.mg) (ha : PA X (e :: es) (tDs X.K Tb W gl)) (hg : Gl X "int" := by rfl) (he : starEach (e :: es) X.env = (false, eval e X.env) :: starEach es X.env := by rfl) (hpl : (backTo pos (starEach es X.env)).any (·.1) = false := by rfl) :
    PE X (.Call (.Name "int" p) (e :: es) [] pos) (tD X.K Tb W (dArg bInt gl)) := fd_callTy call_int1 ok_int hg B.int boot_int ha (by decide) (by decide) he hpl
theorem e_abs (B : Bi X.mg) (ha : PA X (e :: es) (tDs X.K Tb W gl)) (hg : Gl X "abs" := by rfl) (he : starEach (e :: es) X.env = (false, eval e X.env) :: starEach es X.env := by rfl) (hpl : (backTo pos (starEach es X.env)).any (·.1) = false := by rfl) :
    PE X (.Call (.Name "abs" p) (e :: es) [] pos) (tD X.K Tb W (dArg bAbs gl)) := fd_callB call_abs ok_abs hg B.abs boot_abs ha (by decide) (by decide) he hpl
theorem e_tuple (B : Bi X.mg) (ha : PA X (e :: es) (tDs X.K Tb W gl)) (hg : Gl X "tuple" := by rfl) (he : starEach (e :: es) X.env = (false, eval e X.env) :: starEach es X.env := by rfl) (hpl : (backTo pos (starEach es X.env)).any (·.1) = false := by rfl) :
    PE X (.Call (.Name "tuple" p) (e :: es) [] pos) (tD X.K Tb W (dArg bTuple gl)) := fd_callTy call_tuple_of ok_tuple hg B.tuple boot_tuple ha (by decide) (by decide) he hpl
theorem e_list (B : Bi X.mg) (ha : PA X (e :: es) (tDs X.K Tb W gl)) (hg : Gl X "list" := by rfl) (he : starEach (e :: es) X.env = (false, eval e X.env) :: starEach es X.env := by rfl) (hpl : (backTo pos (starEach es X.env)).any (·.1) = false := by rfl) :
    PE X (.Call (.Name "list" p) (e :: es) [] pos) (tD X.K Tb W (dArg bList gl)) := fd_callTy call_list_of ok_list hg B.list boot_list ha (by decide) (by decide) he hpl
theorem e_sum (B : Bi X.mg) (ha : PA X (e :: es) (tDs X.K Tb W gl)) (hc : X.calm = true := by rfl) (hg : Gl X "sum" := by rfl) (he : starEach (e :: es) X.env = (false, eval e X.env) :: starEach es X.env := by rfl) (hpl : (backTo pos (starEach es X.env)).any (·.1) = false := by rfl) :
    PE X (.Call (.Name "sum" p) (e :: es) [] pos) (tD X.K Tb W (dArg bSum gl)) := fd_callB (cr_sum hc) ok_sum hg B.sum boot_sum ha (by decide) (by decide) he hpl
theorem e_max (B : Bi X.mg) (ha : PA X (e :: es) (tDs X.K Tb W gl)) (hc : X.calm = true := by rfl) (hg : Gl X "max" := by rfl) (he : starEach (e :: es) X.env = (false, eval e X.env) :: starEach es X.env := by rfl) (hpl : (backTo pos (starEach es X.env)).any (·.1) = false := by rfl) :
    PE X (.Call (.Name "max" p) (e :: es) [] pos) (tD X.K Tb W (dArg bMax gl)) := fd_callB (cr_max hc) ok_max hg B.max boot_max ha (by decide) (by decide) he hpl
theorem e_min2 (B : Bi X.mg) (ha : PA X (e :: es) (tDs X.K Tb W gl)) (hc : X.calm = true := by rfl) (hg : Gl X "min" := by rfl) (he : starEach (e :: es) X.env = (false, eval e X.env) :: starEach es X.env := by rfl) (hpl : (backTo pos (starEach es X.env)).any (·.1) = false := by rfl) :
    PE X (.Call (.Name "min" p) (e :: es) [] pos) (tD X.K Tb W (dArg bMin2 gl)) := fd_callB (call_min2 hc) ok_min2 hg B.min boot_min ha (by decide) (by decide) he hpl
theorem e_any (B : Bi X.mg) (ha : PA X (e :: es) (tDs X.K Tb W gl)) (hc : X.calm = true := by rfl) (hg : Gl X "any" := by rfl) (he : starEach (e :: es) X.env = (false, eval e X.env) :: starEach es X.env := by rfl) (hpl : (backTo pos (starEach es X.env)).any (·.1) = false := by rfl) :
    PE X (.Call (.Name "any" p) (e :: es) [] pos) (tD X.K Tb W (dArg bAny gl)) := fd_callB (cr_any hc) ok_any hg B.any boot_any ha (by decide) (by decide) he hpl
theorem e_all (B : Bi X.mg) (ha : PA X (e :: es) (tDs X.K Tb W gl)) (hc : X.calm = true := by rfl) (hg : Gl X "all" := by rfl) (he : starEach (e :: es) X.env = (false, eval e X.env) :: starEach es X.env := by rfl) (hpl : (backTo pos (starEach es X.env)).any (·.1) = false := by rfl) :
    PE X (.Call (.Name "all" p) (e :: es) [] pos) (tD X.K Tb W (dArg bAll gl)) := fd_callB (cr_all hc) ok_all hg B.all boot_all ha (by decide) (by decide) he hpl
theorem e_sorted (B : Bi X.mg) (hr : Room k X.A) (ha : PA X (e :: es) (tDs X.K Tb W gl)) (hg : Gl X "sorted" := by rfl) (he : starEach (e :: es) X.env = (false, eval e X.env) :: starEach es X.env := by rfl) (hpl : (backTo pos (starEach es X.env)).any (·.1) = false := by rfl) :
    PE X (.Call (.Name "sorted" p) (e :: es) [] pos) (tD X.K Tb W (dArg bSorted gl)) := fd_callB (cr_sortD hr.u64) ok_sorted hg B.sorted boot_sorted ha (by decide) (by decide) he hpl
theorem e_isInt (B : Bi X.mg) {py : Pos} (ha : PE X a (tD X.K Tb W f)) (hg : Gl X "isinstance" := by rfl) (hgy : Gl X "int" := by rfl) (he : starEach [a, .Name "int" py] X.env = (false, eval a X.env) :: starEach [.Name "int" py] X.env := by rfl) (he2 : starEach [.Name "int" py] X.env = (false, eval (.Name "int" py) X.env) :: starEach [] X.env := by rfl) (hpl : (backTo pos (starEach [.Name "int" py] X.env)).any (·.1) = false := by rfl) :
    PE X (.Call (.Name "isinstance" p) [a, .Name "int" py] [] pos) (tD X.K Tb W (dOne (oIsi "int") f)) := fd_isi ha hg B.isinstance hgy B.int boot_int (by decide) (by decide) he he2 hpl
theorem e_isBool (B : Bi X.mg) {py : Pos} (ha : PE X a (tD X.K Tb W f)) (hg : Gl X "isinstance" := by rfl) (hgy : Gl X "bool" := by rfl) (he : starEach [a, .Name "bool" py] X.env = (false, eval a X.env) :: starEach [.Name "bool" py] X.env := by rfl) (he2 : starEach [.Name "bool" py] X.env = (false, eval (.Name "bool" py) X.env) :: starEach [] X.env := by rfl) (hpl : (backTo pos (starEach [.Name "bool" py] X.env)).any (·.1) = false := by rfl) :
    PE X (.Call (.Name "isinstance" p) [a, .Name "bool" py] [] pos) (tD X.K Tb W (dOne (oIsi "bool") f)) := fd_isi ha hg B.isinstance hgy B.bool boot_bool (by decide) (by decide) he he2 hpl
theorem e_isTuple (B : Bi X.mg) {py : Pos} (ha : PE X a (tD X.K Tb W f)) (hg : Gl X "isinstance" := by rfl) (hgy : Gl X "tuple" := by rfl) (he : starEach [a, .Name "tuple" py] X.env = (false, eval a X.env) :: starEach [.Name "tuple" py] X.env := by rfl) (he2 : starEach [.Name "tuple" py] X.env = (false, eval (.Name "tuple" py) X.env) :: starEach [] X.env := by rfl) (hpl : (backTo pos (starEach [.Name "tuple" py] X.env)).any (·.1) = false := by rfl) :
    PE X (.Call (.Name "isinstance" p) [a, .Name "tuple" py] [] pos) (tD X.K Tb W (dOne (oIsi "tuple") f)) := fd_isi ha hg B.isinstance hgy B.tuple boot_tuple (by decide) (by decide) he he2 hpl
end
def FnD (P : Program) (w : World) (K : PySem.W.Frag) (mg : Str → Option Value) (base : Heap) (Tb : List Addr) (x : Str) (k : Nat) (m : List PyData → R PyData) : Prop :=
  ∃ (f : Addr) (fd : FuncData) (ps : List Str), FnOk P w K mg base (L2N.CX P w) k f fd ps (spD K Tb m) ∧ mg x = some (.ref f) ∧ PySem.W.keepIn K (.ref f) = true ∧ Binds K fd ps []
section
variable {X : Cx} {Tb : List Addr} {W : WX} {k j : Nat} {m : List PyData → R PyData} {x : Str} {p pos : Pos} {e : Expr} {es : List Expr} {gl : DnL}
theorem e_call (F : FnD X.prog X.w X.K X.mg X.base Tb x k m) (hx : ∀ σ, PassesAt (L2N.CX X.prog X.w) X σ (L2.WE W σ)) (hr : Room j X.A) (ha : PA X (e :: es) (tDs X.K Tb W gl)) (hj : k ≤ j := by decide) (hg : Gl X x := by rfl)
    (hdb : (x == ("__debug__" : Str)) = false := by decide) (he : starEach (e :: es) X.env = (false, eval e X.env) :: starEach es X.env := by rfl) (hpl : (backTo pos (starEach es X.env)).any (·.1) = false := by rfl) :
    PE X (.Call (.Name x p) (e :: es) [] pos) (tD X.K Tb W (dArg m gl)) := by
  obtain ⟨f, fd, ps, h, g, kp, b⟩ := F
  exact fd_call h (hr.mono hj) hg g kp b hx ha hdb he hpl
end
end PD
set_option Elab.async false
set_option linter.all false
set_option maxRecDepth 100000
set_option maxHeartbeats 1000000
namespace PD
open PySem PySem.Spec PyProof.Rows L2
theorem cx_no {l : PySem.W.OpenLaw} : ∀ (w : World) (H : Hp) (s : Shared) (e : Value) (s' : Shared), L2N.CX l.prog w [] H s (fun _ _ _ => False) e s' → False := fun _ _ _ _ _ h => by
  obtain ⟨_, _, _, _, _, _, _, _, _, _, _, _, z⟩ := h
  exact z
theorem hide0 (H : Hp) : hide [] H = H := by funext b; unfold hide; rw [if_neg (by simp)]
theorem rp_ints {K : PySem.W.Frag} {G : Hp} : ∀ ns : List Int, RpAll K G (ns.map V.int) (ns.map PyData.int)
  | [] => .nil
  | n :: r => .cons (.int n) (rp_ints r)
theorem spD_law0 {K : PySem.W.Frag} {m : List PyData → R PyData} (hm : ∀ ns : List Int, ns.length ≤ 63 → m [.list (ns.map .int)] = .ok (.bool true)) {H : Hp} {a : Addr} {ns : List Int} (hl : ns.length ≤ 63) (hS : SqL K H a (ns.map V.int)) :
    spD K [] m [.ref a] H (fun v _ => v = .bl true) fun _ _ _ => False := by
  refine ⟨[], [.list (ns.map .int)], fun b m => by simp at m, fun P m => by simp at m, .cons (.lst (by rw [hide0]; exact hS) ?_ (rp_ints ns)) .nil, ?_⟩
  · rw [List.length_map, sizeLine_eq]; omega
  · rw [hm ns hl]
    intro v H' e r
    have r : Rp K (hide [] H') v (.bool true) := r
    cases r
    rfl
end PD
set_option Elab.async false
set_option linter.all false
set_option maxRecDepth 100000
set_option maxHeartbeats 1000000
namespace PD
open PySem PySem.Spec PyProof.Rows L2
end PD
set_option Elab.async false
set_option linter.all false
set_option maxRecDepth 100000
set_option maxHeartbeats 1000000
namespace PD
open PySem PySem.Spec PyProof.Rows L2
section
variable {X : Cx} {pins : List (Addr × Obj)} {σ : L2.St} {H : Hp} {s : Shared}
theorem itemsAre_of {P : Program} {w : World} : ∀ {k : List Int} {its : List Value}, Vals (k.map V.int) its → ItemsAre (intKind P w) k its
  | [], _, h => by cases h; exact .nil
  | i :: k, _, h => by
    cases h with
    | cons r t =>
      obtain ⟨u, rfl⟩ := r
      exact .cons (by show Value.isInt i (.int i u) = true; simp [Value.isInt]) (itemsAre_of t)
theorem key_is (I : Inv X pins σ H s) {b : Addr} {k : List Int} (h : SqT X.K H b (k.map V.int)) : (ikt X.prog X.w).is s.heap k b := by
  obtain ⟨its, rv, ⟨o, e, c, n, d⟩, _⟩ := I.tuple h
  exact ⟨o, its.toArray, n, e, c, d, itemsAre_of rv⟩
abbrev kvT (xs : List (List Int × Addr)) : List (List Int × Addr × Value) := xs.map fun x => (x.1, x.2, .bool true)
theorem dct_at (I : Inv X pins σ H s) {a : Addr} {ep : Nat} {xs : List (List Int × Addr)} (h : H a = some (dctO a ep xs)) (hk : ∀ x ∈ xs, SqT X.K H x.2 (x.1.map V.int)) : (a == sysModules) = false ∧ xs.length ≤ sizeLine ∧ s.heap.DictOfH (ikt X.prog X.w) a (kvT xs) := by
  obtain ⟨⟨h1, h2, h3, o, es, e1, e2, e3, e4⟩, _, _⟩ := I.hok a _ h
  refine ⟨h1, h2, o, es, ep, e1, e2, e3, ?_, fun x hx => ?_, ?_⟩
  · rw [e4 X.prog X.w, List.map_map]; rfl
  · obtain ⟨y, hy, rfl⟩ := List.mem_map.mp hx
    exact key_is I (hk y hy)
  · rw [List.map_map]; exact h3
theorem dct_ok {P : Program} {w : World} {H' : Hp} {h : Heap} {a : Addr} {xs : List (List Int × Addr)} (h1 : (a == sysModules) = false) (h2 : xs.length ≤ sizeLine) (d : h.DictOfH (ikt P w) a (kvT xs)) : ∃ ep, ObjOk P w H' h a (dctO a ep xs) := by
  obtain ⟨o, es, ep, e1, e2, e3, e4, _, e6⟩ := d
  rw [List.map_map] at e6 e4
  refine ⟨ep, ⟨h1, h2, e6, o, es, e1, e2, e3, fun P' w' => e4⟩, ⟨o, e1⟩, fun k1 k2 p st => ?_⟩
  obtain ⟨h1, h2, h3, o, es, e1, e2, e3, e4⟩ := p
  exact ⟨h1, h2, h3, o, es, st o e1, e2, e3, e4⟩
theorem dct_new {P : Program} {w : World} {H' : Hp} (h : Heap) (hb : sysModules < h.objs.size) : ObjOk P w H' (h.push { cls := .type "dict", data := .dict #[] }) h.objs.size (dctO h.objs.size 0 []) := by
  have e : (h.push { cls := .type "dict", data := .dict #[] }).get? h.objs.size = some { cls := .type "dict", data := .dict #[] } := Heap.get?_push_size _ rfl
  refine ⟨⟨beq_eq_false_iff_ne.mpr (Nat.ne_of_gt hb), Nat.zero_le _, List.nodup_nil, _, #[], e, ⟨rfl, rfl, rfl⟩, rfl, fun _ _ => rfl⟩, ⟨_, e⟩, fun k1 k2 p st => ?_⟩
  obtain ⟨h1, h2, h3, o, es, e1, e2, e3, e4⟩ := p
  exact ⟨h1, h2, h3, o, es, st o e1, e2, e3, e4⟩
theorem dct_any {P : Program} {w : World} {H H' : Hp} {h : Heap} {a : Addr} {ep : Nat} {xs : List (List Int × Addr)} (o : ObjOk P w H h a (dctO a ep xs)) : ObjOk P w H' h a (dctO a ep xs) := o
def putT (xs : List (List Int × Addr)) (k : List Int) (b : Addr) : List (List Int × Addr) := if k ∈ xs.map (·.1) then xs else xs ++ [(k, b)]
theorem atKey_kvT (xs : List (List Int × Addr)) (k : List Int) : (atKey (kvT xs) k).isSome = decide (k ∈ xs.map (·.1)) := by
  unfold atKey
  induction xs with
  | nil => rfl
  | cons x r ih =>
    rw [show kvT (x :: r) = (x.1, x.2, .bool true) :: kvT r from rfl, List.find?_cons]
    by_cases e : x.1 = k
    · subst e; simp
    · have e' : ¬ k = x.1 := fun z => e z.symm
      simp only [e, decide_false, List.map_cons, List.mem_cons, e', false_or]
      exact ih
theorem stored_kvT (xs : List (List Int × Addr)) (k : List Int) (b : Addr) : storedH (kvT xs) k b (.bool true) = kvT (putT xs k b) := by
  unfold storedH putT
  by_cases h : k ∈ xs.map (·.1)
  · rw [if_pos (by rw [atKey_kvT]; exact decide_eq_true h), if_pos h]
    unfold kvT
    rw [List.map_map]
    refine List.map_congr_left fun x _ => ?_
    show putAt k (.bool true) (x.1, x.2, .bool true) = _
    unfold putAt
    split <;> rfl
  · rw [if_neg (by rw [atKey_kvT]; simpa using h), if_neg h]
    unfold kvT
    rw [List.map_append]; rfl
theorem putT_len (xs : List (List Int × Addr)) (k : List Int) (b : Addr) : (putT xs k b).length ≤ xs.length + 1 := by
  unfold putT; split <;> simp
/-- d[k] = True -/
theorem store_dct {E : Value → Shared → Prop} {D b : Addr} {ep : Nat} {xs : List (List Int × Addr)} {k : List Int} {Q : Unit → Shared → Prop} (hu : X.A.units < cLine) (I : Inv X pins σ H s) (hD : H D = some (dctO D ep xs)) (hk : ∀ x ∈ xs, SqT X.K H x.2 (x.1.map V.int)) (hz : xs.length < sizeLine)
    (hb : SqT X.K H b (k.map V.int)) (h : ∀ ep' s', Inv X pins σ (upd H D (dctO D ep' (putT xs k b))) s' → Q () s') : wpAny (model X.prog X.w) X.A (dictSet D (.ref b) (.bool true)) Q E s := by
  obtain ⟨h1, h2, d⟩ := dct_at I hD hk
  refine wpAny_dictSet_heap (hsz := by rw [List.length_map]; exact h2) hu (key_is I hb) d fun h' d' hs => ?_
  rw [stored_kvT] at d'
  have he : ∃ q, h'.get? D = some q := let ⟨q, _, _, hq, _⟩ := d'; ⟨q, hq⟩
  obtain ⟨ep', ok⟩ := dct_ok (P := X.prog) (w := X.w) (H' := H) h1 (by have := putT_len xs k b; omega) d'
  exact h ep' _ (I.write (x := D) (e := D) (by rw [hD]; trivial) (.inl rfl) (fun b q hb z => (hs.2 b hb).trans z) he (dct_any ok))
end
def asTu : PyData → Option (List Int)
  | .tuple l => asInts l
  | _ => none
def keysOf (kvs : List (PyData × PyData)) : List (Option (List Int)) := kvs.map fun p => asTu p.1
def oInT (d e : PyData) : R PyData := match e with
  | .dict kvs => (match asTu d with | some k => .ok (.bool (decide (some k ∈ keysOf kvs))) | none => .bad)
  | _ => .bad
theorem asInts_ints : ∀ l : List Int, asInts (l.map .int) = some l
  | [] => rfl
  | x :: r => by rw [List.map_cons, asInts, asInts_ints r]; rfl
end PD
set_option Elab.async false
set_option linter.all false
set_option maxRecDepth 100000
set_option maxHeartbeats 1000000
namespace PD
open PySem PySem.Spec PyProof.Rows L2
section
variable (X : Cx) (s : Shared) (scope : Scope)
/-- the block's own environment -/
abbrev envBlk : Env := compEnvC scope (cellsFrom (s.heap.objs.size + 1) scope.names (cloFrom X.env.cells scope.names [])) s.heap.objs.size X.env
/-- the block's context -/
abbrev inBlk (H : Hp) (fp : List Addr) : Cx := X.blk s H scope (envBlk X s scope) fp
end
section
variable {X : Cx} {pins : List (Addr × Obj)} {σ : L2.St} {vs : List Nat} {s0 : Shared} {H0 : Hp} {scope : Scope} {fp : List Addr} {tn : Nat → Heap → Prop} {J : It} {tg : Expr} {it : Addr}
/-- a turn is about to start -/
structure AtTurn (X : Cx) (s0 : Shared) (H0 : Hp) (scope : Scope) (fp : List Addr) (tn : Nat → Heap → Prop) (τ : L2.St) (i : Nat) (H : Hp) (s : Shared) : Prop where
  inv : Inv (inBlk X s0 scope H0 fp) [] τ H s
  own : tn i s.heap
  hid : ∀ b ∈ fp, H b = none
theorem AtTurn.free {τ : L2.St} {i : Nat} {H : Hp} {s : Shared} (a : AtTurn X s0 H0 scope fp tn τ i H s) {b : Addr} (hb : b ∈ fp) : FpOk (inBlk X s0 scope H0 fp) [] H b := by
  have w := a.inv.ok.exf b hb
  refine ⟨a.hid b hb, w.1, a.inv.ok.exfs b hb, Or.inl hb, fun x c e => w.2 x c e, ?_⟩
  intro p hp
  simp [Cx.blk] at hp
theorem AtTurn.next {τ σ1 : L2.St} {i : Nat} {H1 : Hp} {s1 s2 : Shared} (T : Turn X.prog X.w X.K tg J fp it tn) (e : L2.wipe σ1 vs = L2.wipe σ vs) (t1 : tn i s1.heap)
    (I : Inv (inBlk X s0 scope H0 fp) ([] ++ pinsAt fp s1.heap) σ1 H1 s2) : AtTurn X s0 H0 scope fp tn (L2.wipe σ vs) i H1 s2 := by
  have same : ∀ b ∈ fp, ∀ o, s1.heap.get? b = some o → s2.heap.get? b = some o ∧ H1 b = none := by
    intro b hb o hbo
    have mem : (b, o) ∈ (inBlk X s0 scope H0 fp).pn ++ ([] ++ pinsAt fp s1.heap) := by
      rw [List.nil_append]
      exact List.mem_append_right _ (mem_pinsAt hb hbo)
    exact ⟨(I.pin _ mem).1, (I.pin _ mem).2.1⟩
  have wide : (L2.wipe σ vs).length = σ1.length := e ▸ wipe_length ..
  constructor
  · refine I.unpinned.weak wide ?_
    intro j v hj
    exact (wipe_some (e ▸ hj)).1
  · exact T.keep _ _ _ t1 fun b hb o hbo => (same b hb o hbo).1
  · intro b hb
    obtain ⟨o, hbo, -⟩ := T.obj _ _ t1 b hb
    exact (same b hb o hbo).2
/-- the def around the block, behind it -/
theorem AtTurn.leave {τ : L2.St} {H1 : Hp} {s1 : Shared} (I0 : Inv X pins σ H0 s0) (f0 : ∀ b ∈ fp, FpOk X pins H0 b) (I1 : Inv (inBlk X s0 scope H0 fp) [] τ H1 s1) :
    Inv X pins σ H1 s1 ∧ FpOk X pins H1 s0.heap.objs.size ∧ ∃ m, s1.heap.Ns s0.heap.objs.size m := by
  have fr : H1 s0.heap.objs.size = none := I1.free
  obtain ⟨m, hm, -⟩ := I1.loc
  refine ⟨I0.call' (ch := fp) I1.os I1.base I1.hok I1.bare ?_, I0.fpOk (Nat.le_refl _) fr, m, hm⟩
  intro b hb
  obtain ⟨-, b1, -, b3, b4, b5⟩ := f0 b hb
  exact ⟨b3, b1, b4, b5⟩
/-- what the rule asks of a turn -/
def keyTurn (K : PySem.W.Frag) (σ : L2.St) (vs : List Nat) (g : TG) (tt : TT) (tk : TE) (D : Addr) (Nx : Hp → Prop) (x : V) (H : Hp) : Prop :=
  g x (L2.wipe σ vs) H fun σ2 H2 => L2.wipe σ2 vs = L2.wipe σ vs ∧ tt σ2 H2 fun b H3 =>
    if b = true then tk σ2 H3 fun y H4 => ∃ ep xs p k, y = .ref p ∧ H4 D = some (dctO D ep xs) ∧ (∀ x ∈ xs, SqT K H4 x.2 (x.1.map V.int)) ∧ xs.length < sizeLine ∧ SqT K H4 p (k.map V.int) ∧ ∀ ep', Nx (upd H4 D (dctO D ep' (putT xs k p))) else Nx H3
def tDcT (K : PySem.W.Frag) (wi : TI) (g : TG) (tt : TT) (tk : TE) (vs : List Nat) : TE := fun σ H Q => wi σ H fun J H1 => ∀ D, H1 D = none → ∃ W : Nat → Nat → Hp → Prop, (∃ m, W 0 m (upd H1 D (dctO D 0 []))) ∧ ∀ i m H, W i m H →
  (J.stop i H ∧ Q (.ref D) H) ∨ (J.go i H ∧ ∃ Nx : Hp → Prop, (∀ H', Nx H' → ∃ m', m' < m ∧ W (i + 1) m' H') ∧ ∀ x H', J.yld i H x H' → keyTurn K σ vs g tt tk D Nx x H')
/-- all turns, from the first one on -/
theorem keyLoop {kx iter : Expr} {ifs : List Expr} {pos : Pos} {g : TG} {tt : TT} {tk : TE} {tpos : Pos} {tj : Nat} {D : Addr} {Q : VK} {R : Result → Shared → Prop} {W : Nat → Nat → Hp → Prop} {m0 : Nat}
    (hu : X.A.units < cLine) (hc : X.calm = true) (T : Turn X.prog X.w X.K tg J fp it tn)
    (pg : PG (inBlk X s0 scope H0 fp) tg g) (pt : PTs (inBlk X s0 scope H0 fp) ifs tt) (pk : PE (inBlk X s0 scope H0 fp) kx tk)
    (turn : ∀ i m H, W i m H → (J.stop i H ∧ Q (.ref D) H) ∨ (J.go i H ∧ ∃ Nx : Hp → Prop, (∀ H', Nx H' → ∃ m', m' < m ∧ W (i + 1) m' H') ∧ ∀ x H', J.yld i H x H' → keyTurn X.K σ vs g tt tk D Nx x H'))
    (over : ∀ H s, Inv (inBlk X s0 scope H0 fp) [] (L2.wipe σ vs) H s → Q (.ref D) H → R (.ok .next) s)
    {s : Shared} {H : Hp} (w0 : W 0 m0 H) (a0 : AtTurn X s0 H0 scope fp tn (L2.wipe σ vs) 0 H s) :
    codeAny (model X.prog X.w) X.A (.compLoop (.DictComp kx (.Constant (.bool true) tj tpos) [⟨tg, iter, ifs, 0⟩] scope pos) 0 (.ref it) (.ref D) (envBlk X s0 scope)) R s := by
  refine compLoop_anyD (fun m s => ∃ i H, AtTurn X s0 H0 scope fp tn (L2.wipe σ vs) i H s ∧ W i m H) ?_ m0 ⟨0, H, a0, w0⟩
  intro m s1 ⟨i, H1, a1, w1⟩
  cases turn i m H1 w1 with
  | inl z =>
    refine thnF (T.done (inBlk X s0 scope H0 fp) rfl rfl rfl hc i [] s1 _ H1 (fun _ _ => False) a1.inv (fun b => a1.free) a1.own z.1) ?_
    rintro r s2 ⟨rfl, I2⟩
    exact over H1 s2 I2 z.2
  | inr z =>
    obtain ⟨go, Nx, less, each⟩ := z
    refine thnF (T.item (inBlk X s0 scope H0 fp) rfl rfl rfl hc i [] s1 _ H1 (fun _ _ => False) a1.inv (fun b => a1.free) a1.own go) ?_
    rintro r s2 ⟨u, rfl, hu2⟩
    refine thnF hu2 ?_
    rintro _ s3 ⟨x, H3, I3, rx, hx, t3, n3⟩
    have a3 : AtTurn X s0 H0 scope fp tn (L2.wipe σ vs) (i + 1) H3 s3 := ⟨I3, t3, n3⟩
    have done : ∀ {σ4 : L2.St} {s5 : Shared} {H5 : Hp}, L2.wipe σ4 vs = L2.wipe σ vs → Inv (inBlk X s0 scope H0 fp) ([] ++ pinsAt fp s3.heap) σ4 H5 s5 → Nx H5 →
        ∃ m', m' < m ∧ ∃ i H, AtTurn X s0 H0 scope fp tn (L2.wipe σ vs) i H s5 ∧ W i m' H := by
      intro σ4 s5 H5 e I5 nx
      obtain ⟨m', lt, w⟩ := less H5 nx
      exact ⟨m', lt, i + 1, H5, AtTurn.next (τ := σ) T e t3 I5, w⟩
    refine thnF (pg.run _ s3 _ H3 x u _ (I3.pinned (fun b => a3.free) (T.obj _ _ t3)) rx (each x H3 hx)) ?_
    rintro _ s4 ⟨σ4, H4, I4, e4, q4⟩
    refine thnF (pt.run _ s4 σ4 H4 _ I4 q4) ?_
    rintro b s5 ⟨H5, I5, q5⟩
    rcases b with _ | _
    · exact done e4 I5 q5
    · refine thnF (pk.run _ s5 σ4 H5 _ I5 q5) ?_
      rintro kv s6 ⟨_, H6, I6, rk, ep, xs, p, k, rfl, hD, hks, hsz, hp, nx⟩
      cases rk
      exact Constant_bool (store_dct (X := inBlk X s0 scope H0 fp) hu I6 hD hks hsz hp fun ep7 s7 I7 => done e4 I7 (nx ep7))
end
section
variable {X : Cx} {kx tg iter : Expr} {ifs : List Expr} {scope : Scope} {own : List (Str × Nat)} {pos : Pos} {wi : TI} {g : TG} {tt : TT} {tk : TE} {tpos : Pos} {tj : Nat}
/-- the parts of such a comprehension, read -/
structure KeyParts (X : Cx) (kx tg iter : Expr) (ifs : List Expr) (scope : Scope) (own : List (Str × Nat)) (wi : TI) (g : TG) (tt : TT) (tk : TE) : Prop where
  line : X.A.units < cLine
  calm : X.calm = true
  nd : X.N.Nodup
  walk : PI X tg iter wi
  blk : BlkOk X.N X.env.scope scope own
  tgt : ∀ (s : Shared) (H : Hp) (fp : List Addr), PG (inBlk X s scope H fp) tg g
  test : ∀ (s : Shared) (H : Hp) (fp : List Addr), PTs (inBlk X s scope H fp) ifs tt
  key : ∀ (s : Shared) (H : Hp) (fp : List Addr), PE (inBlk X s scope H fp) kx tk
  plain : ∀ x, foldedSetIterable iter X.env x = pure x
theorem KeyParts.run (P : KeyParts X kx tg iter ifs scope own wi g tt tk) {pins : List (Addr × Obj)} {s : Shared} {σ : L2.St} {H : Hp} {Q : VK} {pos' : Pos} {use : Option (Value → Sem Unit)} {Qf : Value → Shared → Prop}
    (I : Inv X pins σ H s) (h : tDcT X.K wi g tt tk (own.map (·.2)) σ H Q)
    (hQ : ∀ D C s' m H', Inv X pins σ H' s' → Q (.ref D) H' → s'.heap.Ns C m → FpOk X pins H' C → compPost (model X.prog X.w) X.A X.xe use Qf (.ref D) C (.ok .next) s') :
    wpAny (model X.prog X.w) X.A (comprehension (.DictComp kx (.Constant (.bool true) tj tpos) [⟨tg, iter, ifs, 0⟩] scope pos) scope X.env pos' newDict false (eval iter X.env) use) Qf X.xe s := by
  have cells : ∀ y ∈ scope.names, y.2 = .free → ∃ c, X.env.cells.lookup y.1 = some c := by
    intro y hy e
    cases P.blk.free y hy e with
    | inl z => exact I.ok.has _ (.inl z)
    | inr z => exact I.ok.has _ (.inr z)
  have locs : ∀ y ∈ scope.names, y.2 = .local → scope.names.lookup y.1 = some .local := fun y hy e => (P.blk.uniq y hy).trans (congrArg some e)
  refine wpAny_comprehension_free (use := use) rfl P.plain (closure_ok cells) P.blk.kind locs ?_
  refine thn (P.walk.run pins s σ H _ I h) ?_
  intro x s1 h1
  refine thn h1 ?_
  rintro _ s2 ⟨it, fp, tn, J, H2, rfl, I2, T, t2, f2, h2⟩
  -- the dict
  refine wpAny_newObj_type ?_
  obtain ⟨W, ⟨m0, w0⟩, turn⟩ := h2 s2.heap.objs.size (I2.hok.fresh (Nat.le_refl _))
  have I3 : Inv X pins σ (upd H2 s2.heap.objs.size (dctO s2.heap.objs.size 0 [])) { s2 with heap := s2.heap.push { cls := .type "dict", data := .dict #[] } } :=
    I2.laid (t' := s2.toks) (fun b o e => Heap.get?_push_of_some _ e) (Nat.le_refl _)
      (dct_new s2.heap I2.big)
  have f3 : ∀ b ∈ fp, FpOk X pins (upd H2 s2.heap.objs.size (dctO s2.heap.objs.size 0 [])) b ∧ b < (s2.heap.push { cls := .type "dict", data := .dict #[] }).objs.size := by
    intro b hb
    obtain ⟨o, hbo, -⟩ := T.obj _ _ t2 b hb
    have lt : b < s2.heap.objs.size := Heap.lt_size hbo
    refine ⟨⟨(upd_ne (Nat.ne_of_lt lt)).trans (f2 b hb).1, (f2 b hb).2⟩, ?_⟩
    rw [Heap.size_push]
    exact Nat.lt_succ_of_lt lt
  have t3 : tn 0 (s2.heap.push { cls := .type "dict", data := .dict #[] }) := T.keep _ _ _ t2 fun b _ o e => Heap.get?_push_of_some _ e
  -- the block
  refine newEnv_comp ?_
  have t4 := T.keep _ _ (pushCells (((s2.heap.push { cls := .type "dict", data := .dict #[] })).push { cls := .type "dict", data := .dict #[] }) scope.names) t3 fun b _ o e => pushCells_keeps _ _ _ _ (Heap.get?_push_of_some _ e)
  have loop := keyLoop (σ := σ) (vs := own.map (·.2)) (pos := pos) (tpos := tpos) (tj := tj) (R := compPost (model X.prog X.w) X.A X.xe use Qf (.ref s2.heap.objs.size) (s2.heap.push { cls := .type "dict", data := .dict #[] }).objs.size) (iter := iter)
    P.line P.calm T (P.tgt _ _ fp) (P.test _ _ fp) (P.key _ _ fp) turn
    (fun H5 s5 I5 q => by
      obtain ⟨I6, f6, m, hm⟩ := AtTurn.leave I3 (fun b hb => (f3 b hb).1) I5
      exact hQ _ _ s5 m H5 I6 q hm f6)
    w0 ⟨block_start I3 P.blk P.nd f3, t4, fun b hb => (f3 b hb).1.1⟩
  exact codeAny_compStart_dict loop (T.self X.A 0 _ _ _ t4 loop)
theorem KeyParts.of (hu : X.A.units < cLine) (hc : X.calm = true) (hN : X.N.Nodup) (hi : PI X tg iter wi) (ok : BlkOk X.N X.env.scope scope own)
    (hg : ∀ (s : Shared) (H : Hp) (C : Addr) (cl : List (Str × Addr)) (fp : List Addr), PG (X.blk s H scope (compEnvC scope cl C X.env) fp) tg g) (ht : ∀ (s : Shared) (H : Hp) (C : Addr) (cl : List (Str × Addr)) (fp : List Addr), PTs (X.blk s H scope (compEnvC scope cl C X.env) fp) ifs tt)
    (hk : ∀ (s : Shared) (H : Hp) (C : Addr) (cl : List (Str × Addr)) (fp : List Addr), PE (X.blk s H scope (compEnvC scope cl C X.env) fp) kx tk)
    (hs : ∀ x, foldedSetIterable iter X.env x = pure x) : KeyParts X kx tg iter ifs scope own wi g tt tk :=
  ⟨hu, hc, hN, hi, ok, fun s H fp => hg s H _ _ fp, fun s H fp => ht s H _ _ fp, fun s H fp => hk s H _ _ fp, hs⟩
end
end PD
set_option Elab.async false
set_option linter.all false
set_option maxRecDepth 100000
set_option maxHeartbeats 1000000
namespace PD
open PySem PySem.Spec PyProof.Rows L2
def keyD (k : List Int) : PyData × PyData := (.tuple (k.map .int), .bool true)
end PD
set_option Elab.async false
set_option linter.all false
set_option maxRecDepth 100000
set_option maxHeartbeats 1000000
namespace PD
open PySem PySem.Spec PyProof.Rows L2
def oIs : PyData → PyData → R PyData
  | .bool a, .bool b => .ok (.bool (a == b))
  | _, _ => .bad
/-- two bools -/
def rBB (f : Bool → Bool → Bool) : R2 := fun x y H Q => ∃ a b, x = .bl a ∧ y = .bl b ∧ Q (.bl (f a b)) H
section
variable {X : Cx} {K : PySem.W.Frag}
theorem op_isB : OpR X (compareOp .Is) (rBB fun a b => a == b) := by
  rintro pins s σ H _ _ v u Q I rx ry ⟨a, b, rfl, rfl, q⟩
  cases rx; cases ry
  refine wpAny_is_plain rfl ⟨.bl (a == b), H, I, ?_, q⟩
  cases a <;> cases b <;> rfl
theorem ok_bb {f : Bool → Bool → Bool} {u : PyData → PyData → R PyData} (hu : ∀ d e, (∃ a b, d = .bool a ∧ e = .bool b ∧ u d e = .ok (.bool (f a b))) ∨ u d e = .bad) : Ok2 K (rBB f) u := by
  intro O H Wx x y d e Q al hx hy h
  rcases hu d e with ⟨a, b, rfl, rfl, z⟩ | z
  · rw [z] at h
    cases hx; cases hy
    exact ⟨a, b, rfl, rfl, Post.here h (.bl _)⟩
  · rw [z] at h
    exact h.elim
theorem ok_is : Ok2 K (rBB fun a b => a == b) oIs := ok_bb fun d e => by
  unfold oIs
  split
  · exact .inl ⟨_, _, rfl, rfl, rfl⟩
  · exact .inr rfl
variable {Tb : Nat → Prop} {a b : Expr} {f g : Dn} {pos : Pos}
end
section
variable {X : Cx} {a b : Expr} {f g : Dn} {pos : Pos}
theorem e_isB (ha : PE X a (tD X.K Tb W f)) (hb : PE X b (tD X.K Tb W g)) (hm : behindInMarks .Is b = false := by rfl) : PE X (.Compare a [.Is] [b] pos) (tD X.K Tb W (dTwo oIs f g)) := fd_cmp op_isB ok_is ha hb hm
end
end PD
set_option Elab.async false
set_option linter.all false
set_option maxRecDepth 100000
set_option maxHeartbeats 1000000
namespace PD
open PySem PySem.Spec PyProof.Rows L2
/-- t <= u: u does not come before t -/
def leT (ns ms : List Int) : Bool := !(HT.lexLt ms ns)
end PD
set_option Elab.async false
set_option linter.all false
set_option maxRecDepth 100000
set_option maxHeartbeats 1000000
namespace PD
open PySem PySem.Spec PyProof.Rows L2
def SqX (K : PySem.W.Frag) (H : Hp) (tp : Bool) (a : Addr) (xs : List V) : Prop := match tp with
  | true => SqT K H a xs
  | false => SqL K H a xs
def ItX (h : Heap) (tp : Bool) (it a : Addr) (i : Nat) : Prop := match tp with
  | true => h.IsTupleIter it a i
  | false => h.IsListIter it a i
def PlX (h : Heap) (tp : Bool) (a : Addr) (its : Array Value) : Prop := match tp with
  | true => h.IsTuple a its
  | false => h.IsList a its
def itO (tp : Bool) (a : Addr) : Obj := match tp with
  | true => { cls := .type "tuple_iterator", data := .fields #[.ref a, .int 0 0] }
  | false => { cls := .type "list_iterator", data := .fields #[.ref a, .int 0 0] }
theorem drawsX {prog : Program} {w : World} {A : Around} (hh : A.handled = none) (tp : Bool) {it a : Addr} (ne : a ≠ it) (its : Array Value) :
    Draws prog w A it [it, a] its.size (fun i v => its[i]? = some v) (fun i h => ItX h tp it a i ∧ PlX h tp a its) := by
  cases tp with
  | true => exact Draws.tuple hh it a ne its
  | false => exact Draws.list hh it a ne its
theorem beginsX (tp : Bool) (a : Addr) (its : Array Value) : Begins (.ref a) (itO tp a) (fun h => PlX h tp a its) := by
  cases tp with
  | true => exact begins_tuple a its
  | false => exact begins_list a its
theorem itX_new {h : Heap} {tp : Bool} {it a : Addr} (e : h.get? it = some (itO tp a)) : ItX h tp it a 0 := by
  cases tp with
  | true => exact ⟨_, e, rfl, rfl⟩
  | false => exact ⟨_, e, rfl, rfl⟩
theorem ItX.obj {h : Heap} {tp : Bool} {it a : Addr} {i : Nat} (x : ItX h tp it a i) : ∃ o, h.get? it = some o ∧ ∀ v, o.data ≠ .cell v := by
  cases tp with
  | true =>
    obtain ⟨o, e, _, d⟩ := x
    exact ⟨o, e, fun v q => by rw [d] at q; cases q⟩
  | false =>
    obtain ⟨o, e, _, d⟩ := x
    exact ⟨o, e, fun v q => by rw [d] at q; cases q⟩
theorem ItX.at {h h' : Heap} {tp : Bool} {it a : Addr} {i : Nat} (x : ItX h tp it a i) (e : ∀ o, h.get? it = some o → h'.get? it = some o) : ItX h' tp it a i := by
  cases tp with
  | true => exact Heap.IsTupleIter.at x e
  | false => exact Heap.IsListIter.at x e
section
variable {X : Cx} {pins : List (Addr × Obj)} {σ : L2.St} {H : Hp} {s : Shared} {tp : Bool} {a : Addr} {xs ys : List V}
theorem sqX_read (I : Inv X pins σ H s) (h : SqX X.K H tp a xs) : ∃ its : List Value, Vals xs its ∧ PlX s.heap tp a its.toArray := by
  cases tp with
  | true =>
    obtain ⟨its, rv, p, _⟩ := I.tuple h
    exact ⟨its, rv, p⟩
  | false =>
    obtain ⟨its, rv, p, _⟩ := I.list h
    exact ⟨its, rv, p.isList⟩
theorem sqX_inj (I : Inv X pins σ H s) (h : SqX X.K H tp a xs) (h' : SqX X.K H tp a ys) : xs = ys := by
  cases tp with
  | true => exact I.tuple_inj h h'
  | false => exact I.list_inj h h'
theorem PlX.lt {h : Heap} {its : Array Value} (p : PlX h tp a its) : a < h.objs.size := by
  cases tp with
  | true => obtain ⟨_, e, _⟩ := p; exact Heap.lt_size e
  | false => obtain ⟨_, e, _⟩ := p; exact Heap.lt_size e
theorem SqX.step {K : PySem.W.Frag} {G G' : Hp} (s : Sub G G') (h : SqX K G tp a xs) : SqX K G' tp a xs := by
  cases tp with
  | true => exact s.sqT h
  | false => exact s.sqL h
end
def Ige (K : PySem.W.Frag) (tp : Bool) (a : Addr) (k : Int) : It where
  go i H := ∃ (xs : List V) (x : V), SqX K H tp a xs ∧ xs[i]? = some x
  yld i H v H' := ∃ T x, v = .ref T ∧ H T = none ∧ H' = upd H T (.tup [.int (k + (i : Nat)), x]) ∧ ∀ xs, SqX K H tp a xs → xs[i]? = some x
  stop i H := ∃ xs : List V, SqX K H tp a xs ∧ xs.length = i
theorem turn_enumX {P : Program} {w : World} {K : PySem.W.Frag} {elts : List Expr} {kk : Nat} {tpos : Pos} {tp : Bool} {k : Int} {a e it : Addr} (n1 : e ≠ it) (n2 : a ≠ it) (n3 : a ≠ e) :
    Turn P w K (.Tuple elts kk tpos) (Ige K tp a k) [e, it] e (fun i h => (∃ old, IsEnum h e it (k + (i : Nat)) old) ∧ ItX h tp it a i) where
  mem := List.mem_cons_self
  obj := fun i h ⟨⟨old, he⟩, hi⟩ b hb => by
    rcases List.mem_cons.mp hb with z | z
    · subst z
      exact ⟨_, he, fun v q => nomatch q⟩
    · cases List.mem_singleton.mp z
      exact hi.obj
  keep := fun i h h' ⟨⟨old, he⟩, hi⟩ q => ⟨⟨old, q e List.mem_cons_self _ he⟩, hi.at fun o z => q it (List.mem_cons_of_mem _ List.mem_cons_self) o z⟩
  item := by
    intro X hP hw hK hc i pins s σ H E I hf st hg
    cases hP; cases hw; cases hK
    obtain ⟨⟨old, he⟩, hit⟩ := st
    obtain ⟨xs, x, hq, hx⟩ := hg
    obtain ⟨its, rv, p⟩ := sqX_read I hq
    obtain ⟨u, hu, ru⟩ := rv.get hx
    have big : e < s.heap.objs.size := Heap.lt_size he
    have lti : i < its.toArray.size := by
      obtain ⟨z, _⟩ := List.getElem?_eq_some_iff.mp hu
      simpa using z
    have D := drawsX (prog := X.prog) (w := X.w) (A := X.A.in1) (I.ok.hd hc) tp n2 its.toArray
    refine wpAny_pyNext_enum_itemC D he ⟨hit, p⟩ lti n1 (by simp only [List.mem_cons, List.not_mem_nil, or_false, not_or]; exact ⟨n1, n3.symm⟩) fun y h1 tk hy ho st1 hT hsz hk => ?_
    have ey : y = u := by
      have hy : its.toArray[i]? = some y := hy
      rw [List.getElem?_toArray, hu] at hy
      exact (Option.some.inj hy).symm
    subst ey
    refine ⟨_, rfl, wpAny_letOwnedTupleGo_enum (s := { s with heap := h1, toks := tk + 1 }) ho fun h2 he2 sb => ?_⟩
    have hT2 : h2.get? s.heap.objs.size = some { cls := .type "tuple", data := .seq #[.int (k + (i : Nat)) tk, y] } := (sb.2 _ (Nat.ne_of_gt big)).trans hT
    have fresh : ObjOk X.prog X.w (upd H s.heap.objs.size (.tup [.int (k + (i : Nat)), x])) h2 s.heap.objs.size (.tup [.int (k + (i : Nat)), x]) :=
      ⟨by show 2 ≤ sizeLine; rw [sizeLine_eq]; decide, [.int (k + (i : Nat)) tk, y], .cons ⟨_, rfl⟩ (.cons ru .nil), ⟨_, hT2, rfl, _, rfl⟩⟩
    have I1 : Inv X pins σ (upd H s.heap.objs.size (.tup [.int (k + (i : Nat)), x])) { s with heap := h2, toks := tk + 1 } :=
      I.turnedNew (ch := [e, it]) (fun b ob hb q => by
        rw [List.mem_cons, List.mem_singleton, not_or] at hb
        exact (sb.2 b hb.1).trans (hk b ob hb.1 hb.2 q)) hf (Nat.le_refl _) fresh
    refine ⟨.ref s.heap.objs.size, _, I1, rfl, ⟨_, x, rfl, I.hok.fresh (Nat.le_refl _), rfl, fun ys hy => by rw [sqX_inj I hy hq]; exact hx⟩, ⟨⟨y, ?_⟩, st1.1.at fun o q => (sb.2 it n1.symm).trans q⟩, fun b hb => ?_⟩
    · rw [show k + ((i + 1 : Nat) : Int) = k + (i : Int) + 1 by omega]
      exact he2
    · have hb2 : b < s.heap.objs.size := by
        rcases List.mem_cons.mp hb with z | z
        · rw [z]; exact big
        · rw [List.mem_singleton.mp z]
          obtain ⟨o, q, _⟩ := hit.obj
          exact Heap.lt_size q
      rw [upd_ne (Nat.ne_of_lt hb2)]
      exact (hf b hb).1
  done := by
    intro X hP hw hK hc i pins s σ H E I hf st hg
    cases hP; cases hw; cases hK
    obtain ⟨⟨old, he⟩, hit⟩ := st
    obtain ⟨xs, hq, hx⟩ := hg
    obtain ⟨its, rv, p⟩ := sqX_read I hq
    have D := drawsX (prog := X.prog) (w := X.w) (A := X.A.in1) (I.ok.hd hc) tp n2 its.toArray
    have el : i = its.toArray.size := by
      have := rv.length
      simp
      omega
    subst el
    obtain ⟨f0, f1, f2, f3, f4, f5⟩ := hf it (List.mem_cons_of_mem _ List.mem_cons_self)
    exact wpAny_pyNext_enum_endD D he ⟨hit, p⟩ fun h' eb => ⟨rfl, I.turned (t' := s.toks) (fun b o hb q => eb b o hb q) f0 f1 f3 f4 f5⟩
  self := fun A i s Q E ⟨⟨_, he⟩, _⟩ h => wpAny_pyIter_enum he h
theorem enum_new1 {v : Value} {o : Obj} {Hq : Heap → Prop} (B : Begins v o Hq) :
    Meets (Builtin.«enumerate.__new__» ⟨[.type "enumerate", v], []⟩) (fun _ R s => Hq s.heap ∧
      R (.ok (.ret (.ref (s.heap.push o).objs.size))) { s with heap := (s.heap.push o).push { cls := .type "enumerate", data := .fields #[.none, .bool false, .ref s.heap.objs.size, rawInt 0, .none, .none] } }) :=
  .of_wp fun prog w A R s h => by
    obtain ⟨hp, g, d, tk, os⟩ := s
    obtain ⟨h1, h⟩ := h
    have hsub := sub_enumerate
    have q1 : ∀ {A1 : Around} {E : Value → Shared → Prop} {Q : Value → Shared → Prop}, Q (.ref hp.objs.size) ⟨hp.push o, g, d, tk, os⟩ → wpAny (model prog w) A1 (pyIter v) Q E ⟨hp, g, d, tk, os⟩ :=
      fun q => B.iter prog w _ _ ⟨hp, g, d, tk, os⟩ _ h1 q
    wp_walk using q1
    refine wpAny_stack_any fun st => wpAny_pure ?_
    split
    · rename_i c _ _ _ _ _
      cases (c == Value.type "enumerate") <;> wp_walk using q1 <;> exact ⟨_, rfl, h⟩
    · wp_walk using q1
      exact ⟨_, rfl, h⟩
theorem enum_begins1 {prog : Program} {w : World} {A : Around} {E : Value → Shared → Prop} {s : Shared} {v : Value} {o : Obj} {Hq : Heap → Prop} {Q : Value → Shared → Prop} (B : Begins v o Hq) (h1 : Hq s.heap)
    (h : ∀ h', IsEnum h' (s.heap.objs.size + 1) s.heap.objs.size 0 .none → h'.get? s.heap.objs.size = some o → (∀ b o, s.heap.get? b = some o → h'.get? b = some o) → Q (.ref (s.heap.objs.size + 1)) { s with heap := h' }) :
    wpAny (model prog w) A (call (.type "enumerate") [v]) Q E s := by
  refine callType_new F.called_enumerate (by decide) (F.typeCall_enumerate_1 _) (F.newCall_enumerate_1 _) (fun obj => F.args_object_init_2 obj _) F.entry_enumerate_new (enum_new1 B) ⟨h1, ?_⟩
  have hz : (s.heap.push o).objs.size = s.heap.objs.size + 1 := Heap.size_push ..
  show _ ∧ _
  rw [hz]
  have he : IsEnum ((s.heap.push o).push { cls := .type "enumerate", data := .fields #[.none, .bool false, .ref s.heap.objs.size, rawInt 0, .none, .none] }) (s.heap.objs.size + 1) s.heap.objs.size 0 .none := by
    have := Heap.get?_push_size (s.heap.push o) (o := { cls := .type "enumerate", data := .fields #[.none, .bool false, .ref s.heap.objs.size, rawInt 0, .none, .none] }) rfl
    rw [hz] at this
    exact this
  exact ⟨⟨_, he, rfl⟩, h _ he (Heap.get?_push_of_some _ (Heap.get?_push_size _ B.free)) fun b o x => Heap.get?_push_of_some _ (Heap.get?_push_of_some _ x)⟩
def iEnumX (K : PySem.W.Frag) (ta : TA) : TI := fun σ H R => ta σ H fun vs H1 => ∃ tp a xs, vs = [.ref a] ∧ SqX K H1 tp a xs ∧ R (Ige K tp a 0) H1
theorem pi_enumX {X : Cx} {e : Expr} {ta : TA} {p pos tpos : Pos} {elts : List Expr} {kk : Nat} (hg : Gl X "enumerate") (hm : X.mg "enumerate" = none) (ha : PA X [e] ta) (hs : starEach [e] X.env = [(false, eval e X.env)] := by rfl) :
    PI X (.Tuple elts kk tpos) (.Call (.Name "enumerate" p) [e] [] pos) (iEnumX X.K ta) := by
  refine ⟨fun pins s σ H R I h => Call_ (ld_blt I hg hm boot_enumerate (PyProof.Rows.callWith_type1 (thn (ha.run pos pins s σ H _ I h) fun us s1 ⟨vs, H1, I1, r1, q1⟩ => ?_) hs rfl))⟩
  obtain ⟨tp, a, xs, rfl, hq, q⟩ := q1
  cases r1 with
  | cons r rr =>
    cases rr
    cases r
    obtain ⟨its, rv, p'⟩ := sqX_read I1 hq
    have la := p'.lt
    refine enum_begins1 (beginsX tp a its.toArray) p' fun h' he hit hk => wpAny_pyIter_enum he ?_
    have I2 : Inv X pins σ H1 { s1 with heap := h' } := I1.kept (t' := s1.toks) hk
    refine ⟨s1.heap.objs.size + 1, [s1.heap.objs.size + 1, s1.heap.objs.size], _, _, H1, rfl, I2, turn_enumX (e := s1.heap.objs.size + 1) (it := s1.heap.objs.size) (k := 0) (Nat.succ_ne_self _) (Nat.ne_of_lt la) (Nat.ne_of_lt (Nat.lt_succ_of_lt la)), ⟨⟨.none, he⟩, itX_new hit⟩, fun b hb => ?_, q⟩
    have hle : s1.heap.objs.size ≤ b := by
      rcases List.mem_cons.mp hb with z | z
      · rw [z]; exact Nat.le_succ _
      · rw [List.mem_singleton.mp z]; exact Nat.le_refl _
    exact I1.fpOk hle (I1.hok.fresh hle)
def enumF (k : Int) : List PyData → List PyData
  | [] => []
  | d :: ds => .tuple [.int k, d] :: enumF (k + 1) ds
theorem enumF_len (k : Int) : ∀ ds : List PyData, (enumF k ds).length = ds.length
  | [] => rfl
  | d :: ds => by simp [enumF, enumF_len (k + 1) ds]
theorem enumF_get : ∀ {k : Int} {ds : List PyData} {i : Nat} {d : PyData}, ds[i]? = some d → (enumF k ds)[i]? = some (.tuple [.int (k + (i : Nat)), d])
  | k, d :: ds, 0, e, h => by
    cases h
    simp [enumF]
  | k, d :: ds, i + 1, e, h => by
    have := enumF_get (k := k + 1) (ds := ds) (i := i) (d := e) (by simpa using h)
    simp only [enumF, List.getElem?_cons_succ, this]
    congr 4
    omega
  | k, [], i, e, h => by simp at h
section
variable {K : PySem.W.Frag} {G H H' H'' : Hp} {O O' : List Addr} {a : Addr} {ds : List PyData} {xs : List V} {tp : Bool}
theorem itd_enum {k : Int} (h : SqX K G tp a xs) (z : ds.length ≤ sizeLine) (r : RpAll K G xs ds) : ItD K G (Ige K tp a k) (enumF k ds) where
  len := by rw [enumF_len]; exact z
  go := fun i H' e hi => by
    rw [enumF_len] at hi
    have hx : i < xs.length := by rw [r.length]; exact hi
    exact ⟨xs, xs[i], h.step (Sub.ext e), List.getElem?_eq_getElem hx⟩
  yld := fun i H' O' x H'' e n al hi y => by
    obtain ⟨T, v, rfl, nT, rfl, y⟩ := y
    obtain ⟨d, h1, h2⟩ := r.get (y xs (h.step (Sub.ext e)))
    refine ⟨Ext.new nT, _, enumF_get h1, .tup (.of ?_) (by show 2 ≤ sizeLine; rw [sizeLine_eq]; decide) (.cons (.int _) (.cons (h2.mono ?_) .nil))⟩
    · rw [hide_out fun m => al T m nT, upd_same]
    · exact ((e.trans (Ext.new nT)).under n)
  stop := fun H' e => ⟨xs, h.step (Sub.ext e), by rw [enumF_len]; exact r.length⟩
end
def enumA : List PyData → R (List PyData)
  | [d] => items d >>= fun ds => .ok (enumF 0 ds)
  | _ => .bad
def dEnum (g : DnL) : DnL := fun ρ => g ρ >>= enumA
theorem rp_items {K : PySem.W.Frag} {G : Hp} {v : V} {d : PyData} {ds : List PyData} (r : Rp K G v d) (h : items d = .ok ds) : ∃ tp a xs, v = .ref a ∧ SqX K G tp a xs ∧ ds.length ≤ sizeLine ∧ RpAll K G xs ds := by
  unfold items at h
  split at h
  · cases h
    cases r with
    | lst h1 z1 a1 => exact ⟨false, _, _, rfl, h1, z1, a1⟩
  · cases h
    cases r with
    | tup h1 z1 a1 => exact ⟨true, _, _, rfl, h1, z1, a1⟩
  · cases h
theorem items_no {d : PyData} {x : Ex} : items d ≠ .exc x := by unfold items; split <;> exact fun h => by cases h
theorem fi_enum {X : Cx} {Tb : List Addr} {W : WX} {e : Expr} {g : DnL} {p pos tpos : Pos} {elts : List Expr} {kk : Nat} (hg : Gl X "enumerate") (hm : X.mg "enumerate" = none) (ha : PA X [e] (tDs X.K Tb W g)) (hs : starEach [e] X.env = [(false, eval e X.env)] := by rfl) :
    PI X (.Tuple elts kk tpos) (.Call (.Name "enumerate" p) [e] [] pos) (tI X.K Tb W (dEnum g)) := (pi_enumX hg hm ha hs).by fun σ H R ⟨H0, O0, O, ρ, st, h⟩ => ⟨H0, O0, O, ρ, st, by
  refine Post.then h fun d v H1 ex r k => ?_
  unfold enumA at k
  split at k
  · rename_i d0
    cases r with
    | cons r1 r2 =>
      cases r2
      cases hi : items d0 with
      | bad => rw [hi] at k; exact k.elim
      | exc x => exact absurd hi items_no
      | ok ds =>
        rw [hi] at k
        obtain ⟨tp, a, xs, rfl, h1, z1, a1⟩ := rp_items r1 hi
        exact ⟨tp, a, xs, rfl, h1.step Sub.unhide, k _ H1 (Ext.refl _) (itd_enum h1 z1 a1)⟩
  · exact k.elim⟩
def Igz (K : PySem.W.Frag) (t1 t2 : Bool) (a b : Addr) : It where
  go i H := ∃ (xs ys : List V) (x y : V), SqX K H t1 a xs ∧ SqX K H t2 b ys ∧ xs[i]? = some x ∧ ys[i]? = some y
  yld i H v H' := ∃ T x y, v = .ref T ∧ H T = none ∧ H' = upd H T (.tup [x, y]) ∧ (∀ xs, SqX K H t1 a xs → xs[i]? = some x) ∧ ∀ ys, SqX K H t2 b ys → ys[i]? = some y
  stop i H := ∃ xs ys : List V, SqX K H t1 a xs ∧ SqX K H t2 b ys ∧ i = min xs.length ys.length
theorem turn_zipX {P : Program} {w : World} {K : PySem.W.Frag} {elts : List Expr} {kk : Nat} {tpos : Pos} {t1 t2 : Bool} {a b z TI TO i1 i2 : Addr} (S : ZipSep2 z TI TO i1 i2 [i1, a] [i2, b]) (n1 : a ≠ i1) (n2 : b ≠ i2) :
    Turn P w K (.Tuple elts kk tpos) (Igz K t1 t2 a b) [z, TI, TO, i1, i2] z (fun i h => IsZip h z TI TO .none ∧ IsTupOf2 h TI (.ref i1) (.ref i2) ∧ (∃ x y, IsTupOf2 h TO x y) ∧ ItX h t1 i1 a i ∧ ItX h t2 i2 b i) where
  mem := List.mem_cons_self
  obj := fun i h ⟨hz, hTI, ⟨x, y, hTO⟩, h1, h2⟩ c hc => by
    simp only [List.mem_cons, List.not_mem_nil, or_false] at hc
    rcases hc with q | q | q | q | q <;> subst q
    · exact ⟨_, hz, fun v q => nomatch q⟩
    · exact ⟨_, hTI, fun v q => nomatch q⟩
    · exact ⟨_, hTO, fun v q => nomatch q⟩
    · exact h1.obj
    · exact h2.obj
  keep := fun i h h' ⟨hz, hTI, ⟨x, y, hTO⟩, h1, h2⟩ k =>
    ⟨k z (by simp) _ hz, k TI (by simp) _ hTI, ⟨x, y, k TO (by simp) _ hTO⟩, h1.at fun o q => k i1 (by simp) o q, h2.at fun o q => k i2 (by simp) o q⟩
  item := by
    intro X hP hw hK hc i pins s σ H E I hf st hg
    cases hP; cases hw; cases hK
    obtain ⟨hz, hTI, ⟨x0, y0, hTO⟩, h1, h2⟩ := st
    obtain ⟨xs, ys, x, y, hqx, hqy, hx, hy⟩ := hg
    obtain ⟨its, rv, p⟩ := sqX_read I hqx
    obtain ⟨its2, rv2, p2⟩ := sqX_read I hqy
    obtain ⟨u, hu, ru⟩ := rv.get hx
    obtain ⟨u2, hu2, ru2⟩ := rv2.get hy
    have zl : z < s.heap.objs.size := Heap.lt_size hz
    have D1 := drawsX (prog := X.prog) (w := X.w) (A := X.A.in1) (I.ok.hd hc) t1 n1 its.toArray
    have D2 := drawsX (prog := X.prog) (w := X.w) (A := X.A.in1) (I.ok.hd hc) t2 n2 its2.toArray
    have l1 : i < its.toArray.size := by
      obtain ⟨q, _⟩ := List.getElem?_eq_some_iff.mp hu
      simpa using q
    have l2 : i < its2.toArray.size := by
      obtain ⟨q, _⟩ := List.getElem?_eq_some_iff.mp hu2
      simpa using q
    refine wpAny_pyNext_zipD2_item S D1 D2 hz hTI hTO ⟨h1, p⟩ ⟨h2, p2⟩ l1 l2 fun v v2 h' tk e1 e2 z' TO' s1 s2 hT hsz hk => ?_
    have ev : v = u := by
      have e1 : its.toArray[i]? = some v := e1
      rw [List.getElem?_toArray, hu] at e1
      exact (Option.some.inj e1).symm
    have ev2 : v2 = u2 := by
      have e2 : its2.toArray[i]? = some v2 := e2
      rw [List.getElem?_toArray, hu2] at e2
      exact (Option.some.inj e2).symm
    subst ev ev2
    refine ⟨_, rfl, wpAny_letOwnedTupleGo_zip (s := { s with heap := h', toks := tk }) z' fun h'' z'' sb => ?_⟩
    have hT2 : h''.get? s.heap.objs.size = some { cls := .type "tuple", data := .seq #[v, v2] } := (sb.2 _ (Nat.ne_of_gt zl)).trans hT
    have fresh : ObjOk X.prog X.w (upd H s.heap.objs.size (.tup [x, y])) h'' s.heap.objs.size (.tup [x, y]) :=
      ⟨by show 2 ≤ sizeLine; rw [sizeLine_eq]; decide, [v, v2], .cons ru (.cons ru2 .nil), ⟨_, hT2, rfl, _, rfl⟩⟩
    have far : ∀ c o, c ∉ [z, TI, TO, i1, i2] → s.heap.get? c = some o → h''.get? c = some o := fun c o hb q => by
      simp only [List.mem_cons, List.not_mem_nil, or_false, not_or] at hb
      exact (sb.2 c hb.1).trans (hk c o hb.1 hb.2.2.1 hb.2.2.2.1 hb.2.2.2.2 q)
    have I1 : Inv X pins σ (upd H s.heap.objs.size (.tup [x, y])) { s with heap := h'', toks := tk } := I.turnedNew (ch := [z, TI, TO, i1, i2]) far hf (Nat.le_refl _) fresh
    have iz1 : i1 ≠ z := fun q => S.zf1 (by rw [← q]; exact List.mem_cons_self)
    have iz2 : i2 ≠ z := fun q => S.zf2 (by rw [← q]; exact List.mem_cons_self)
    refine ⟨.ref s.heap.objs.size, _, I1, rfl, ⟨_, x, y, rfl, I.hok.fresh (Nat.le_refl _), rfl, fun l hl => by rw [sqX_inj I hl hqx]; exact hx, fun l hl => by rw [sqX_inj I hl hqy]; exact hy⟩, ⟨z'', ?_, ⟨v, v2, ?_⟩, ?_, ?_⟩, fun c hcm => ?_⟩
    · exact (sb.2 _ S.TIz).trans (hk _ _ S.TIz S.TITO S.TIi1 S.TIi2 hTI)
    · exact (sb.2 _ S.TOz).trans TO'
    · exact s1.1.at fun o q => (sb.2 i1 iz1).trans q
    · exact s2.1.at fun o q => (sb.2 i2 iz2).trans q
    · have lt : c < s.heap.objs.size := by
        simp only [List.mem_cons, List.not_mem_nil, or_false] at hcm
        rcases hcm with q | q | q | q | q <;> subst q
        · exact zl
        · exact Heap.lt_size hTI
        · exact Heap.lt_size hTO
        · obtain ⟨o, q, _⟩ := h1.obj; exact Heap.lt_size q
        · obtain ⟨o, q, _⟩ := h2.obj; exact Heap.lt_size q
      rw [upd_ne (Nat.ne_of_lt lt)]
      exact (hf c hcm).1
  done := by
    intro X hP hw hK hc i pins s σ H E I hf st hg
    cases hP; cases hw; cases hK
    obtain ⟨hz, hTI, ⟨x0, y0, hTO⟩, h1, h2⟩ := st
    obtain ⟨xs, ys, hqx, hqy, hend⟩ := hg
    obtain ⟨its, rv, p⟩ := sqX_read I hqx
    obtain ⟨its2, rv2, p2⟩ := sqX_read I hqy
    have l1 := rv.length
    have l2 := rv2.length
    have D1 := drawsX (prog := X.prog) (w := X.w) (A := X.A.in1) (I.ok.hd hc) t1 n1 its.toArray
    have D2 := drawsX (prog := X.prog) (w := X.w) (A := X.A.in1) (I.ok.hd hc) t2 n2 its2.toArray
    refine wpAny_pyNext_zipD2_end S D1 D2 hz hTI hTO ⟨h1, p⟩ ⟨h2, p2⟩ (by simp; omega) (by simp; omega) (by simp; omega) fun h' tk hk => ⟨rfl, I.turnedL (t' := tk) (ch := [z, TI, TO, i1, i2]) (fun c o hb q => ?_) hf⟩
    simp only [List.mem_cons, List.not_mem_nil, or_false, not_or] at hb
    exact hk c o hb.1 hb.2.2.1 hb.2.2.2.1 hb.2.2.2.2 q
  self := fun A i s Q E st h => wpAny_pyIter_zip st.1 h
def iZipX (K : PySem.W.Frag) (ta : TA) : TI := fun σ H R => ta σ H fun vs H1 => ∃ t1 t2 a b xs ys, vs = [.ref a, .ref b] ∧ SqX K H1 t1 a xs ∧ SqX K H1 t2 b ys ∧ R (Igz K t1 t2 a b) H1
theorem pi_zipX {X : Cx} {e e2 : Expr} {ta : TA} {p pos tpos : Pos} {elts : List Expr} {kk : Nat} (hg : Gl X "zip") (hm : X.mg "zip" = none) (ha : PA X [e, e2] ta)
    (hs : starEach [e, e2] X.env = (false, eval e X.env) :: starEach [e2] X.env := by rfl) (hpl : (backTo pos (starEach [e2] X.env)).any (·.1) = false := by rfl) :
    PI X (.Tuple elts kk tpos) (.Call (.Name "zip" p) [e, e2] [] pos) (iZipX X.K ta) := by
  refine ⟨fun pins s σ H R I h => Call_ (ld_blt I hg hm PyProof.Rows.boot_zip (PyProof.Rows.callWith_type1 (thn (ha.run pos pins s σ H _ I h) fun us s1 ⟨vs, H1, I1, r1, q1⟩ => ?_) hs hpl))⟩
  obtain ⟨t1, t2, a, b, xs, ys, rfl, hqx, hqy, q⟩ := q1
  cases r1 with
  | cons r rr =>
    cases rr with
    | cons r' rr =>
      cases rr
      cases r
      cases r'
      obtain ⟨its, rv, p1⟩ := sqX_read I1 hqx
      obtain ⟨its2, rv2, p2⟩ := sqX_read I1 hqy
      have la := p1.lt
      have lb := p2.lt
      have S : ZipSep2 (s1.heap.objs.size + 4) (s1.heap.objs.size + 2) (s1.heap.objs.size + 3) s1.heap.objs.size (s1.heap.objs.size + 1) [s1.heap.objs.size, a] [s1.heap.objs.size + 1, b] :=
        zip_sep2 (fun c hc => by rw [List.mem_singleton.mp hc]; exact la) (fun c hc => by rw [List.mem_singleton.mp hc]; exact lb)
      refine zip_begins2 (beginsX t1 a its.toArray) (beginsX t2 b its2.toArray) p1 p2 fun h' hz hTI hTO g1 g2 hsz hk => wpAny_pyIter_zip hz ?_
      have I2 : Inv X pins σ H1 { s1 with heap := h' } := I1.kept (t' := s1.toks) hk
      refine ⟨s1.heap.objs.size + 4, [s1.heap.objs.size + 4, s1.heap.objs.size + 2, s1.heap.objs.size + 3, s1.heap.objs.size, s1.heap.objs.size + 1], _, _, H1, rfl, I2, turn_zipX S (Nat.ne_of_lt la) (Nat.ne_of_lt (Nat.lt_succ_of_lt lb)), ⟨hz, hTI, ⟨_, _, hTO⟩, itX_new g1, itX_new g2⟩, fun c hcm => ?_, q⟩
      simp only [List.mem_cons, List.not_mem_nil, or_false] at hcm
      have hle : s1.heap.objs.size ≤ c := by
        rcases hcm with q | q | q | q | q <;> rw [q] <;> first | exact Nat.le_add_right _ _ | exact Nat.le_refl _
      exact I1.fpOk hle (I1.hok.fresh hle)
def zipD : List PyData → List PyData → List PyData
  | d :: ds, e :: es => .tuple [d, e] :: zipD ds es
  | _, _ => []
theorem zipD_len : ∀ ds es : List PyData, (zipD ds es).length = min ds.length es.length
  | [], es => by simp [zipD]
  | d :: ds, [] => by simp [zipD]
  | d :: ds, e :: es => by simp [zipD, zipD_len ds es, Nat.succ_min_succ]
theorem zipD_get : ∀ {ds es : List PyData} {i : Nat} {d e : PyData}, ds[i]? = some d → es[i]? = some e → (zipD ds es)[i]? = some (.tuple [d, e])
  | d :: ds, e :: es, 0, _, _, h, k => by cases h; cases k; rfl
  | d :: ds, e :: es, i + 1, _, _, h, k => by
    simp only [zipD, List.getElem?_cons_succ]
    exact zipD_get (by simpa using h) (by simpa using k)
  | [], es, i, _, _, h, k => by simp at h
  | d :: ds, [], i, _, _, h, k => by simp at k
theorem itd_zip {K : PySem.W.Frag} {G : Hp} {t1 t2 : Bool} {a b : Addr} {xs ys : List V} {ds es : List PyData} (h1 : SqX K G t1 a xs) (h2 : SqX K G t2 b ys) (z : ds.length ≤ sizeLine) (r1 : RpAll K G xs ds) (r2 : RpAll K G ys es) : ItD K G (Igz K t1 t2 a b) (zipD ds es) where
  len := by rw [zipD_len]; omega
  go := fun i H' e hi => by
    rw [zipD_len] at hi
    have hx : i < xs.length := by rw [r1.length]; omega
    have hy : i < ys.length := by rw [r2.length]; omega
    exact ⟨xs, ys, xs[i], ys[i], h1.step (Sub.ext e), h2.step (Sub.ext e), List.getElem?_eq_getElem hx, List.getElem?_eq_getElem hy⟩
  yld := fun i H' O' x H'' e n al hi y => by
    obtain ⟨T, v, v2, rfl, nT, rfl, y1, y2⟩ := y
    obtain ⟨d, g1, g2⟩ := r1.get (y1 xs (h1.step (Sub.ext e)))
    obtain ⟨d2, g3, g4⟩ := r2.get (y2 ys (h2.step (Sub.ext e)))
    have sb := ((e.trans (Ext.new nT (o := .tup [v, v2]))).under n)
    refine ⟨Ext.new nT, _, zipD_get g1 g3, .tup (.of ?_) (by show 2 ≤ sizeLine; rw [sizeLine_eq]; decide) (.cons (g2.mono sb) (.cons (g4.mono sb) .nil))⟩
    rw [hide_out fun m => al T m nT, upd_same]
  stop := fun H' e => ⟨xs, ys, h1.step (Sub.ext e), h2.step (Sub.ext e), by rw [zipD_len, r1.length, r2.length]⟩
def zipA : List PyData → R (List PyData)
  | [d, e] => items d >>= fun ds => items e >>= fun es => .ok (zipD ds es)
  | _ => .bad
def dZip (g : DnL) : DnL := fun ρ => g ρ >>= zipA
theorem fi_zip {X : Cx} {Tb : List Addr} {W : WX} {e e2 : Expr} {g : DnL} {p pos tpos : Pos} {elts : List Expr} {kk : Nat} (hg : Gl X "zip") (hm : X.mg "zip" = none) (ha : PA X [e, e2] (tDs X.K Tb W g))
    (hs : starEach [e, e2] X.env = (false, eval e X.env) :: starEach [e2] X.env := by rfl) (hpl : (backTo pos (starEach [e2] X.env)).any (·.1) = false := by rfl) :
    PI X (.Tuple elts kk tpos) (.Call (.Name "zip" p) [e, e2] [] pos) (tI X.K Tb W (dZip g)) := (pi_zipX hg hm ha hs hpl).by fun σ H R ⟨H0, O0, O, ρ, st, h⟩ => ⟨H0, O0, O, ρ, st, by
  refine Post.then h fun d v H1 ex r k => ?_
  unfold zipA at k
  split at k
  · rename_i d0 e0
    cases r with
    | cons r1 r2 =>
      cases r2 with
      | cons r2 r3 =>
        cases r3
        cases hi : items d0 with
        | bad => rw [hi] at k; exact k.elim
        | exc x => exact absurd hi items_no
        | ok ds =>
          rw [hi] at k
          cases hj : items e0 with
          | bad => rw [hj] at k; exact k.elim
          | exc x => exact absurd hj items_no
          | ok es =>
            rw [hj] at k
            obtain ⟨tp, a, xs, rfl, h1, z1, a1⟩ := rp_items r1 hi
            obtain ⟨tp2, b, ys, rfl, h2, z2, a2⟩ := rp_items r2 hj
            exact ⟨tp, tp2, a, b, xs, ys, rfl, h1.step Sub.unhide, h2.step Sub.unhide, k _ H1 (Ext.refl _) (itd_zip h1 h2 z1 a1 a2)⟩
  · exact k.elim⟩
end PD
set_option Elab.async false
set_option linter.all false
set_option maxRecDepth 100000
set_option maxHeartbeats 1000000
namespace PD
open PySem PySem.Spec PyProof.Rows L2
structure LamS1 (sc scope : Scope) (x : Str) : Prop where
  kind : scope.kind = .function
  co : scope.isCoroutine = false
  gen : scope.isGenerator = false
  par : scope.names.lookup x = some .local
  cell : ∀ y ∈ scope.names, y.2 ≠ .cell
  loc : ∀ y ∈ scope.names, y.2 = .local → y.1 = x
  free : ∀ y ∈ scope.names, y.2 = .free → sc.names.lookup y.1 = some .cell ∨ sc.names.lookup y.1 = some .free
theorem LamS1.has {X : Cx} {scope : Scope} {x : Str} (L : LamS1 X.env.scope scope x) (ok : X.Ok) : ∀ y ∈ scope.names, y.2 = .free → ∃ c, X.env.cells.lookup y.1 = some c := fun y hy e => by
  rcases L.free y hy e with k | k
  · exact ok.has _ (.inl k)
  · exact ok.has _ (.inr k)
end PD
set_option Elab.async false
set_option linter.all false
set_option maxRecDepth 100000
set_option maxHeartbeats 1000000
namespace PD
open PySem PySem.Spec PyProof.Rows L2
theorem PlX.at {h h' : Heap} {tp : Bool} {a : Addr} {its : Array Value} (p : PlX h tp a its) (e : ∀ o, h.get? a = some o → h'.get? a = some o) : PlX h' tp a its := by
  cases tp with
  | true => exact Heap.IsTuple.at p e
  | false => exact Heap.IsList.at p e
end PD
set_option Elab.async false
set_option linter.all false
set_option maxRecDepth 100000
set_option maxHeartbeats 1000000
namespace PD
open PySem PySem.Spec PyProof.Rows L2
end PD
set_option Elab.async false
set_option linter.all false
set_option maxRecDepth 100000
set_option maxHeartbeats 1000000
namespace PD
open PySem PySem.Spec PyProof.Rows L2
theorem pget_list {X : Cx} : PGet X (rIxL X.K) := by
  intro pins s σ H o i ov iv Q I ro ri h
  obtain ⟨p, xs, k, z, rfl, rfl, hq, he, q⟩ := h
  cases ro
  obtain ⟨t, rfl⟩ := ri
  obtain ⟨its, r, pl, hz⟩ := I.list hq
  obtain ⟨j, h1, h2, h3, h4, h5⟩ := atI_get he
  obtain ⟨w, ew, rw'⟩ := r.get h2
  have hl := r.length
  have hn := line63
  have fin : EP X pins σ Q w s := ⟨z, H, I, rw', q⟩
  by_cases h0 : 0 ≤ k
  · have hj : k.toNat = j := by
      rw [seqIndex_of h0 h5] at h1
      exact Option.some.inj h1
    exact wpAny_getItem_list pl.isList h0 (by omega) (by rw [hj]; simpa using ew) fin
  · have hj : (k + (its.toArray.size : Int)).toNat = j := by
      rw [seqIndex_neg (by omega) h4] at h1
      rw [List.size_toArray, ← hl]
      exact Option.some.inj h1
    exact wpAny_getItem_list_neg pl.isList (by omega) (by rw [List.size_toArray] <;> omega) (by omega) (by rw [hj]; simpa using ew) fin
def gSetAt (i : Nat) (fi fe : Dn) : Sn := fun ρ => oR (fe ρ) ρ fun y => ownAt ρ i fun ds => match fi ρ with
  | .ok (.int k) => match ixN ds.length k with
    | some j => .nx (ρ.set i (some (.own (ds.set j y))))
    | none => .bad
  | _ => .bad
def gAugAt (i : Nat) (fi fe : Dn) : Sn := fun ρ => ownAt ρ i fun ds => match fi ρ with
  | .ok (.int k) => match fe ρ with
    | .ok (.int y) => match ixN ds.length k with
      | some j => match ds[j]? with
        | some (.int z) => .nx (ρ.set i (some (.own (ds.set j (.int (z + y))))))
        | _ => .bad
      | none => .bad
    | _ => .bad
  | _ => .bad
section
variable {X : Cx} {Tb : List Addr} {W : WX} {e ei : Expr} {f g : Dn} {pos npos spos : Pos} {x : Str}
theorem fs_setAt {i : Nat} (ho : X.N[i]? = some x) (hv : Vis X.env.scope x) (hd : (x == ("__debug__" : Str)) = false) (hcd : (x == ("__classdict__" : Str)) = false) (hi : PE X ei (tD X.K Tb W f)) (he : PE X e (tD X.K Tb W g))
    (ha : ∀ v, assign (.Subscript (.Name x npos) ei spos) X.env v = (do
      let ov ← holding [v] (eval (.Name x npos) X.env)
      let iv ← holding [v, ov] (eval ei X.env)
      standAt spos
      holding [v, ov, iv] (setItem ov iv v)
      release [v, ov, iv] []) := by intro _; rfl)
    (hs : swapsWithSole [.Subscript (.Name x npos) ei spos] e pos.line X.env = pure false := by rfl) (hw : swappedStores [.Subscript (.Name x npos) ei spos] e X.env = pure none := by rfl)
    (h1 : (assignEach [.Subscript (.Name x npos) ei spos] X.env).map (·.2) = [assign (.Subscript (.Name x npos) ei spos) X.env] := by rfl) :
    PS X (.Assign [.Subscript (.Name x npos) ei spos] e pos) (tS X.K Tb W (gSetAt i f g)) :=
  (ps_asg he (pg_sub (pe_var ho hv hd hcd) hi set_list ha) hs hw h1).by fun D σ H ⟨H0, O0, O, ρ, st, h⟩ => ⟨H0, O0, O, ρ, st, oR_post st h fun y v H1 ex rv k => by
    have st1 := st.step ex
    obtain ⟨ds, p, vs, e1, e2, hp, z, r, k⟩ := own_at st1 k
    refine ⟨.ref p, e2, H0, O0, O, ρ, st1, ?_⟩
    split at k
    · rename_i kk hf
      rw [hf]
      intro kv H2 ex2 rk
      cases rk
      split at k
      · rename_i j hj
        refine ⟨p, vs, kk, j, rfl, rfl, ex2.keep p _ hp (fun _ q => by cases q), by rw [r.length]; exact hj, k O σ _ ((st1.step ex2).ownSet e1 e2 (by rw [List.length_set]; exact z) ?_)⟩
        exact (r.mono (Sub.hide ex2.keep)).set (rv.mono (Sub.hide ex2.keep)) j
      · exact k.elim
    · exact k.elim⟩
theorem fs_augAt {i : Nat} (ho : X.N[i]? = some x) (hv : Vis X.env.scope x) (hd : (x == ("__debug__" : Str)) = false) (hcd : (x == ("__classdict__" : Str)) = false) (hi : PE X ei (tD X.K Tb W f)) (he : PE X e (tD X.K Tb W g))
    (ha : ∀ ov iv new, augStore ei ov iv new = (do holding [new, ov, iv] (setItem ov iv new); release [new, ov, iv] []; pure .next) := by intros; rfl) :
    PS X (.AugAssign (.Subscript (.Name x npos) ei spos) .Add e pos) (tS X.K Tb W (gAugAt i f g)) :=
  (ps_augS (pe_var ho hv hd hcd) hi pget_list he ip_add set_list ha).by fun D σ H ⟨H0, O0, O, ρ, st, h⟩ => by
    obtain ⟨ds, p, vs, e1, e2, hp, z, r, k⟩ := own_at st h
    refine ⟨.ref p, e2, H0, O0, O, ρ, st, ?_⟩
    split at k
    · rename_i kk hf
      rw [hf]
      intro kv H2 ex2 rk
      cases rk
      split at k
      · rename_i yy hg
        split at k
        · rename_i j hj
          split at k
          · rename_i zz hz
            have hp2 := ex2.keep p _ hp (fun _ q => by cases q)
            obtain ⟨v, g1, g2⟩ := r.get' hz
            cases g2
            refine ⟨p, vs, kk, .int zz, rfl, rfl, .of hp2, by unfold atI; rw [r.length, hj]; exact g1, H0, O0, O, ρ, st.step ex2, ?_⟩
            rw [hg]
            intro y' H3 ex3 ry
            cases ry
            refine ⟨zz, yy, rfl, rfl, p, vs, kk, j, rfl, rfl, ex3.keep p _ hp2 (fun _ q => by cases q), by rw [r.length]; exact hj, k O σ _ ((st.step (ex2.trans ex3)).ownSet e1 e2 (by rw [List.length_set]; exact z) ?_)⟩
            exact (r.mono (Sub.hide (ex2.trans ex3).keep)).set (.int _) j
          · exact k.elim
        · exact k.elim
      · exact k.elim
    · exact k.elim
end
end PD
set_option Elab.async false
set_option linter.all false
set_option maxRecDepth 100000
set_option maxHeartbeats 1000000
namespace PD
open PySem PySem.Spec PyProof.Rows L2
end PD
set_option Elab.async false
set_option linter.all false
set_option maxRecDepth 100000
namespace PD
open PySem PySem.Spec PyProof.Rows L2
end PD
set_option Elab.async false
set_option linter.all false
set_option maxRecDepth 100000
set_option maxHeartbeats 1000000
namespace PD
open PySem PySem.Spec PyProof.Rows L2
def insU (x : Int) : List Int → List Int
  | [] => [x]
  | y :: l => if x < y then x :: y :: l else if x = y then y :: l else y :: insU x l
def uniq (l : List Int) : List Int := l.foldr insU []
end PD
set_option Elab.async false
set_option linter.all false
set_option maxRecDepth 100000
set_option maxHeartbeats 1000000
namespace PD
open PySem PySem.Spec PyProof.Rows L2
section
variable {K : PySem.W.Frag} {Tb : List Addr} {W : WX} {H0 H0' H H' : Hp} {O0 O : List Addr} {ρ : Rho} {σ : L2.St} {p : Addr} {D : Ends}
/-- a new object becomes slot i's own -/
theorem St0.holdNew {i : Nat} {s1 : Sl} {o : HO} (st : St0 K Tb H0 O0 O H σ ρ) (e : Ext H H') (n : H p = none) (hp : H' p = some o) (po : Plain o) (r : SlotR K O0 (p :: O) H' (.ref p) s1) :
    St0 K Tb H0 O0 (p :: O) H' (σ.set i (some (.ref p))) (ρ.set i (some s1)) := by
  have nO : p ∉ O := st.fresh n
  have n0 : H0 p = none := by
    cases q : H0 p with
    | none => rfl
    | some x => exact absurd n (st.ext.al p (by rw [q]; simp))
  have sub : Sub (hide O H) (hide (p :: O) H') := fun b o h t => by
    obtain ⟨h1, h2⟩ := hide_some h
    have hb : b ≠ p := ne_of_none h2 n
    rw [hide_out (by rw [List.mem_cons, not_or]; exact ⟨hb, h1⟩)]
    exact e.keep b o h2 t
  have nown : ∀ (j : Nat) (s : Sl), s.Hold → ρ[j]? = some (some s) → σ[j]? ≠ some (some (.ref p)) := fun j s hs h h2 => nO (st.hold hs h h2).1
  refine ⟨st.ext.trans e, fun b h => List.mem_cons_of_mem _ (st.sub b h), fun b h h2 => ?_, fun b h => ?_, fun P m => e.tab P (st.tab P m), fun b mb nb => ?_, by rw [List.length_set, List.length_set]; exact st.len, fun j s h => ?_, fun j k q xs ys hx hy h1 h2 h3 h4 => ?_⟩
  · rcases List.mem_cons.mp h with rfl | h
    · exact n0
    · exact st.new b h h2
  · rcases List.mem_cons.mp h with rfl | h
    · rw [hp]; simp
    · exact e.al b (st.al b h)
  · rcases List.mem_cons.mp mb with rfl | mb
    · exact ⟨_, hp, po⟩
    · obtain ⟨x, h, q⟩ := st.pln b mb nb
      exact ⟨x, e.keep b x h q.2, q⟩
  · by_cases ej : i = j
    · subst ej
      have il : i < ρ.length := by
        have := (List.getElem?_eq_some_iff.mp h).1
        rw [List.length_set] at this
        exact this
      rw [List.getElem?_set_self il] at h
      cases h
      exact ⟨_, by rw [List.getElem?_set_self (by rw [st.len]; exact il)], r⟩
    · rw [List.getElem?_set_ne ej] at h ⊢
      obtain ⟨v, h1, h2⟩ := st.slot j s h
      exact ⟨v, h1, h2.mv sub (fun _ q _ mq _ => ⟨List.mem_cons_of_mem _ mq, fun o hq n => e.keep q o hq n⟩) fun dd fs h => e.keep dd _ h fun _ z => by cases z⟩
  · have lt : ∀ (j : Nat) (s : Sl), i = j → (ρ.set i (some s1))[j]? = some (some s) → j < σ.length := fun j xs ej h => by
      have := (List.getElem?_eq_some_iff.mp h).1
      rw [List.length_set] at this
      rw [st.len]; exact this
    by_cases ej : i = j
    · by_cases ek : i = k
      · rw [← ej, ← ek]
      · subst ej
        rw [List.getElem?_set_self (lt _ _ rfl h1)] at h3
        cases h3
        rw [List.getElem?_set_ne ek] at h2 h4
        exact absurd h4 (nown k ys hy h2)
    · by_cases ek : i = k
      · subst ek
        rw [List.getElem?_set_self (lt _ _ rfl h2)] at h4
        cases h4
        rw [List.getElem?_set_ne ej] at h1 h3
        exact absurd h3 (nown j xs hx h1)
      · rw [List.getElem?_set_ne ej] at h1 h3
        rw [List.getElem?_set_ne ek] at h2 h4
        exact st.inj j k q xs ys hx hy h1 h2 h3 h4
end
def gBad : Sn := fun _ => .bad
section
variable {X : Cx} {Tb : List Addr} {W : WX} {e : Expr} {es : List Expr} {f : Dn} {gl : DnL} {pos p : Pos} {x : Str}
theorem fs_raiseBad {st : Stmt} : PS X st (tS X.K Tb W gBad) := ⟨fun pins s σ H D I ⟨_, _, _, _, _, h⟩ => h.elim⟩
end
end PD
set_option Elab.async false
set_option linter.all false
set_option maxRecDepth 100000
set_option maxHeartbeats 1000000
namespace PD
open PySem PySem.Spec PyProof.Rows L2
end PD
set_option Elab.async false
set_option linter.all false
set_option maxRecDepth 100000
set_option maxHeartbeats 1000000
namespace PD
open PySem PySem.Spec PyProof.Rows L2
end PD
set_option Elab.async false
set_option linter.all false
set_option maxRecDepth 100000
set_option maxHeartbeats 1000000
namespace PD
open PySem PySem.Spec PyProof.Rows L2
end PD
namespace PD
open PySem PySem.Spec PyProof.Rows L2
end PD
namespace PD
open PySem PySem.Spec PyProof.Rows L2
end PD
set_option Elab.async false
set_option linter.all false
set_option maxRecDepth 100000
set_option maxHeartbeats 1000000
namespace PD
open PySem PySem.Spec PyProof.Rows L2
end PD
namespace PD
open PySem PySem.Spec PyProof.Rows L2
end PD
set_option Elab.async false
set_option linter.all false
set_option maxRecDepth 100000
namespace PD
open PySem PySem.Spec PySem.W PyProof.Rows
theorem kit_ty {K : Frag} {t : Value} {T : String} {v : Bool} (h2 : kitMeta T = true) (h4 : subIn K t (.type T) = some v) (d : (t == .type T) = false) :
    kitOne K t (.type T) = some v := by
  unfold kitOne
  rw [if_neg (by rw [d]; exact Bool.false_ne_true)]
  show (if kitMeta T = true then subIn K t (.type T) else none) = some v
  rw [if_pos h2]; exact h4
end PD
set_option Elab.async false
set_option linter.all false
set_option maxRecDepth 100000
namespace PD
open PySem PySem.Spec PyProof.Rows L2
def gAppPop (i j : Nat) (f : Dn) : Sn := fun ρ => ownAt ρ i fun ds => ownAt ρ j fun es => oR (f ρ) ρ fun d => match d with
  | .int k => match seqIndex? k es.length with
    | some q => if -(2 ^ 63) ≤ k ∧ k < 2 ^ 63 ∧ q < es.length ∧ ds.length < sizeLine then (match es[q]? with
        | some y => .nx ((ρ.set j (some (.own (es.eraseIdx q)))).set i (some (.own (ds ++ [y]))))
        | none => .bad) else .bad
    | none => .bad
  | _ => .bad
section
variable {X : Cx} {Tb : List Addr} {W : WX} {e : Expr} {es : List Expr} {f : Dn} {gl : DnL} {pos p : Pos} {x x2 : Str}
theorem fs_appPop {i j : Nat} {apos npos cpos apos2 npos2 cpos2 : Pos} (hij : i ≠ j) (ho : X.N[i]? = some x) (hv : Vis X.env.scope x) (hd : (x == ("__debug__" : Str)) = false) (hcd : (x == ("__classdict__" : Str)) = false)
    (ho2 : X.N[j]? = some x2) (hv2 : Vis X.env.scope x2) (hd2 : (x2 == ("__debug__" : Str)) = false) (hcd2 : (x2 == ("__classdict__" : Str)) = false) (ha : PE X e (tD X.K Tb W f))
    (hse2 : starEach [e] X.env = (false, eval e X.env) :: starEach [] X.env) (hbase2 : attributeBase (.Name x2 npos2) "pop" X.env (eval (.Name x2 npos2) X.env) = eval (.Name x2 npos2) X.env)
    (hfew2 : ((backTo cpos2 (starEach [e] X.env)).all (fun x => !x.1) && (backToKw cpos2 (keywordEach [] X.env)).all (fun x => x.1.isSome)
      && decide (([e] : List Expr).length + ([] : List Keyword).length + (if ([] : List Keyword).isEmpty then 0 else 1) < 30)) = true)
    (hline2 : (apos2.endLine == cpos2.line) = true) (hplain2 : (backTo cpos2 (starEach [] X.env)).any (·.1) = false)
    (hse : starEach [(.Call (.Attribute (.Name x2 npos2) "pop" apos2) [e] [] cpos2)] X.env = (false, eval (.Call (.Attribute (.Name x2 npos2) "pop" apos2) [e] [] cpos2) X.env) :: starEach [] X.env) (hbase : attributeBase (.Name x npos) "append" X.env (eval (.Name x npos) X.env) = eval (.Name x npos) X.env)
    (hfew : ((backTo cpos (starEach [(.Call (.Attribute (.Name x2 npos2) "pop" apos2) [e] [] cpos2)] X.env)).all (fun x => !x.1) && (backToKw cpos (keywordEach [] X.env)).all (fun x => x.1.isSome)
      && decide (([(.Call (.Attribute (.Name x2 npos2) "pop" apos2) [e] [] cpos2)] : List Expr).length + ([] : List Keyword).length + (if ([] : List Keyword).isEmpty then 0 else 1) < 30)) = true)
    (hline : (apos.endLine == cpos.line) = true) (hplain : (backTo cpos (starEach [] X.env)).any (·.1) = false)
    (hs : swapsWith (.Call (.Attribute (.Name x npos) "append" apos) [(.Call (.Attribute (.Name x2 npos2) "pop" apos2) [e] [] cpos2)] [] cpos) none pos.line X.env = pure false) :
    PS X (.Expr (.Call (.Attribute (.Name x npos) "append" apos) [(.Call (.Attribute (.Name x2 npos2) "pop" apos2) [e] [] cpos2)] [] cpos) pos) (tS X.K Tb W (gAppPop i j f)) :=
  (ps_expr (pe_bm PySem.F.plainAttrs_list PySem.F.slot_list_append PySem.F.type_list_append mt_append (pe_var ho hv hd hcd) (pa_cons (pe_bm PySem.F.plainAttrs_list PySem.F.slot_list_pop PySem.F.type_list_pop mt_popAt (pe_var ho2 hv2 hd2 hcd2) (pa_cons ha pa_nil hse2) hbase2 hfew2 hline2 hse2 hplain2) pa_nil hse) hbase hfew hline hse hplain) hs).by fun D σ H ⟨H0, O0, O, ρ, st, h⟩ => by
    obtain ⟨ds, p, vs, e1, e2, hp, z, r, h⟩ := own_at st h
    obtain ⟨es, p', vs', e1', e2', hp', z', r', h⟩ := own_at st h
    refine ⟨.ref p, e2, .inl ⟨rfl, vs, .of hp⟩, .ref p', e2', .inl ⟨rfl, vs', .of hp'⟩, H0, O0, O, ρ, st, oR_post st h fun d v H1 ex rv k => ?_⟩
    have pne : p ≠ p' := fun e => by
      subst e
      exact hij (st.inj i j p (.own ds) (.own es) trivial trivial e1 e1' e2 e2')
    split at k
    · rename_i kk
      cases rv
      split at k
      · rename_i q hq
        split at k
        · rename_i hl
          split at k
          · rename_i y hy
            obtain ⟨u, hu, ru⟩ := r'.get' hy
            have hp1 := ex.keep p _ hp (fun _ q => by cases q)
            have hp1' := ex.keep p' _ hp' (fun _ q => by cases q)
            obtain ⟨_, h1q, p2, vs2, rfl, mO, m0, _⟩ := st.slot j _ e1'
            rw [e2'] at h1q
            cases h1q
            have s1 := (st.step ex).ownSet (ds' := es.eraseIdx q) (vs' := vs'.eraseIdx q) e1' e2' (Nat.le_trans (List.length_eraseIdx_le _ _) z') ((r'.mono (Sub.hide ex.keep)).erase q)
            refine ⟨p', vs', kk, q, u, rfl, rfl, hp1', hl.1, hl.2.1, by rw [r'.length]; exact hq, hu, p, vs, u, rfl, rfl, ?_, by rw [r.length]; exact hl.2.2.2, ?_⟩
            · rw [upd_ne pne]; exact hp1
            · refine k O σ _ (s1.ownSet (ds := ds) (by rw [List.getElem?_set_ne hij.symm]; exact e1) e2 ?_ ?_)
              · rw [List.length_append]; simp; exact hl.2.2.2
              · rw [hide_upd mO]
                exact (r.mono (Sub.hide ex.keep)).append (.one (ru.mono (Sub.hide ex.keep)))
          · exact k.elim
        · exact k.elim
      · exact k.elim
    · exact k.elim
end
end PD
set_option Elab.async false
set_option linter.all false
set_option maxRecDepth 100000
set_option maxHeartbeats 1000000
namespace PD
open PySem PySem.Spec PyProof.Rows L2
end PD
set_option Elab.async false
set_option linter.all false
set_option maxRecDepth 100000
set_option maxHeartbeats 1000000
namespace PD
open PySem PySem.Spec PySem.W PySem.Calls PyProof.Rows
end PD
set_option Elab.async false
set_option linter.all false
set_option maxRecDepth 100000
set_option maxHeartbeats 1000000
namespace PD
open PySem PySem.Spec PySem.W PySem.Calls PyProof.Rows
end PD
set_option Elab.async false
set_option linter.all false
set_option maxRecDepth 100000
set_option maxHeartbeats 1000000
namespace PD
open PySem PySem.Spec PySem.W PySem.Calls PyProof.Rows
end PD
set_option Elab.async false
set_option linter.all false
set_option maxRecDepth 100000
set_option maxHeartbeats 1000000
namespace PD
open PySem PySem.Spec PySem.W PySem.Calls PyProof.Rows
end PD
set_option Elab.async false
set_option linter.all false
set_option maxRecDepth 100000
set_option maxHeartbeats 1000000
namespace PD
open PySem PySem.Spec PyProof.Rows L2
end PD
set_option Elab.async false
set_option linter.all false
set_option maxRecDepth 100000
set_option maxHeartbeats 1000000
namespace PD
open PySem PySem.Spec PyProof.Rows L2
end PD
set_option Elab.async false
set_option linter.all false
set_option maxRecDepth 100000
set_option maxHeartbeats 1000000
namespace PD
open PySem PySem.Spec PyProof.Rows L2
end PD
set_option Elab.async false
set_option linter.all false
set_option maxRecDepth 100000
set_option maxHeartbeats 1000000
namespace PD
open PySem PySem.Spec PyProof.Rows L2 HotX L2H
end PD
namespace PD
open PySem PySem.Spec PyProof.Rows L2 HotX L2H
end PD
set_option Elab.async false
set_option linter.all false
set_option maxRecDepth 100000
set_option maxHeartbeats 1000000
namespace PD
open PySem PySem.Spec PyProof.Rows L2 HotX L2H
end PD
set_option Elab.async false
set_option linter.all false
set_option maxRecDepth 100000
set_option maxHeartbeats 1000000
namespace PD
open PySem PySem.Spec PyProof.Rows L2
end PD
set_option Elab.async false
set_option linter.all false
set_option maxRecDepth 100000
set_option maxHeartbeats 1000000
namespace PD
open PySem PySem.Spec PySem.W PySem.Calls PyProof.Rows L2
end PD
set_option Elab.async false
set_option linter.all false
set_option maxRecDepth 100000
set_option maxHeartbeats 1000000
namespace PD
open PySem PySem.Spec PyProof.Rows L2
end PD
set_option Elab.async false
set_option linter.all false
set_option maxRecDepth 100000
set_option maxHeartbeats 1000000
namespace PD
open PySem PySem.Spec PyProof.Rows L2
end PD
set_option Elab.async false
set_option linter.all false
set_option maxRecDepth 100000
set_option maxHeartbeats 1000000
namespace PD
open PySem PySem.Spec PyProof.Rows L2
end PD
set_option Elab.async false
set_option linter.all false
set_option maxRecDepth 100000
set_option maxHeartbeats 1000000
namespace PD
open PySem PySem.Spec PyProof.Rows L2
def tu (l : List Int) : PyData := .tuple (l.map .int)
def li (l : List Int) : PyData := .list (l.map .int)
def lt (ls : List (List Int)) : PyData := .list (ls.map tu)
def tt (ls : List (List Int)) : PyData := .tuple (ls.map tu)
@[simp] theorem tu_eq (l : List Int) : PyData.tuple (l.map PyData.int) = tu l := rfl
@[simp] theorem li_eq (l : List Int) : PyData.list (l.map PyData.int) = li l := rfl
@[simp] theorem lt_eq (ls : List (List Int)) : PyData.list (ls.map tu) = lt ls := rfl
@[simp] theorem tt_eq (ls : List (List Int)) : PyData.tuple (ls.map tu) = tt ls := rfl
@[simp] theorem tu_eq' {α : Type} (l : List α) (f : α → Int) : PyData.tuple (l.map fun x => PyData.int (f x)) = tu (l.map f) := by unfold tu; rw [List.map_map]; rfl
@[simp] theorem li_eq' {α : Type} (l : List α) (f : α → Int) : PyData.list (l.map fun x => PyData.int (f x)) = li (l.map f) := by unfold li; rw [List.map_map]; rfl
@[simp] theorem lt_eq' {α : Type} (l : List α) (f : α → List Int) : PyData.list (l.map fun x => tu (f x)) = lt (l.map f) := by unfold lt; rw [List.map_map]; rfl
@[simp] theorem tt_eq' {α : Type} (l : List α) (f : α → List Int) : PyData.tuple (l.map fun x => tu (f x)) = tt (l.map f) := by unfold tt; rw [List.map_map]; rfl
@[simp] theorem items_tu (l : List Int) : items (tu l) = .ok (l.map .int) := rfl
@[simp] theorem items_li (l : List Int) : items (li l) = .ok (l.map .int) := rfl
@[simp] theorem items_lt (l : List (List Int)) : items (lt l) = .ok (l.map tu) := rfl
@[simp] theorem items_tt (l : List (List Int)) : items (tt l) = .ok (l.map tu) := rfl
@[simp] theorem items_list (l : List PyData) : items (.list l) = .ok l := rfl
@[simp] theorem items_tuple (l : List PyData) : items (.tuple l) = .ok l := rfl
def dep (n : Nat) (d : PyData) : Prop := d.canLay0 = true ∧ d.depth ≤ n
theorem dep_int (i : Int) : dep 0 (.int i) := ⟨rfl, Nat.le_refl _⟩
theorem dep_bool (i : Bool) : dep 0 (.bool i) := ⟨rfl, Nat.le_refl _⟩
theorem dep_all {n : Nat} : ∀ {xs : List PyData}, (∀ x ∈ xs, dep n x) → PyData.canLayAll0 xs = true ∧ PyData.depthAll xs ≤ n
  | [], _ => ⟨rfl, Nat.zero_le _⟩
  | x :: xs, h => by
    obtain ⟨h1, h2⟩ := h x List.mem_cons_self
    obtain ⟨h3, h4⟩ := dep_all (xs := xs) fun y hy => h y (List.mem_cons_of_mem _ hy)
    refine ⟨?_, Nat.max_le.mpr ⟨h2, h4⟩⟩
    show (x.canLay0 && PyData.canLayAll0 xs) = true
    rw [h1, h3]; rfl
theorem dep_tuple {n : Nat} {xs : List PyData} (h : ∀ x ∈ xs, dep n x) : dep (n + 1) (.tuple xs) := ⟨(dep_all h).1, Nat.succ_le_succ (dep_all h).2⟩
theorem dep_list {n : Nat} {xs : List PyData} (h : ∀ x ∈ xs, dep n x) : dep (n + 1) (.list xs) := ⟨(dep_all h).1, Nat.succ_le_succ (dep_all h).2⟩
theorem dep_tu (l : List Int) : dep 1 (tu l) := dep_tuple fun x hx => by obtain ⟨i, _, rfl⟩ := List.mem_map.mp hx; exact dep_int i
theorem dep_li (l : List Int) : dep 1 (li l) := dep_list fun x hx => by obtain ⟨i, _, rfl⟩ := List.mem_map.mp hx; exact dep_int i
theorem dep_lt (l : List (List Int)) : dep 2 (lt l) := dep_list fun x hx => by obtain ⟨i, _, rfl⟩ := List.mem_map.mp hx; exact dep_tu i
theorem dep_tt (l : List (List Int)) : dep 2 (tt l) := dep_tuple fun x hx => by obtain ⟨i, _, rfl⟩ := List.mem_map.mp hx; exact dep_tu i
theorem shp_of {n : Nat} {d : PyData} (h : dep n d) (hn : n ≤ 64 := by decide) : shp d = true := by
  show (d.canLay0 && decide (d.depth ≤ 64)) = true
  rw [h.1, decide_eq_true (Nat.le_trans h.2 hn)]; rfl
@[simp] theorem shp_int (i : Int) : shp (.int i) = true := shp_of (dep_int i)
@[simp] theorem shp_bool (i : Bool) : shp (.bool i) = true := shp_of (dep_bool i)
@[simp] theorem shp_tu (l : List Int) : shp (tu l) = true := shp_of (dep_tu l)
@[simp] theorem shp_li (l : List Int) : shp (li l) = true := shp_of (dep_li l)
@[simp] theorem shp_lt (l : List (List Int)) : shp (lt l) = true := shp_of (dep_lt l)
@[simp] theorem shp_tt (l : List (List Int)) : shp (tt l) = true := shp_of (dep_tt l)
@[simp] theorem eqv_int (i j : Int) : PyData.eqv (.int i) (.int j) = (i == j) := by rw [PyData.eqv]
@[simp] theorem eqv_bool (i j : Bool) : PyData.eqv (.bool i) (.bool j) = (i == j) := by rw [PyData.eqv]
theorem eqvAll_map {α : Type} [DecidableEq α] {f : α → PyData} (h : ∀ a b, PyData.eqv (f a) (f b) = decide (a = b)) : ∀ xs ys : List α, PyData.eqvAll (xs.map f) (ys.map f) = decide (xs = ys)
  | [], [] => by rw [List.map_nil, PyData.eqvAll]; rfl
  | [], y :: ys => by rw [List.map_nil, List.map_cons, PyData.eqvAll]; rfl
  | x :: xs, [] => by rw [List.map_nil, List.map_cons, PyData.eqvAll]; rfl
  | x :: xs, y :: ys => by
    rw [List.map_cons, List.map_cons, PyData.eqvAll, h, eqvAll_map h xs ys]
    by_cases h1 : x = y <;> by_cases h2 : xs = ys <;> simp [h1, h2]
@[simp] theorem eqv_tu (a b : List Int) : PyData.eqv (tu a) (tu b) = decide (a = b) := by
  unfold tu; rw [PyData.eqv]
  exact eqvAll_map (fun i j => by rw [eqv_int]; rfl) a b
@[simp] theorem eqv_li (a b : List Int) : PyData.eqv (li a) (li b) = decide (a = b) := by
  unfold li; rw [PyData.eqv]
  exact eqvAll_map (fun i j => by rw [eqv_int]; rfl) a b
@[simp] theorem eqv_tt (a b : List (List Int)) : PyData.eqv (tt a) (tt b) = decide (a = b) := by
  unfold tt; rw [PyData.eqv]
  exact eqvAll_map eqv_tu a b
@[simp] theorem eqv_lt (a b : List (List Int)) : PyData.eqv (lt a) (lt b) = decide (a = b) := by
  unfold lt; rw [PyData.eqv]
  exact eqvAll_map eqv_tu a b
@[simp] theorem inD_ints (x : Int) (l : List Int) : inD (.int x) (l.map .int) = decide (x ∈ l) := by
  unfold inD
  induction l with
  | nil => rfl
  | cons y r ih =>
    rw [List.map_cons, List.any_cons, ih, eqv_int]
    by_cases h : y = x
    · subst h; simp
    · have h' : ¬ x = y := fun e => h e.symm
      simp [h, h']
@[simp] theorem inD_tus (x : List Int) (l : List (List Int)) : inD (tu x) (l.map tu) = decide (x ∈ l) := by
  unfold inD
  induction l with
  | nil => rfl
  | cons y r ih =>
    rw [List.map_cons, List.any_cons, ih, eqv_tu]
    by_cases h : y = x
    · subst h; simp
    · have h' : ¬ x = y := fun e => h e.symm
      simp [h, h']
@[simp] theorem oEq_int (i j : Int) : oEq (.int i) (.int j) = .ok (.bool (i == j)) := by simp [oEq]
@[simp] theorem oNe_int (i j : Int) : oNe (.int i) (.int j) = .ok (.bool (!(i == j))) := by simp [oNe]
@[simp] theorem oEq_bool (i j : Bool) : oEq (.bool i) (.bool j) = .ok (.bool (i == j)) := by simp [oEq]
@[simp] theorem oNe_bool (i j : Bool) : oNe (.bool i) (.bool j) = .ok (.bool (!(i == j))) := by simp [oNe]
@[simp] theorem oEq_tu (a b : List Int) : oEq (tu a) (tu b) = .ok (.bool (decide (a = b))) := by simp [oEq]
@[simp] theorem oNe_tu (a b : List Int) : oNe (tu a) (tu b) = .ok (.bool (!decide (a = b))) := by simp [oNe]
@[simp] theorem oEq_tt (a b : List (List Int)) : oEq (tt a) (tt b) = .ok (.bool (decide (a = b))) := by simp [oEq]
@[simp] theorem oNe_tt (a b : List (List Int)) : oNe (tt a) (tt b) = .ok (.bool (!decide (a = b))) := by simp [oNe]
@[simp] theorem oIn_tu (i : Int) (l : List Int) : oIn (.int i) (tu l) = .ok (.bool (decide (i ∈ l))) := by simp [oIn]
@[simp] theorem oNotIn_tu (i : Int) (l : List Int) : oNotIn (.int i) (tu l) = .ok (.bool (!decide (i ∈ l))) := by simp [oNotIn]
@[simp] theorem oIn_li (i : Int) (l : List Int) : oIn (.int i) (li l) = .ok (.bool (decide (i ∈ l))) := by simp [oIn]
@[simp] theorem oNotIn_li (i : Int) (l : List Int) : oNotIn (.int i) (li l) = .ok (.bool (!decide (i ∈ l))) := by simp [oNotIn]
@[simp] theorem oIn_tt (i : List Int) (l : List (List Int)) : oIn (tu i) (tt l) = .ok (.bool (decide (i ∈ l))) := by simp [oIn]
@[simp] theorem oIn_lt (i : List Int) (l : List (List Int)) : oIn (tu i) (lt l) = .ok (.bool (decide (i ∈ l))) := by simp [oIn]
@[simp] theorem oNotIn_lt (i : List Int) (l : List (List Int)) : oNotIn (tu i) (lt l) = .ok (.bool (!decide (i ∈ l))) := by simp [oNotIn]
@[simp] theorem oAdd_int (i j : Int) : oAdd (.int i) (.int j) = .ok (.int (i + j)) := rfl
@[simp] theorem oSub_int (i j : Int) : oSub (.int i) (.int j) = .ok (.int (i - j)) := rfl
@[simp] theorem oLt_int (i j : Int) : oLt (.int i) (.int j) = .ok (.bool (decide (i < j))) := rfl
@[simp] theorem oLe_int (i j : Int) : oLe (.int i) (.int j) = .ok (.bool (decide (i ≤ j))) := rfl
@[simp] theorem oGt_int (i j : Int) : oGt (.int i) (.int j) = .ok (.bool (decide (j < i))) := rfl
@[simp] theorem oGe_int (i j : Int) : oGe (.int i) (.int j) = .ok (.bool (decide (j ≤ i))) := rfl
theorem oMul_int {i j : Int} (h : CMul i j) : oMul (.int i) (.int j) = .ok (.int (i * j)) := if_pos h
theorem oMod_int {i j : Int} (h : j ≠ 0) : oMod (.int i) (.int j) = .ok (.int (i.fmod j)) := if_pos h
theorem oDiv_int {i j : Int} (h : CDivN i j) : oDiv (.int i) (.int j) = .ok (.int (i.fdiv j)) := if_pos h
theorem oAdd_tu {a b : List Int} (h : a.length + b.length ≤ 100000) : oAdd (tu a) (tu b) = .ok (tu (a ++ b)) := by
  have e : oAdd (.tuple (a.map PyData.int)) (.tuple (b.map PyData.int)) = .ok (.tuple (a.map PyData.int ++ b.map PyData.int)) := if_pos (by rw [List.length_map, List.length_map, sizeLine_eq]; omega)
  rw [← List.map_append] at e
  exact e
theorem oAdd_li {a b : List Int} (h : a.length + b.length ≤ 100000) : oAdd (li a) (li b) = .ok (li (a ++ b)) := by
  have e : oAdd (.list (a.map PyData.int)) (.list (b.map PyData.int)) = .ok (.list (a.map PyData.int ++ b.map PyData.int)) := if_pos (by rw [List.length_map, List.length_map, sizeLine_eq]; omega)
  rw [← List.map_append] at e
  exact e
theorem oAdd_lt {a b : List (List Int)} (h : a.length + b.length ≤ 100000) : oAdd (lt a) (lt b) = .ok (lt (a ++ b)) := by
  have e : oAdd (.list (a.map tu)) (.list (b.map tu)) = .ok (.list (a.map tu ++ b.map tu)) := if_pos (by rw [List.length_map, List.length_map, sizeLine_eq]; omega)
  rw [← List.map_append] at e
  exact e
theorem atI_get {α β : Type} (f : α → β) {xs : List α} {i : Int} (h0 : 0 ≤ i) {x : α} (h : xs[i.toNat]? = some x) : atI (xs.map f) i = some (f x) := by
  have hl := (List.getElem?_eq_some_iff.mp h).1
  unfold atI ixN
  rw [if_pos h0, if_pos (by rw [List.length_map]; omega)]
  show (xs.map f)[i.toNat]? = _
  rw [List.getElem?_map, h]; rfl
theorem oIx_li {l : List Int} {i x : Int} (h0 : 0 ≤ i) (h : l[i.toNat]? = some x) : oIx (li l) (.int i) = .ok (.int x) := by
  show (match atI (l.map PyData.int) i with | some d => R.ok d | none => .bad) = _
  rw [atI_get _ h0 h]
theorem oIx_tu {l : List Int} {i x : Int} (h0 : 0 ≤ i) (h : l[i.toNat]? = some x) : oIx (tu l) (.int i) = .ok (.int x) := by
  show (match atI (l.map PyData.int) i with | some d => R.ok d | none => .bad) = _
  rw [atI_get _ h0 h]
theorem oIx_lt {l : List (List Int)} {i : Int} {x : List Int} (h0 : 0 ≤ i) (h : l[i.toNat]? = some x) : oIx (lt l) (.int i) = .ok (tu x) := by
  show (match atI (l.map tu) i with | some d => R.ok d | none => .bad) = _
  rw [atI_get _ h0 h]
@[simp] theorem oIx_pair0 (a b : PyData) : oIx (.tuple [a, b]) (.int 0) = .ok a := rfl
@[simp] theorem oIx_pair1 (a b : PyData) : oIx (.tuple [a, b]) (.int 1) = .ok b := rfl
@[simp] theorem bLen_tu (l : List Int) : bLen [tu l] = .ok (.int l.length) := by simp [bLen]
@[simp] theorem bLen_li (l : List Int) : bLen [li l] = .ok (.int l.length) := by simp [bLen]
@[simp] theorem bLen_lt (l : List (List Int)) : bLen [lt l] = .ok (.int l.length) := by simp [bLen]
@[simp] theorem bLen_tt (l : List (List Int)) : bLen [tt l] = .ok (.int l.length) := by simp [bLen]
@[simp] theorem bInt_int (i : Int) : bInt [.int i] = .ok (.int i) := rfl
@[simp] theorem bTuple_li (l : List Int) : bTuple [li l] = .ok (tu l) := rfl
@[simp] theorem bTuple_tu (l : List Int) : bTuple [tu l] = .ok (tu l) := rfl
@[simp] theorem bTuple_lt (l : List (List Int)) : bTuple [lt l] = .ok (tt l) := rfl
@[simp] theorem bTuple_tt (l : List (List Int)) : bTuple [tt l] = .ok (tt l) := rfl
@[simp] theorem bList_li (l : List Int) : bList [li l] = .ok (li l) := rfl
@[simp] theorem bList_tu (l : List Int) : bList [tu l] = .ok (li l) := rfl
@[simp] theorem bList_lt (l : List (List Int)) : bList [lt l] = .ok (lt l) := rfl
@[simp] theorem bList_tt (l : List (List Int)) : bList [tt l] = .ok (lt l) := rfl
@[simp] theorem asInts_map : ∀ l : List Int, asInts (l.map .int) = some l
  | [] => rfl
  | x :: r => by rw [List.map_cons, asInts, asInts_map r]; rfl
@[simp] theorem asBools_map : ∀ l : List Bool, asBools (l.map .bool) = some l
  | [] => rfl
  | x :: r => by rw [List.map_cons, asBools, asBools_map r]; rfl
theorem asBools_map' {α : Type} (f : α → Bool) (l : List α) : asBools (l.map fun x => PyData.bool (f x)) = some (l.map f) := by
  have := asBools_map (l.map f)
  rw [List.map_map] at this
  exact this
@[simp] theorem bAny_map {α : Type} (f : α → Bool) (l : List α) : bAny [.list (l.map fun x => PyData.bool (f x))] = .ok (.bool (l.any f)) := by
  show ofO (asBools (l.map fun x => PyData.bool (f x))) (fun ns => R.ok (PyData.bool (ns.any id))) = _
  rw [asBools_map']
  show R.ok (PyData.bool ((l.map f).any id)) = _
  rw [List.any_map]; rfl
@[simp] theorem bAll_map {α : Type} (f : α → Bool) (l : List α) : bAll [.list (l.map fun x => PyData.bool (f x))] = .ok (.bool (l.all f)) := by
  show ofO (asBools (l.map fun x => PyData.bool (f x))) (fun ns => R.ok (PyData.bool (ns.all id))) = _
  rw [asBools_map']
  show R.ok (PyData.bool ((l.map f).all id)) = _
  rw [List.all_map]; rfl
theorem bMax_li {l : List Int} (h : l ≠ []) : bMax [li l] = .ok (.int (maxI l)) := by
  show ofO (asInts (l.map PyData.int)) (fun ns => if 0 < ns.length then R.ok (PyData.int (maxI ns)) else .bad) = _
  rw [asInts_map]
  exact if_pos (List.length_pos_iff.mpr h)
@[simp] theorem bSum_li (l : List Int) : bSum [li l] = .ok (.int l.sum) := by
  show ofO (asInts (l.map PyData.int)) (fun ns => R.ok (PyData.int ns.sum)) = _
  rw [asInts_map]; rfl
end PD
set_option Elab.async false
set_option linter.all false
set_option maxRecDepth 100000
set_option maxHeartbeats 1000000
namespace PD
open PySem PySem.Spec PyProof.Rows L2
def varR : Option (Option Sl) → R PyData
  | some (some (.d x)) => .ok x
  | _ => .bad
@[simp] theorem varR_d (x : PyData) : varR (some (some (.d x))) = .ok x := rfl
@[simp] theorem ev_var (i : Nat) (ρ : Rho) : dVar i ρ = varR ρ[i]? := rfl
@[simp] theorem ev_c (x : PyData) (ρ : Rho) : dC x ρ = .ok x := rfl
@[simp] theorem ev_one (u : PyData → R PyData) (f : Dn) (ρ : Rho) : dOne u f ρ = (f ρ >>= u) := rfl
@[simp] theorem ev_two (u : PyData → PyData → R PyData) (f g : Dn) (ρ : Rho) : dTwo u f g ρ = (f ρ >>= fun a => g ρ >>= fun b => u a b) := rfl
@[simp] theorem ev_nil (ρ : Rho) : dNil ρ = .ok [] := rfl
@[simp] theorem ev_cons (f : Dn) (g : DnL) (ρ : Rho) : dCons f g ρ = (f ρ >>= fun a => g ρ >>= fun b => .ok (a :: b)) := rfl
@[simp] theorem ev_arg (m : List PyData → R PyData) (g : DnL) (ρ : Rho) : dArg m g ρ = (g ρ >>= m) := rfl
def tupR (xs : List PyData) : R PyData := if xs.length ≤ sizeLine then .ok (.tuple xs) else .bad
def lstR (xs : List PyData) : R PyData := if xs.length ≤ sizeLine then .ok (.list xs) else .bad
theorem tupR_ok {xs : List PyData} (h : xs.length ≤ 100000) : tupR xs = .ok (.tuple xs) := if_pos (by rw [sizeLine_eq]; omega)
theorem lstR_ok {xs : List PyData} (h : xs.length ≤ 100000) : lstR xs = .ok (.list xs) := if_pos (by rw [sizeLine_eq]; omega)
@[simp] theorem tupR_0 : tupR [] = .ok (.tuple []) := tupR_ok (by decide)
@[simp] theorem tupR_1 (a : PyData) : tupR [a] = .ok (.tuple [a]) := tupR_ok (by show 1 ≤ 100000; decide)
@[simp] theorem tupR_2 (a b : PyData) : tupR [a, b] = .ok (.tuple [a, b]) := tupR_ok (by show 2 ≤ 100000; decide)
@[simp] theorem tupR_3 (a b c : PyData) : tupR [a, b, c] = .ok (.tuple [a, b, c]) := tupR_ok (by show 3 ≤ 100000; decide)
@[simp] theorem tupR_4 (a b c d : PyData) : tupR [a, b, c, d] = .ok (.tuple [a, b, c, d]) := tupR_ok (by show 4 ≤ 100000; decide)
@[simp] theorem tupR_5 (a b c d e : PyData) : tupR [a, b, c, d, e] = .ok (.tuple [a, b, c, d, e]) := tupR_ok (by show 5 ≤ 100000; decide)
@[simp] theorem tupR_6 (a b c d e f : PyData) : tupR [a, b, c, d, e, f] = .ok (.tuple [a, b, c, d, e, f]) := tupR_ok (by show 6 ≤ 100000; decide)
@[simp] theorem tupR_7 (a b c d e f g : PyData) : tupR [a, b, c, d, e, f, g] = .ok (.tuple [a, b, c, d, e, f, g]) := tupR_ok (by show 7 ≤ 100000; decide)
@[simp] theorem tupR_8 (a b c d e f g h : PyData) : tupR [a, b, c, d, e, f, g, h] = .ok (.tuple [a, b, c, d, e, f, g, h]) := tupR_ok (by show 8 ≤ 100000; decide)
@[simp] theorem lstR_0 : lstR [] = .ok (.list []) := lstR_ok (by decide)
@[simp] theorem lstR_1 (a : PyData) : lstR [a] = .ok (.list [a]) := lstR_ok (by show 1 ≤ 100000; decide)
@[simp] theorem lstR_2 (a b : PyData) : lstR [a, b] = .ok (.list [a, b]) := lstR_ok (by show 2 ≤ 100000; decide)
@[simp] theorem lstR_3 (a b c : PyData) : lstR [a, b, c] = .ok (.list [a, b, c]) := lstR_ok (by show 3 ≤ 100000; decide)
@[simp] theorem ev_tup (g : DnL) (ρ : Rho) : dTup g ρ = (g ρ >>= tupR) := rfl
@[simp] theorem ev_lst (g : DnL) (ρ : Rho) : dLst g ρ = (g ρ >>= lstR) := rfl
@[simp] theorem tu_0 : PyData.tuple [] = tu [] := rfl
@[simp] theorem tu_1 (a : Int) : PyData.tuple [.int a] = tu [a] := rfl
@[simp] theorem tu_6 (a b c d e f : Int) : PyData.tuple [.int a, .int b, .int c, .int d, .int e, .int f] = tu [a, b, c, d, e, f] := rfl
@[simp] theorem tu_8 (a b c d e f g h : Int) : PyData.tuple [.int a, .int b, .int c, .int d, .int e, .int f, .int g, .int h] = tu [a, b, c, d, e, f, g, h] := rfl
@[simp] theorem li_3 (a b c : Int) : PyData.list [.int a, .int b, .int c] = li [a, b, c] := rfl
@[simp] theorem lt_1 (a : List Int) : PyData.list [tu a] = lt [a] := rfl
@[simp] theorem asB_bool (b : Bool) : asB (.bool b) = .ok b := rfl
@[simp] theorem asI_int (b : Int) : asI (.int b) = .ok b := rfl
@[simp] theorem ev_asB (f : Dn) (ρ : Rho) : dAsB f ρ = (f ρ >>= asB) := rfl
@[simp] theorem ev_and (f g : DnB) (ρ : Rho) : dAnd f g ρ = (f ρ >>= fun b => if b = true then g ρ else .ok false) := rfl
@[simp] theorem ev_or (f g : DnB) (ρ : Rho) : dOr f g ρ = (f ρ >>= fun b => if b = true then .ok true else g ρ) := rfl
@[simp] theorem ev_not (f : DnB) (ρ : Rho) : dNot f ρ = (f ρ >>= fun b => .ok (!b)) := rfl
@[simp] theorem ev_andV (f g : Dn) (ρ : Rho) : dAndV f g ρ = (f ρ >>= fun a => asB a >>= fun b => if b = true then g ρ else .ok (.bool false)) := rfl
@[simp] theorem ev_orV (f g : Dn) (ρ : Rho) : dOrV f g ρ = (f ρ >>= fun a => asB a >>= fun b => if b = true then .ok (.bool true) else g ρ) := rfl
@[simp] theorem ev_notV (f : Dn) (ρ : Rho) : dNotV f ρ = (f ρ >>= fun a => asB a >>= fun b => .ok (.bool (!b))) := rfl
@[simp] theorem ev_if (c : DnB) (f g : Dn) (ρ : Rho) : dIf c f g ρ = (c ρ >>= fun b => if b = true then f ρ else g ρ) := rfl
@[simp] theorem ev_cut (f : Dn) (l h : DnO) (ρ : Rho) : dCut f l h ρ = (f ρ >>= fun a => l ρ >>= fun l => h ρ >>= fun h => oCut a l h) := rfl
@[simp] theorem ev_noP (ρ : Rho) : dNoP ρ = .ok none := rfl
@[simp] theorem ev_part (f : Dn) (ρ : Rho) : dPart f ρ = (f ρ >>= fun a => asI a >>= fun i => .ok (some i)) := rfl
@[simp] theorem ev_yes (ρ : Rho) : dYes ρ = .ok true := rfl
@[simp] theorem ev_items (f : Dn) (ρ : Rho) : dItems f ρ = (f ρ >>= items) := rfl
@[simp] theorem ev_rng1 (g : DnL) (ρ : Rho) : dRng1 g ρ = (g ρ >>= rngA1) := rfl
@[simp] theorem ev_rng2 (g : DnL) (ρ : Rho) : dRng2 g ρ = (g ρ >>= rngA2) := rfl
@[simp] theorem ev_thawB (f : DnB) (ρ : Rho) : dThawB f ρ = nx (f (thaw ρ)) .ok := rfl
@[simp] theorem ev_thaw (f : Dn) (ρ : Rho) : dThaw f ρ = nx (f (thaw ρ)) fun d => if flat d = true then .ok d else .bad := rfl
def rangeI (lo hi : Int) : List Int := (List.range (hi - lo).toNat).map fun i => lo + (i : Nat)
theorem rngD_eq (lo : Int) (n : Nat) : rngD lo n = ((List.range n).map fun i => lo + (i : Nat)).map PyData.int := by unfold rngD; rw [List.map_map]; rfl
theorem rngA1_ok {n : Int} (h : n ≤ 100000) (h0 : -1000 ≤ n) : rngA1 [.int n] = .ok ((rangeI 0 n).map PyData.int) := by
  have e : rngA1 [.int n] = .ok (rngD 0 n.toNat) := if_pos ⟨by omega, by rw [sizeLine_eq]; omega⟩
  rw [e, rngD_eq]
  unfold rangeI
  rw [Int.sub_zero]
theorem mem_rangeI {lo hi x : Int} : x ∈ rangeI lo hi ↔ lo ≤ x ∧ x < hi := by
  unfold rangeI
  rw [List.mem_map]
  constructor
  · rintro ⟨i, hi', rfl⟩
    have := List.mem_range.mp hi'
    omega
  · intro ⟨h1, h2⟩
    exact ⟨(x - lo).toNat, List.mem_range.mpr (by omega), by omega⟩
theorem rangeI_len (lo hi : Int) : (rangeI lo hi).length = (hi - lo).toNat := by unfold rangeI; rw [List.length_map, List.length_range]
theorem rangeI_asc (lo hi : Int) : (rangeI lo hi).Pairwise (· < ·) := by
  unfold rangeI
  rw [List.pairwise_map]
  exact List.Pairwise.imp (fun h => by omega) List.pairwise_lt_range
theorem rangeI_get {lo hi : Int} {j : Nat} (h : j < (hi - lo).toNat) : (rangeI lo hi)[j]? = some (lo + (j : Nat)) := by
  unfold rangeI
  rw [List.getElem?_map, List.getElem?_range h]; rfl
def lcR {α β : Type} (p : α → R Bool) (f : α → R β) : List α → R (List β)
  | [] => .ok []
  | x :: xs => nx (p x) fun b => if b = true then nx (f x) fun y => nx (lcR p f xs) fun ys => .ok (y :: ys) else lcR p f xs
theorem lcGo_nm (i : Nat) (ft : DnB) (fe : Dn) (ρ : Rho) : ∀ ds : List PyData, lcGo (.nm i) ft fe ρ ds = lcR (fun d => ft (ρ.set i (some (.d d)))) (fun d => fe (ρ.set i (some (.d d)))) ds
  | [] => rfl
  | d :: ds => by
    show nx _ _ = nx _ _
    simp only [lcGo_nm i ft fe ρ ds]
@[simp] theorem lcR_map {α β γ : Type} (p : α → R Bool) (f : α → R β) (g : γ → α) : ∀ xs : List γ, lcR p f (xs.map g) = lcR (fun x => p (g x)) (fun x => f (g x)) xs
  | [] => rfl
  | x :: xs => by
    show nx _ _ = nx _ _
    simp only [lcR_map p f g xs]
@[simp] theorem lcR_ok {α β : Type} (p : α → Bool) (f : α → β) : ∀ xs : List α, lcR (fun x => .ok (p x)) (fun x => .ok (f x)) xs = .ok ((xs.filter p).map f)
  | [] => rfl
  | x :: xs => by
    show (if p x = true then nx (lcR _ _ xs) _ else lcR _ _ xs) = _
    rw [lcR_ok p f xs]
    cases h : p x <;> simp [h]
@[simp high] theorem lcR_all {α β : Type} (f : α → β) (xs : List α) : lcR (fun _ => .ok true) (fun x => .ok (f x)) xs = .ok (xs.map f) := by
  rw [lcR_ok (fun _ => true) f xs, List.filter_eq_self.mpr (fun _ _ => rfl)]
theorem lcR_of {α β : Type} {p : α → R Bool} {f : α → R β} {q : α → Bool} {g : α → β} : ∀ {xs : List α}, (∀ x ∈ xs, p x = .ok (q x) ∧ (q x = true → f x = .ok (g x))) → lcR p f xs = .ok ((xs.filter q).map g)
  | [], _ => rfl
  | x :: xs, h => by
    obtain ⟨h1, h2⟩ := h x List.mem_cons_self
    show nx (p x) _ = _
    rw [h1, lcR_of (xs := xs) fun y hy => h y (List.mem_cons_of_mem _ hy)]
    cases e : q x with
    | false => simp [e]
    | true => rw [h2 e]; simp [e]
@[simp] theorem ev_lc (fi : DnL) (i : Nat) (ft : DnB) (fe : Dn) (vs : List Nat) (ρ : Rho) : dLc fi (.nm i) ft fe vs ρ = (fi ρ >>= fun ds => nx (lcR (fun d => ft ((wipeR ρ vs).set i (some (.d d)))) (fun d => fe ((wipeR ρ vs).set i (some (.d d)))) ds) fun ys => .ok (.list ys)) := by
  show (fi ρ >>= fun ds => nx (lcGo (.nm i) ft fe (wipeR ρ vs) ds) fun ys => R.ok (PyData.list ys)) = _
  simp only [lcGo_nm]
@[simp] theorem wipe_0 (ρ : Rho) : wipeR ρ [] = ρ := rfl
@[simp] theorem wipe_1 (ρ : Rho) (v : Nat) (vs : List Nat) : wipeR ρ (v :: vs) = (wipeR ρ vs).set v none := rfl
def anyR {α : Type} (stop : Bool) (f : α → R PyData) : List α → R Bool
  | [] => .ok (!stop)
  | x :: xs => nx (f x) fun y => match y with
    | .bool c => if c = stop then .ok stop else anyR stop f xs
    | _ => .bad
theorem anyGo_nm (stop : Bool) (i : Nat) (fe : Dn) (ρ : Rho) : ∀ ds : List PyData, anyGo stop (.nm i) dYes fe ρ ds = anyR stop (fun d => fe (ρ.set i (some (.d d)))) ds
  | [] => rfl
  | d :: ds => by
    show nx (fe (ρ.set i (some (.d d)))) _ = nx (fe (ρ.set i (some (.d d)))) _
    cases fe (ρ.set i (some (.d d))) with
    | exc e => rfl
    | bad => rfl
    | ok y =>
      show (match y with | .bool c => if c = stop then R.ok stop else anyGo stop (.nm i) dYes fe ρ ds | _ => .bad) = _
      rw [anyGo_nm stop i fe ρ ds]
      cases y <;> rfl
@[simp] theorem ev_anyG (stop : Bool) (fi : DnL) (i : Nat) (fe : Dn) (vs : List Nat) (ρ : Rho) : dAnyG stop fi (.nm i) dYes fe vs ρ = (fi ρ >>= fun ds => nx (anyR stop (fun d => fe ((wipeR ρ vs).set i (some (.d d)))) ds) fun b => .ok (.bool b)) := by
  show (fi ρ >>= fun ds => nx (anyGo stop (.nm i) dYes fe (wipeR ρ vs) ds) fun b => R.ok (PyData.bool b)) = _
  simp only [anyGo_nm]
@[simp] theorem ite_ok {α : Type} (c : Prop) [Decidable c] (a b : α) : (if c then R.ok a else R.ok b) = R.ok (if c then a else b) := by split <;> rfl
@[simp] theorem ite_int (c : Prop) [Decidable c] (a b : Int) : (if c then PyData.int a else PyData.int b) = PyData.int (if c then a else b) := by split <;> rfl
@[simp] theorem ite_bool (c : Prop) [Decidable c] (a b : Bool) : (if c then PyData.bool a else PyData.bool b) = PyData.bool (if c then a else b) := by split <;> rfl
@[simp] theorem ite_tu (c : Prop) [Decidable c] (a b : List Int) : (if c then tu a else tu b) = tu (if c then a else b) := by split <;> rfl
def seqO (o : Out) (h : Sn) : Out := match o with
  | .nx ρ' => h ρ'
  | o => o
@[simp] theorem seqO_nx (ρ : Rho) (h : Sn) : seqO (.nx ρ) h = h ρ := rfl
@[simp] theorem seqO_rt (d : PyData) (h : Sn) : seqO (.rt d) h = .rt d := rfl
@[simp] theorem seqO_ct (ρ : Rho) (h : Sn) : seqO (.ct ρ) h = .ct ρ := rfl
@[simp] theorem seqO_bk (ρ : Rho) (h : Sn) : seqO (.bk ρ) h = .bk ρ := rfl
@[simp] theorem ev_seq (g h : Sn) (ρ : Rho) : gSeq g h ρ = seqO (g ρ) h := rfl
@[simp] theorem ev_skip (ρ : Rho) : gSkip ρ = .nx ρ := rfl
@[simp] theorem oR_ok {α : Type} (a : α) (ρ : Rho) (k : α → Out) : oR (.ok a) ρ k = k a := rfl
@[simp] theorem oO_some (ρ : Rho) : oO (some ρ) = .nx ρ := rfl
@[simp] theorem set_nm (i : Nat) (d : PyData) (ρ : Rho) : Tg.set (.nm i) d ρ = some (ρ.set i (some (.d d))) := by rw [Tg.set]
@[simp] theorem set_tp2 (i j : Nat) (a b : PyData) (ρ : Rho) : Tg.set (.tp [.nm i, .nm j]) (.tuple [a, b]) ρ = some ((ρ.set i (some (.d a))).set j (some (.d b))) := by
  simp [Tg.set, Tg.sets]
@[simp] theorem ev_set (f : Dn) (t : Tg) (ρ : Rho) : gSet f t ρ = oR (f ρ) ρ fun d => oO (t.set d ρ) := rfl
@[simp] theorem ev_ret (f : Dn) (ρ : Rho) : gRet f ρ = oR (f ρ) ρ .rt := rfl
@[simp] theorem ev_expr (f : Dn) (ρ : Rho) : gExpr f ρ = oR (f ρ) ρ fun _ => .nx ρ := rfl
@[simp] theorem ev_ifs (c : DnB) (g h : Sn) (ρ : Rho) : gIf c g h ρ = oR (c ρ) ρ fun b => if b = true then g ρ else h ρ := rfl
@[simp] theorem ev_for (fi : DnL) (t : Tg) (g : Sn) (ρ : Rho) : gFor fi t g ρ = oR (fi ρ) ρ fun ds => forGo t g ds ρ := rfl
def frzO (o : Option Rho) (g : Sn) : Out := match o with
  | some ρ' => g ρ'
  | none => .bad
@[simp] theorem frzO_some (ρ : Rho) (g : Sn) : frzO (some ρ) g = g ρ := rfl
@[simp] theorem ev_frz (i : Nat) (g : Sn) (ρ : Rho) : gFrz i g ρ = frzO (frz i ρ) g := rfl
def frzS (o : Option (Option Sl)) (ρ : Rho) (i : Nat) : Option Rho := match o with
  | some (some (.own ds)) => some (ρ.set i (some (.d (.list ds))))
  | _ => none
@[simp] theorem frzS_own (ds : List PyData) (ρ : Rho) (i : Nat) : frzS (some (some (.own ds))) ρ i = some (ρ.set i (some (.d (.list ds)))) := rfl
@[simp] theorem ev_frzs (i : Nat) (ρ : Rho) : frz i ρ = frzS ρ[i]? ρ i := rfl
def ownR (d : PyData) (ρ : Rho) (i : Nat) : Out := match d with
  | .list ds => .nx (ρ.set i (some (.own ds)))
  | _ => .bad
@[simp] theorem ownR_list (ds : List PyData) (ρ : Rho) (i : Nat) : ownR (.list ds) ρ i = .nx (ρ.set i (some (.own ds))) := rfl
@[simp] theorem ownR_li (l : List Int) (ρ : Rho) (i : Nat) : ownR (li l) ρ i = .nx (ρ.set i (some (.own (l.map .int)))) := rfl
@[simp] theorem ownR_lt (l : List (List Int)) (ρ : Rho) (i : Nat) : ownR (lt l) ρ i = .nx (ρ.set i (some (.own (l.map tu)))) := rfl
@[simp] theorem ev_own (f : Dn) (i : Nat) (ρ : Rho) : gOwn f i ρ = oR (f ρ) ρ fun d => ownR d ρ i := rfl
def ownA (o : Option (Option Sl)) (k : List PyData → Out) : Out := match o with
  | some (some (.own ds)) => k ds
  | _ => .bad
@[simp] theorem ownA_own (ds : List PyData) (k : List PyData → Out) : ownA (some (some (.own ds))) k = k ds := rfl
@[simp] theorem ev_app (i : Nat) (f : Dn) (ρ : Rho) : gApp i f ρ = ownA ρ[i]? fun ds => oR (f ρ) ρ fun d => if ds.length < sizeLine then .nx (ρ.set i (some (.own (ds ++ [d])))) else .bad := rfl
def thaw1 : Option Sl → Option Sl
  | some (.own ds) => some (.d (.list ds))
  | some (.dct ks) => some (.d (.dict (ks.map fun k => (.tuple (k.map .int), .bool true))))
  | some (.dk _) => none
  | s => s
@[simp] theorem thaw1_dct (ks : List (List Int)) : thaw1 (some (.dct ks)) = some (.d (.dict (ks.map fun k => (.tuple (k.map .int), .bool true)))) := rfl
@[simp] theorem thaw1_own (ds : List PyData) : thaw1 (some (.own ds)) = some (.d (.list ds)) := rfl
@[simp] theorem thaw1_d (d : PyData) : thaw1 (some (.d d)) = some (.d d) := rfl
@[simp] theorem thaw1_none : thaw1 none = none := rfl
@[simp] theorem thaw_nil : thaw [] = [] := rfl
@[simp] theorem thaw_cons (s : Option Sl) (r : Rho) : thaw (s :: r) = thaw1 s :: thaw r := rfl
@[simp] theorem endR_rt (d : PyData) : endR (.rt d) = .ok d := rfl
theorem line_lt {n : Nat} (h : n < 100000) : n < sizeLine := by rw [sizeLine_eq]; omega
/-- a for loop: S holds of what is left to walk -/
theorem forGo_inv {α : Type} {enc : α → PyData} {i : Nat} {g : Sn} (S : List α → Rho → Prop) (hs : ∀ x xs ρ, S (x :: xs) ρ → ∃ ρ', g (ρ.set i (some (.d (enc x)))) = .nx ρ' ∧ S xs ρ') :
    ∀ (xs : List α) (ρ : Rho), S xs ρ → ∃ ρ', forGo (.nm i) g (xs.map enc) ρ = .nx ρ' ∧ S [] ρ'
  | [], ρ, h => ⟨ρ, rfl, h⟩
  | x :: xs, ρ, h => by
    obtain ⟨ρ1, e1, h1⟩ := hs x xs ρ h
    obtain ⟨ρ2, e2, h2⟩ := forGo_inv S hs xs ρ1 h1
    refine ⟨ρ2, ?_, h2⟩
    rw [List.map_cons]
    unfold forGo
    rw [set_nm]
    show (match g (ρ.set i (some (.d (enc x)))) with | .nx ρ => forGo (.nm i) g (xs.map enc) ρ | .ct ρ => forGo (.nm i) g (xs.map enc) ρ | .bk ρ => .nx ρ | o => o) = _
    rw [e1]
    exact e2
@[simp] theorem bAbs_int (i : Int) : bAbs [.int i] = .ok (.int (if i < 0 then -i else i)) := rfl
@[simp] theorem bMin2_int (i j : Int) : bMin2 [.int i, .int j] = .ok (.int (if j < i then j else i)) := rfl
@[simp] theorem oPow_10_18 : oPow (.int 10) (.int 18) = .ok (.int 1000000000000000000) := by
  have h : CPow 10 18 := ⟨by decide, by decide, by decide⟩
  show (if CPow 10 18 then R.ok (PyData.int (10 ^ (18 : Int).toNat)) else .bad) = _
  rw [if_pos h]; rfl
theorem oMul_r {i j : Int} (h1 : -18446744073709551616 < j) (h2 : j < 18446744073709551616) : oMul (.int i) (.int j) = .ok (.int (i * j)) := oMul_int (.inr ⟨by omega, by omega⟩)
theorem oMul_l {i j : Int} (h1 : -18446744073709551616 < i) (h2 : i < 18446744073709551616) : oMul (.int i) (.int j) = .ok (.int (i * j)) := oMul_int (.inl ⟨by omega, by omega⟩)
theorem oDiv_lit {i j : Int} (h1 : j ≠ 0) (h2 : j.natAbs < 1073741824) : oDiv (.int i) (.int j) = .ok (.int (i.fdiv j)) := oDiv_int ⟨h1, h2⟩
theorem fmod_lo (a : Int) {b : Int} (h : 0 < b) : 0 ≤ a.fmod b := Int.fmod_nonneg_of_pos a h
theorem fmod_hi (a : Int) {b : Int} (h : 0 < b) : a.fmod b < b := Int.fmod_lt_of_pos a h
def unInt : PyData → Int
  | .int i => i
  | _ => 0
def unTu : PyData → List Int
  | .tuple l => l.map unInt
  | _ => []
theorem unTu_tu (l : List Int) : unTu (tu l) = l := by
  show (l.map PyData.int).map unInt = l
  rw [List.map_map]
  exact List.map_id'' (fun _ => rfl) l
theorem alike_ints : ∀ a b : List Int, PySem.W.alikeAll (a.map PyData.int) (b.map PyData.int) = true
  | [], _ => by rw [List.map_nil, PySem.W.alikeAll]
  | _ :: _, [] => by rw [List.map_nil, List.map_cons, PySem.W.alikeAll]
  | x :: a, y :: b => by
    rw [List.map_cons, List.map_cons, PySem.W.alikeAll, alike_ints a b, PySem.W.alike]; rfl
theorem okSort_tus (ls : List (List Int)) : okSort (ls.map tu) = true := by
  unfold okSort
  have h1 : allAlike (ls.map tu) = true := by
    unfold allAlike
    rw [List.all_eq_true]
    intro d hd
    rw [List.all_eq_true]
    intro e he
    obtain ⟨a, _, rfl⟩ := List.mem_map.mp hd
    obtain ⟨b, _, rfl⟩ := List.mem_map.mp he
    show PySem.W.alike (.tuple _) (.tuple _) = true
    rw [PySem.W.alike]
    exact alike_ints a b
  have h2 : allTup (ls.map tu) = true := by
    unfold allTup
    rw [List.all_eq_true]
    intro d hd
    obtain ⟨a, _, rfl⟩ := List.mem_map.mp hd
    rfl
  have h3 : ((ls.map tu).all fun d => decide (d.depth ≤ 60)) = true := by
    rw [List.all_eq_true]
    intro d hd
    obtain ⟨a, _, rfl⟩ := List.mem_map.mp hd
    exact decide_eq_true (Nat.le_trans (dep_tu a).2 (by decide))
  rw [h1, h2, h3]; rfl
def sortT (ls : List (List Int)) : List (List Int) := (sortD (ls.map tu)).map unTu
theorem sortD_tus (ls : List (List Int)) : sortD (ls.map tu) = (sortT ls).map tu ∧ (sortT ls).Perm ls := by
  have p : (sortD (ls.map tu)).Perm (ls.map tu) := List.mergeSort_perm _ _
  have all : ∀ d ∈ sortD (ls.map tu), tu (unTu d) = d := fun d hd => by
    obtain ⟨a, _, rfl⟩ := List.mem_map.mp (p.subset hd)
    rw [unTu_tu]
  refine ⟨?_, ?_⟩
  · unfold sortT
    rw [List.map_map]
    have e : ∀ l : List PyData, (∀ d ∈ l, tu (unTu d) = d) → l.map (tu ∘ unTu) = l := fun l h => by
      induction l with
      | nil => rfl
      | cons d r ih => rw [List.map_cons, ih fun x hx => h x (List.mem_cons_of_mem _ hx)]; show tu (unTu d) :: r = _; rw [h d List.mem_cons_self]
    exact (e _ all).symm
  · have q := p.map unTu
    rw [List.map_map] at q
    have e : ls.map (unTu ∘ tu) = ls := List.map_id'' (fun l => unTu_tu l) ls
    rw [e] at q
    exact q
@[simp] theorem bSorted_lt (ls : List (List Int)) : bSorted [lt ls] = .ok (lt (sortT ls)) := by
  have e : bSorted [.list (ls.map tu)] = .ok (.list (sortD (ls.map tu))) := if_pos (okSort_tus ls)
  rw [(sortD_tus ls).1] at e
  exact e
theorem mem_sortT {ls : List (List Int)} {l : List Int} : l ∈ sortT ls ↔ l ∈ ls := (sortD_tus ls).2.mem_iff
theorem sortT_perm (ls : List (List Int)) : (sortT ls).Perm ls := (sortD_tus ls).2
end PD
set_option Elab.async false
set_option linter.all false
set_option maxRecDepth 100000
set_option maxHeartbeats 1000000
namespace PD
open PySem PySem.Spec PyProof.Rows L2
def popO (d : PyData) (ds : List PyData) (ρ : Rho) (i : Nat) : Out := match d with
  | .int k => match seqIndex? k ds.length with
    | some j => if -(2 ^ 63) ≤ k ∧ k < 2 ^ 63 ∧ j < ds.length then .nx (ρ.set i (some (.own (ds.eraseIdx j)))) else .bad
    | none => .bad
  | _ => .bad
@[simp] theorem ev_popAt (i : Nat) (f : Dn) (ρ : Rho) : gPopAt i f ρ = ownA ρ[i]? fun ds => oR (f ρ) ρ fun d => popO d ds ρ i := rfl
theorem eraseIdx_map' {α β : Type} (f : α → β) : ∀ (l : List α) (k : Nat), (l.map f).eraseIdx k = (l.eraseIdx k).map f
  | [], k => by cases k <;> rfl
  | a :: l, 0 => rfl
  | a :: l, k + 1 => by
    show f a :: (l.map f).eraseIdx k = f a :: (l.eraseIdx k).map f
    rw [eraseIdx_map' f l k]
@[simp] theorem flat_int (i : Int) : flat (.int i) = true := rfl
@[simp] theorem flat_bool (i : Bool) : flat (.bool i) = true := rfl
@[simp] theorem nx_bad {α β : Type} (k : α → R β) : nx .bad k = .bad := rfl
@[simp] theorem bLstR1_ok {n : Int} (h : rgOk 0 n = true) : bLstR1 (.int n) = .ok (li (rangeI 0 n)) := by
  have e : bLstR1 (.int n) = .ok (.list (lstRg 0 n)) := if_pos h
  rw [e]
  unfold lstRg li rangeI
  rw [List.map_map]; rfl
theorem rgOk_small {n : Int} (h : -1000 ≤ n) (h2 : n ≤ 100000) : rgOk 0 n = true := decide_eq_true ⟨by omega, by omega, by omega, by omega, by omega⟩
theorem cut_li (l : List Int) (k : Nat) (h : k ≤ l.length) : oCut (li l) (some (k : Int)) none = .ok (li (l.drop k)) := by
  show R.ok (PyData.list (cutD (l.map PyData.int) (some (k : Int)) none)) = _
  unfold cutD
  rw [HT.sIx_nat, HT.sIx_none, List.length_map, Nat.min_eq_left h, ← List.map_drop, List.take_of_length_le (by rw [List.length_map, List.length_drop]; omega)]
  rfl
end PD
set_option Elab.async false
set_option linter.all false
set_option maxRecDepth 100000
set_option maxHeartbeats 1000000
namespace PD
open PySem PySem.Spec PyProof.Rows L2
theorem okSort_ints (l : List Int) : okSort (l.map PyData.int) = true := by
  unfold okSort
  have h1 : allAlike (l.map PyData.int) = true := by
    unfold allAlike
    rw [List.all_eq_true]
    intro d hd
    rw [List.all_eq_true]
    intro e he
    obtain ⟨a, _, rfl⟩ := List.mem_map.mp hd
    obtain ⟨b, _, rfl⟩ := List.mem_map.mp he
    rw [PySem.W.alike]
  have h2 : allNot (l.map PyData.int) = true := by
    unfold allNot
    rw [List.all_eq_true]
    intro d hd
    obtain ⟨a, _, rfl⟩ := List.mem_map.mp hd
    rfl
  have h3 : ((l.map PyData.int).all fun d => decide (d.depth ≤ 60)) = true := by
    rw [List.all_eq_true]
    intro d hd
    obtain ⟨a, _, rfl⟩ := List.mem_map.mp hd
    exact decide_eq_true (Nat.zero_le _)
  rw [h1, h2, h3, Bool.or_true]; rfl
def sortI (l : List Int) : List Int := (sortD (l.map PyData.int)).map unInt
theorem sortD_ints (l : List Int) : sortD (l.map PyData.int) = (sortI l).map PyData.int ∧ (sortI l).Perm l := by
  have p : (sortD (l.map PyData.int)).Perm (l.map PyData.int) := List.mergeSort_perm _ _
  have all : ∀ d ∈ sortD (l.map PyData.int), PyData.int (unInt d) = d := fun d hd => by
    obtain ⟨a, _, rfl⟩ := List.mem_map.mp (p.subset hd)
    rfl
  refine ⟨?_, ?_⟩
  · unfold sortI
    rw [List.map_map]
    have e : ∀ l : List PyData, (∀ d ∈ l, PyData.int (unInt d) = d) → l.map (PyData.int ∘ unInt) = l := fun l h => by
      induction l with
      | nil => rfl
      | cons d r ih => rw [List.map_cons, ih fun x hx => h x (List.mem_cons_of_mem _ hx)]; show PyData.int (unInt d) :: r = _; rw [h d List.mem_cons_self]
    exact (e _ all).symm
  · have q := p.map unInt
    rw [List.map_map] at q
    have e : l.map (unInt ∘ PyData.int) = l := List.map_id'' (fun _ => rfl) l
    rw [e] at q
    exact q
@[simp] theorem bSorted_li (l : List Int) : bSorted [li l] = .ok (li (sortI l)) := by
  have e : bSorted [.list (l.map .int)] = .ok (.list (sortD (l.map .int))) := if_pos (okSort_ints l)
  rw [(sortD_ints l).1] at e
  exact e
@[simp] theorem bSorted_tu (l : List Int) : bSorted [tu l] = .ok (li (sortI l)) := by
  have e : bSorted [.tuple (l.map .int)] = .ok (.list (sortD (l.map .int))) := if_pos (okSort_ints l)
  rw [(sortD_ints l).1] at e
  exact e
theorem mem_sortI {l : List Int} {x : Int} : x ∈ sortI l ↔ x ∈ l := (sortD_ints l).2.mem_iff
@[simp] theorem asTu_tu (l : List Int) : asTu (tu l) = some l := asInts_ints l
theorem keysOf_keyD (ks : List (List Int)) : keysOf (ks.map keyD) = ks.map some := by
  unfold keysOf
  rw [List.map_map]
  exact List.map_congr_left fun k _ => asInts_ints k
@[simp] theorem oInT_tu (k : List Int) (ks : List (List Int)) : oInT (tu k) (.dict (ks.map keyD)) = .ok (.bool (decide (k ∈ ks))) := by
  show (match asTu (tu k) with | some k => R.ok (PyData.bool (decide (some k ∈ keysOf (ks.map keyD)))) | none => .bad) = _
  rw [asTu_tu, keysOf_keyD]
  show R.ok (PyData.bool (decide (some k ∈ ks.map some))) = _
  congr 2
  by_cases h : k ∈ ks <;> simp [h]
theorem forGo_find {α : Type} {enc : α → PyData} {i : Nat} {g : Sn} (S : Rho → Prop) (F : α → Option PyData) : ∀ {xs : List α}, (∀ x ∈ xs, ∀ ρ, S ρ → match F x with
      | some d => g (ρ.set i (some (.d (enc x)))) = .rt d
      | none => ∃ ρ', g (ρ.set i (some (.d (enc x)))) = .nx ρ' ∧ S ρ') →
    ∀ ρ, S ρ → match xs.findSome? F with
      | some d => forGo (.nm i) g (xs.map enc) ρ = .rt d
      | none => ∃ ρ', forGo (.nm i) g (xs.map enc) ρ = .nx ρ' ∧ S ρ'
  | [], _, ρ, h => ⟨ρ, rfl, h⟩
  | x :: xs, hs, ρ, h => by
    have e0 : forGo (.nm i) g ((x :: xs).map enc) ρ = (match g (ρ.set i (some (.d (enc x)))) with | .nx ρ => forGo (.nm i) g (xs.map enc) ρ | .ct ρ => forGo (.nm i) g (xs.map enc) ρ | .bk ρ => .nx ρ | o => o) := by
      rw [List.map_cons]
      conv => lhs; unfold forGo
      first | (rw [set_nm]; done) | (rw [set_nm]; rfl)
    have h1 := hs x List.mem_cons_self ρ h
    rw [List.findSome?_cons]
    cases e : F x with
    | some d =>
      rw [e] at h1
      show forGo (.nm i) g ((x :: xs).map enc) ρ = .rt d
      rw [e0, h1]
    | none =>
      rw [e] at h1
      obtain ⟨ρ1, e1, h2⟩ := h1
      have ih := forGo_find S F (xs := xs) (fun y hy => hs y (List.mem_cons_of_mem _ hy)) ρ1 h2
      rw [e0, e1]
      exact ih
@[simp] theorem oIx_t0 (a b c : PyData) : oIx (.tuple [a, b, c]) (.int 0) = .ok a := rfl
@[simp] theorem oIx_t1 (a b c : PyData) : oIx (.tuple [a, b, c]) (.int 1) = .ok b := rfl
@[simp] theorem oIx_t2 (a b c : PyData) : oIx (.tuple [a, b, c]) (.int 2) = .ok c := rfl
end PD
set_option Elab.async false
set_option linter.all false
set_option maxRecDepth 100000
set_option maxHeartbeats 1000000
namespace PD
open PySem PySem.Spec PyProof.Rows L2 NtL
theorem dataLt_tu : ∀ a b : List Int, PySem.W.dataLt (tu a) (tu b) = HT.lexLt a b
  | [], [] => by rfl
  | [], y :: b => by
    show PySem.W.dataLt (.tuple []) (.tuple (.int y :: b.map .int)) = true
    rw [PySem.W.dataLt_tuple]
    rfl
  | x :: a, [] => by
    show PySem.W.dataLt (.tuple (.int x :: a.map .int)) (.tuple []) = false
    rw [PySem.W.dataLt_tuple]
    rfl
  | x :: a, y :: b => by
    have ih := dataLt_tu a b
    show PySem.W.dataLt (.tuple (.int x :: a.map .int)) (.tuple (.int y :: b.map .int)) = _
    change PySem.W.dataLt (.tuple (a.map .int)) (.tuple (b.map .int)) = _ at ih
    rw [PySem.W.dataLt_tuple] at ih
    rw [PySem.W.dataLt_tuple, PySem.W.dataLt_cons (by rfl), ih, PySem.W.dataLt_int, HT.lexLt_cons]
    by_cases e : x = y
    · rw [if_pos e, if_pos (by subst e; simp [PyData.eqv])]
    · rw [if_neg e, if_neg (by simp [PyData.eqv, e])]
theorem leT_total (a b : List Int) : (leT a b || leT b a) = true := by
  unfold leT
  cases e : HT.lexLt b a with
  | false => rfl
  | true => rw [lex_asym b a e]; rfl
theorem leT_trans (a b c : List Int) (h1 : leT a b = true) (h2 : leT b c = true) : leT a c = true := by
  unfold leT at *
  have e1 : HT.lexLt b a = false := by simpa using h1
  have e2 : HT.lexLt c b = false := by simpa using h2
  rw [lex_tr a b c e1 e2]
  rfl
theorem lex_ne : ∀ a b : List Int, HT.lexLt a b = false → HT.lexLt b a = false → a = b
  | [], [], _, _ => rfl
  | [], _ :: _, h, _ => by cases h
  | _ :: _, [], _, h => by cases h
  | x :: a, y :: b, h1, h2 => by
    rw [HT.lexLt_cons] at h1 h2
    by_cases e : x = y
    · rw [if_pos e] at h1
      rw [if_pos e.symm] at h2
      rw [e, lex_ne a b h1 h2]
    · rw [if_neg e] at h1
      rw [if_neg (Ne.symm e)] at h2
      have a := of_decide_eq_false h1
      have b := of_decide_eq_false h2
      omega
theorem sortT_eq (ls : List (List Int)) : sortT ls = ls.mergeSort leT := by
  have h : sortD (ls.map tu) = (ls.mergeSort leT).map tu := by
    unfold sortD
    refine (List.map_mergeSort (f := tu) (r := leT) (s := PySem.W.dataLe false id) (l := ls) fun a _ b _ => ?_).symm
    show leT a b = !(PySem.W.dataLt (tu b) (tu a))
    rw [dataLt_tu]
    rfl
  unfold sortT
  rw [h, List.map_map]
  exact List.map_id'' (fun l => unTu_tu l) _
theorem sortT_le (ls : List (List Int)) : (sortT ls).Pairwise fun a b => leT a b = true := by
  rw [sortT_eq]
  exact List.pairwise_mergeSort leT_trans leT_total ls
/-- rows in strictly ascending order -/
def Asd (ls : List (List Int)) : Prop := ls.Pairwise fun a b => HT.lexLt a b = true
theorem asd_of {ls : List (List Int)} (h : ls.Pairwise fun a b => leT a b = true) (n : ls.Nodup) : Asd ls := by
  refine (h.and n).imp fun {a b} ⟨h1, h2⟩ => ?_
  cases e : HT.lexLt a b with
  | true => rfl
  | false =>
    unfold leT at h1
    exact absurd (lex_ne a b e (by simpa using h1)) h2
theorem asd_sortT {ls : List (List Int)} (n : ls.Nodup) : Asd (sortT ls) := asd_of (sortT_le ls) ((sortT_perm ls).nodup_iff.mpr n)
theorem lex_irr (a : List Int) : HT.lexLt a a = false := by
  cases e : HT.lexLt a a with
  | false => rfl
  | true =>
    have z := lex_asym a a e
    rw [e] at z
    exact z
theorem Asd.nodup {ls : List (List Int)} (h : Asd ls) : ls.Nodup := h.imp fun {a b} e z => by
  subst z
  rw [lex_irr] at e
  cases e
/-- a sorted list is told by what is in it -/
theorem asd_ext {ls ks : List (List Int)} (h : Asd ls) (k : Asd ks) (e : ∀ x, x ∈ ls ↔ x ∈ ks) : ls = ks := by
  refine List.Perm.eq_of_pairwise (le := fun a b => HT.lexLt a b = true) ?_ h k ((List.perm_ext_iff_of_nodup h.nodup k.nodup).mpr e)
  intro a b _ _ h1 h2
  rw [lex_asym a b h1] at h2
  cases h2
end PD
set_option Elab.async false
set_option linter.all false
set_option maxRecDepth 100000
set_option maxHeartbeats 1000000
namespace PD
open PySem PySem.Spec PyProof.Rows L2
end PD
set_option Elab.async false
set_option linter.all false
set_option maxRecDepth 100000
set_option maxHeartbeats 1000000
namespace PD
open PySem PySem.Spec PyProof.Rows L2
end PD
set_option Elab.async false
set_option linter.all false
set_option maxRecDepth 100000
set_option maxHeartbeats 1000000
namespace PD
open PySem PySem.Spec PyProof.Rows L2
end PD
set_option Elab.async false
set_option linter.all false
set_option maxRecDepth 100000
set_option maxHeartbeats 1000000
namespace PD
open PySem PySem.Spec PyProof.Rows L2
section
variable {X : Cx} {Tb : List Addr} {W : WX} {x : Str} {p pos : Pos} {m : List PyData → R PyData} {k j : Nat}
theorem e_call0 (F : FnD X.prog X.w X.K X.mg X.base Tb x k m) (hx : ∀ σ, PassesAt (L2N.CX X.prog X.w) X σ (L2.WE W σ)) (hr : Room j X.A) (hj : k ≤ j := by decide) (hg : Gl X x := by rfl)
    (hdb : (x == ("__debug__" : Str)) = false := by decide) : PE X (.Call (.Name x p) [] [] pos) (tD X.K Tb W (dArg m dNil)) := by
  obtain ⟨f, fd, ps, h, g, kp, b⟩ := F
  have step : PE X (.Call (.Name x p) [] [] pos) (tCallS (spD X.K Tb m) (L2.WE W) tNil) := ⟨fun pins s σ H Q I q =>
    wpAny_Call_Name_kw (ld_glob I hg g (PySem.W.callWith_K0 I.kIn kp (run_fnS (us := []) h (hr.mono hj) b (hx σ) I .nil q)) hdb)⟩
  exact step.by fun σ H Q ⟨H0, O0, O, ρ, st, h⟩ => ⟨O, [], st.al, st.tab, .nil, h⟩
end
end PD
set_option Elab.async false
set_option linter.all false
set_option maxRecDepth 100000
set_option maxHeartbeats 1000000
namespace PD
open PySem PySem.Spec PyProof.Rows L2
end PD
set_option Elab.async false
set_option linter.all false
set_option maxRecDepth 100000
set_option maxHeartbeats 2000000
namespace PDC
open PySem PySem.Spec
open Sem (wp)
theorem mro_cb : mroOf (.type "itertools.combinations") = pure [.type "itertools.combinations", .type "object"] := by rw [mroOf_type]; kernel_rfl
theorem lookup_cb_new : typeLookup (.type "itertools.combinations") "__new__" = pure (some (.builtin "itertools.combinations.__new__")) := by rw [typeLookup_type, builtinLookup_eq_fast]; kernel_rfl
theorem slot_cb_init : Slot "itertools.combinations" "__init__" "object.__init__" :=
  .of (owner := "object") (n := "__init__") (by rw [typeLookup_type, builtinLookup_eq_fast]; kernel_rfl) (by decide +kernel) (by decide +kernel) (by decide +kernel)
    (by first | exact .inl (by decide +kernel) | exact .inr (by decide +kernel)) (by rw [isSubtype_type]; kernel_rfl)
theorem sub_cb : isSubtype (.type "itertools.combinations") (.type "itertools.combinations") = pure true := by rw [isSubtype_type]; kernel_rfl
theorem called_cb : TypeCalled "itertools.combinations" "itertools.combinations.__new__" "object.__init__" :=
  ⟨by decide +kernel, by decide +kernel, ⟨_, _, mro_cb⟩, madeBy_type mro_cb lookup_cb_new (by decide +kernel), by decide +kernel, sub_cb, slot_cb_init⟩
theorem typeCall_cb (a b : Value) : checkTypeCall "itertools.combinations" ⟨[a, b], []⟩ = pure () := by kernel_rfl
theorem newCall_cb (a b : Value) : checkBuiltinCall "itertools.combinations.__new__" ⟨[.type "itertools.combinations", a, b], []⟩ = pure () := by kernel_rfl
theorem entry_cb_new : entryFor table "itertools.combinations.__new__" = some Builtin.«itertools.combinations.__new__» := entryFor_of_tree (by kernel_rfl)
theorem slot_cb_iter : Slot "itertools.combinations" "__iter__" "itertools.combinations.__iter__" :=
  .of (owner := "itertools.combinations") (n := "__iter__") (by rw [typeLookup_type, builtinLookup_eq_fast]; kernel_rfl) (by decide +kernel) (by decide +kernel) (by decide +kernel)
    (by first | exact .inl (by decide +kernel) | exact .inr (by decide +kernel)) sub_cb
theorem slot_cb_next : Slot "itertools.combinations" "__next__" "itertools.combinations.__next__" :=
  .of (owner := "itertools.combinations") (n := "__next__") (by rw [typeLookup_type, builtinLookup_eq_fast]; kernel_rfl) (by decide +kernel) (by decide +kernel) (by decide +kernel)
    (by first | exact .inl (by decide +kernel) | exact .inr (by decide +kernel)) sub_cb
theorem entry_cb_iter : entryFor table "itertools.combinations.__iter__" = some Builtin.«dict_keyiterator.__iter__» :=
  entryFor_alias (id' := "dict_keyiterator.__iter__") (by kernel_rfl) (by first | rfl | decide +kernel | (unfold String.splitOn; simp +decide [String.splitOnAux])) (by decide +kernel) (by kernel_rfl)
theorem entry_cb_next : entryFor table "itertools.combinations.__next__" = some Builtin.«itertools.combinations.__next__» := entryFor_of_tree (by kernel_rfl)
theorem owner_cb : Manifest.owners.lookup (String.ofList ['s', 'n', 'o', 'i', 't', 'a', 'n', 'i', 'b', 'm', 'o', 'c', '.', 's', 'l', 'o', 'o', 't', 'r', 'e', 't', 'i'].reverse) = some Manifest.sig_itertools_combinations := by kernel_rfl
theorem args_cb_iter (a : Value) : argsOk "itertools.combinations.__iter__" ⟨[a], []⟩ := by
  unfold argsOk; rw [signature?_of (id := "itertools.combinations.__iter__") (n := ['_', '_', 'r', 'e', 't', 'i', '_', '_']) (o := ['s', 'n', 'o', 'i', 't', 'a', 'n', 'i', 'b', 'm', 'o', 'c', '.', 's', 'l', 'o', 'o', 't', 'r', 'e', 't', 'i']) (by kernel_rfl) owner_cb]; kernel_rfl
theorem args_cb_next (a : Value) : argsOk "itertools.combinations.__next__" ⟨[a], []⟩ := by
  unfold argsOk; rw [signature?_of (id := "itertools.combinations.__next__") (n := ['_', '_', 't', 'x', 'e', 'n', '_', '_']) (o := ['s', 'n', 'o', 'i', 't', 'a', 'n', 'i', 'b', 'm', 'o', 'c', '.', 's', 'l', 'o', 'o', 't', 'r', 'e', 't', 'i']) (by kernel_rfl) owner_cb]; kernel_rfl
theorem noDict_cb : typeHasDict (.type "itertools.combinations") = false := by decide +kernel
theorem nolen_cb : typeLookup (.type "itertools.combinations") "__len__" = pure none := by rw [typeLookup_type, builtinLookup_eq_fast]; kernel_rfl
theorem nohint_cb : typeLookup (.type "itertools.combinations") "__length_hint__" = pure none := by rw [typeLookup_type, builtinLookup_eq_fast]; kernel_rfl
end PDC
set_option Elab.async false
set_option linter.all false
set_option maxRecDepth 100000
set_option maxHeartbeats 2000000
namespace PDC
open PySem PySem.Spec
open Sem (wp)
abbrev CbO (pool : Addr) (st : Int) (last : Value) (ix : List Nat) : Obj := { cls := .type "itertools.combinations", dict := none, data := .fields ([.ref pool, .int st 0, last] ++ ix.map fun (i : Nat) => rawInt i).toArray, slots := #[] }
abbrev TupO (vs : List Value) : Obj := { cls := .type "tuple", dict := none, data := .seq vs.toArray, slots := #[] }
def S_new (l : Addr) (vs : List Value) (r : Nat) : Spec := fun _ R s => s.heap.IsList l vs.toArray ∧ vs.length ≤ sizeLine ∧ ∀ h' P, (∀ b o, s.heap.get? b = some o → h'.get? b = some o) → s.heap.objs.size ≤ P → h'.get? P = some (TupO vs) → h'.get? (P + 1) = some (CbO P (if r > vs.length then 2 else 0) .none (List.range r)) → h'.objs.size = P + 2 → R (.ok (.ret (.ref (P + 1)))) { s with heap := h' }
theorem cb_heap {hp : Heap} {vs : List Value} {r : Nat} {h1 : Heap} (e1 : h1 = (hp.push (PyProof.Rows.seqObj "list" #[] 0)).update hp.objs.size (Obj.mapSeq fun x => x ++ vs.toArray)) {T Rc : Obj} (fT : T.isFreed = false) (fR : Rc.isFreed = false) :
    (∀ b o, hp.get? b = some o → ((h1.push T).push Rc).get? b = some o) ∧ hp.objs.size ≤ h1.objs.size ∧ ((h1.push T).push Rc).get? h1.objs.size = some T ∧ ((h1.push T).push Rc).get? (h1.objs.size + 1) = some Rc ∧ ((h1.push T).push Rc).objs.size = h1.objs.size + 2 ∧ (h1.push T).objs.size = h1.objs.size + 1 := by
  have es : (h1.push T).objs.size = h1.objs.size + 1 := Heap.size_push ..
  refine ⟨fun b o q => ?_, ?_, Heap.get?_push_of_some _ (Heap.get?_push_size _ fT), es ▸ Heap.get?_push_size _ fR, ?_, es⟩
  · refine Heap.get?_push_of_some _ (Heap.get?_push_of_some _ ?_)
    rw [e1]
    exact (Heap.get?_update_other _ _ (Ne.symm (Nat.ne_of_lt (Heap.lt_size q)))).trans (Heap.get?_push_of_some _ q)
  · rw [e1, Heap.size_update, Heap.size_push]; exact Nat.le_succ _
  · rw [Heap.size_push, es]
theorem cb_rest {prog : Program} {w : World} {A : Around} {R : Result → Shared → Prop} {s s1 : Shared} {vs : List Value} {r : Nat} (h1 : r ≤ 64) (hz : vs.length ≤ sizeLine)
    (e1 : s1 = { s with heap := (s.heap.push (PyProof.Rows.seqObj "list" #[] 0)).update s.heap.objs.size (Obj.mapSeq fun x => x ++ vs.toArray) })
    (h : ∀ h' P, (∀ b o, s.heap.get? b = some o → h'.get? b = some o) → s.heap.objs.size ≤ P → h'.get? P = some (TupO vs) → h'.get? (P + 1) = some (CbO P (if r > vs.length then 2 else 0) .none (List.range r)) → h'.objs.size = P + 2 → R (.ok (.ret (.ref (P + 1)))) { s with heap := h' }) :
    wpAny (model prog w) A (newTuple vs) (fun t s' => wpAny (model prog w) A (Builtin.Itertools.itNewRecord (.type "itertools.combinations") ([t, rawInt (if r > vs.length then 2 else 0), Value.none] ++ List.map (fun (i : Nat) => rawInt i) (List.range r))) (fun v s' => R (.ok (.ret v)) s') (fun e s' => R (.error e) s') s') (fun e s' => R (.error e) s') s1 := by
  refine wpAny_newTuple ?_ hz
  unfold Builtin.Itertools.itNewRecord
  refine wpAny_ite_true (by rw [noDict_cb]; rfl) ?_
  have q := cb_heap (hp := s.heap) (vs := vs) (r := r) (h1 := s1.heap) (by rw [e1]) (T := TupO vs) (Rc := CbO s1.heap.objs.size (if r > vs.length then 2 else 0) .none (List.range r)) rfl rfl
  refine wpAny_newObj_type ?_ ?_
  · have := h _ _ q.1 q.2.1 q.2.2.1 q.2.2.2.1 q.2.2.2.2.1
    rw [← q.2.2.2.2.2] at this
    subst e1
    exact this
  · show (List.toArray _).size ≤ sizeLine + 2
    rw [List.size_toArray, sizeLine_eq]
    simp
    omega
theorem meets_cb_new (l : Addr) (vs : List Value) (r : Nat) (t : Tok) (h1 : r ≤ 64) :
    Meets (Builtin.«itertools.combinations.__new__» ⟨[.type "itertools.combinations", .ref l, .int r t], []⟩) (S_new l vs r) :=
  .of_wp fun prog w A R s ⟨hl, hz, h⟩ => by
    have hsub : isSubtype (.type "itertools.combinations") (.type ("itertools." ++ "combinations")) = pure true := sub_cb
    have hd := noDict_cb
    have hn : ¬ ((decide ((r : Int) < -(2 ^ 63 : Int)) || decide ((r : Int) ≥ (2 ^ 63 : Int))) = true) := by
      have a : decide ((r : Int) < -(2 ^ 63 : Int)) = false := decide_eq_false (by omega)
      have b : decide ((r : Int) ≥ (2 ^ 63 : Int)) = false := decide_eq_false (by omega)
      rw [a, b]
      decide
    obtain ⟨hp, g, dd, tk, os⟩ := s
    repeat (first
      | (refine PyProof.Rows.collect_list hl ?_ hz)
      | wp_step
      | simp only [List.head?_cons, Option.some_or, List.getElem?_cons_succ, List.getElem?_cons_zero, List.length_cons, List.length_nil, List.forIn_nil]
      | (refine wpAny_ite_false (decide_eq_false hn) ?_))
    have ht : Builtin.Itertools.itTooMany (r : Int) = false := by
      unfold Builtin.Itertools.itTooMany
      exact decide_eq_false (by omega)
    refine wpAny_ite_false (decide_eq_false (by rw [ht]; decide)) ?_
    refine wpAny_bind (wpAny_mono (cb_rest h1 hz rfl h) (fun t s' q => ?_) fun _ _ z => z)
    refine wpAny_pure ?_
    refine wpAny_bind (wpAny_mono q (fun v s2 q => ?_) fun _ _ z => z)
    exact wpAny_pure ⟨_, rfl, q⟩
end PDC
set_option Elab.async false
set_option linter.all false
set_option maxRecDepth 100000
set_option maxHeartbeats 2000000
namespace PDC
open PySem PySem.Spec
open Sem (wp)
/-- the places that come behind these, of n -/
def nextC (n : Nat) (js : List Nat) : Option (List Nat) :=
  ((List.range js.length).reverse.find? fun k => js.getD k 0 != k + n - js.length).map fun k => js.take k ++ (List.range (js.length - k)).map (js.getD k 0 + 1 + ·)
def pickV (vs : List Value) (js : List Nat) : List Value := js.map fun j => vs.toArray.getD j .none
section
variable {prog : Program} {w : World} {A : Around} {E : Value → Shared → Prop} {s : Shared}
theorem wpAny_nums {it pool : Addr} {st : Int} {last : Value} {ix : List Nat} {Q : List Nat → Shared → Prop} (hit : s.heap.get? it = some (CbO pool st last ix)) (h : Q ix s) : wpAny (model prog w) A (Builtin.Itertools.itNumbersFrom (.ref it) 3) Q E s := by
  show wpAny _ _ (load it >>= _) _ _ s
  refine wpAny_bind (wpAny_load hit ?_)
  refine wpAny_pure ((congrArg (fun l => Q l s) ?_).mpr h)
  rw [List.toList_toArray]
  show ((ix.map fun (i : Nat) => rawInt i).map _) = ix
  rw [List.map_map]
  exact List.map_id'' (fun _ => rfl) ix
theorem wpAny_pool {pool : Addr} {vs : List Value} {Q : Array Value → Shared → Prop} (hp : s.heap.get? pool = some (TupO vs)) (h : Q vs.toArray s) : wpAny (model prog w) A (Builtin.Itertools.itPoolItems (.ref pool)) Q E s := by
  show wpAny _ _ (seqItems? (.ref pool) >>= _) _ _ s
  exact wpAny_bind (wpAny_seqItems hp rfl (wpAny_pure h))
theorem iter_cb {it pool : Addr} {st : Int} {last : Value} {ix : List Nat} {Q : Value → Shared → Prop} (hit : s.heap.get? it = some (CbO pool st last ix)) (h : Q (.ref it) s) : wpAny (model prog w) A (pyIter (.ref it)) Q E s := by
  have hT : s.TypeIs (.ref it) "itertools.combinations" := ⟨_, hit, rfl⟩
  refine wpAny_pyIter_slot hT slot_cb_iter (wpAny_call_entry slot_cb_iter hT entry_cb_iter ?_ (args_cb_iter _))
  show wpAny _ _ (ret (.ref it)) _ _ s
  exact wpAny_pure ⟨_, rfl, "itertools.combinations", _, hT, slot_cb_next.lookup, h⟩
theorem rec_st {pool : Addr} {st st' : Int} {last : Value} {ix : List Nat} : Obj.mapFields (fun x => x.setIfInBounds 1 (rawInt st')) (CbO pool st last ix) = CbO pool st' last ix := by
  unfold CbO Obj.mapFields
  simp [rawInt]
theorem rec_last {pool : Addr} {st : Int} {last last' : Value} {ix : List Nat} : Obj.mapFields (fun x => x.setIfInBounds 2 last') (CbO pool st last ix) = CbO pool st last' ix := by
  unfold CbO Obj.mapFields
  simp [rawInt]
theorem rec_ix {pool : Addr} {st : Int} {last : Value} {ix ix' : List Nat} : Obj.mapFields (fun fs => fs.extract 0 3 ++ (ix'.map fun (n : Nat) => rawInt n).toArray) (CbO pool st last ix) = CbO pool st last ix' := by
  unfold CbO Obj.mapFields
  simp [rawInt]
end
end PDC
set_option Elab.async false
set_option linter.all false
set_option maxRecDepth 100000
set_option maxHeartbeats 2000000
namespace PDC
open PySem PySem.Spec
open Sem (wp)
section
variable {prog : Program} {w : World} {A : Around} {E : Value → Shared → Prop} {s : Shared}
theorem next_is {n : Nat} {js : List Nat} : nextC n js = (match (List.range js.length).reverse.find? fun k => js.getD k 0 != k + n - js.length with
    | none => none
    | some k => some (js.take k ++ (List.range (js.length - k)).map (js.getD k 0 + 1 + ·))) := by
  unfold nextC
  cases (List.range js.length).reverse.find? fun k => js.getD k 0 != k + n - js.length <;> rfl
theorem cb_hand {it pool : Addr} {vs : List Value} {last : Value} {jx : List Nat} {Q : Fin → Shared → Prop} (hit : s.heap.get? it = some (CbO pool 1 last jx)) (hp : s.heap.get? pool = some (TupO vs)) (hz : jx.length ≤ sizeLine)
    (hQ : ∀ h', h'.get? it = some (CbO pool 1 (.ref s.heap.objs.size) jx) → h'.get? s.heap.objs.size = some (TupO (pickV vs jx)) → (∀ b o, b ≠ it → s.heap.get? b = some o → h'.get? b = some o) → Q (.done (.ret (.ref s.heap.objs.size))) { s with heap := h' }) :
    wpAny (model prog w) A ((Builtin.Itertools.itPoolItems (.ref pool) >>= fun items => newTuple (jx.map fun i => items.getD i .none)) >>= fun result => field (.ref it) 2 >>= fun before => setField (.ref it) 2 result >>= fun _ => letGo [before] [result] >>= fun _ => ret result) Q E s := by
  refine wpAny_bind (wpAny_bind (wpAny_pool hp (wpAny_newTuple ?_ (by rw [List.length_map]; exact hz))))
  have hit2 : (s.heap.push (TupO (pickV vs jx))).get? it = some (CbO pool 1 last jx) := Heap.get?_push_of_some _ hit
  refine wpAny_bind (wpAny_field hit2 rfl (x := last) rfl ?_)
  refine wpAny_bind (wpAny_setField hit2 rfl (by simp) ?_)
  refine wpAny_bind (wpAny_letGo ?_)
  refine wpAny_pure (hQ _ ?_ ?_ fun b o hb e => ?_)
  · have := Heap.get?_update_self (Obj.mapFields fun x => x.setIfInBounds 2 (.ref s.heap.objs.size)) hit2 rfl
    rw [rec_last] at this
    exact this
  · have q := Heap.get?_push_size (h := s.heap) (o := TupO (pickV vs jx)) rfl
    exact (Heap.get?_update_other _ _ (fun e : it = s.heap.objs.size => Nat.lt_irrefl _ (e ▸ Heap.lt_size hit))).trans q
  · exact (Heap.get?_update_other _ _ (Ne.symm hb)).trans (Heap.get?_push_of_some _ e)
theorem cb_item {it pool : Addr} {vs : List Value} {st : Int} {last : Value} {ix jx : List Nat} {Q : Option Value → Shared → Prop} (hit : s.heap.get? it = some (CbO pool st last ix)) (hp : s.heap.get? pool = some (TupO vs)) (hne : pool ≠ it) (hz : jx.length ≤ 64)
    (hx : (st = 0 ∧ jx = ix) ∨ (st = 1 ∧ nextC vs.length ix = some jx))
    (hQ : ∀ h', h'.get? it = some (CbO pool 1 (.ref s.heap.objs.size) jx) → h'.get? s.heap.objs.size = some (TupO (pickV vs jx)) → (∀ b o, b ≠ it → s.heap.get? b = some o → h'.get? b = some o) → Q (some (.ref s.heap.objs.size)) { s with heap := h' }) :
    wpAny (model prog w) A (pyNext (.ref it)) Q E s := by
  have hT : s.TypeIs (.ref it) "itertools.combinations" := ⟨_, hit, rfl⟩
  unfold pyNext
  refine wpAny_bind (wpAny_attempt (wpAny_callSpecial?_slot (name := Str.ofString "__next__") hT slot_cb_next (wpAny_call_entry slot_cb_next hT entry_cb_next ?_ (args_cb_next _))))
  show wpAny _ _ (field (.ref it) 0 >>= _) _ _ s
  refine wpAny_bind (wpAny_field hit rfl (x := .ref pool) rfl ?_)
  refine wpAny_bind (wpAny_nums hit ?_)
  refine wpAny_bind ?_
  show wpAny _ _ (field (.ref it) 1 >>= _) _ _ s
  refine wpAny_bind (wpAny_field hit rfl (x := .int st 0) rfl (wpAny_pure ?_))
  have hz2 : jx.length ≤ sizeLine := by rw [sizeLine_eq]; omega
  rcases hx with ⟨rfl, rfl⟩ | ⟨rfl, hj⟩
  · show wpAny _ _ (setField (.ref it) 1 (rawInt 1) >>= _) _ _ s
    refine wpAny_bind (wpAny_setField hit rfl (by simp) ?_)
    have hit2 := Heap.get?_update_self (Obj.mapFields fun x => x.setIfInBounds 1 (rawInt 1)) hit rfl
    rw [rec_st] at hit2
    have sz : (s.heap.update it (Obj.mapFields fun x => x.setIfInBounds 1 (rawInt 1))).objs.size = s.heap.objs.size := Heap.size_update ..
    refine cb_hand hit2 ((Heap.get?_update_other _ _ (Ne.symm hne)).trans hp) hz2 fun h' a b c => ?_
    have sz2 : ({ s with heap := s.heap.update it (Obj.mapFields fun x => x.setIfInBounds 1 (rawInt 1)) } : Shared).heap.objs.size = s.heap.objs.size := sz
    rw [sz2] at a b ⊢
    exact ⟨_, rfl, wpAny_pure (hQ h' a b fun x o hx e => c x o hx ((Heap.get?_update_other _ _ (Ne.symm hx)).trans e))⟩
  · show wpAny _ _ (Builtin.Itertools.itPoolItems (.ref pool) >>= _) _ _ s
    refine wpAny_bind (wpAny_pool hp ?_)
    split
    · rename_i nx heq
      have e2 : nextC vs.length ix = some nx := by
        rw [next_is]
        exact heq
      rw [hj] at e2
      cases e2
      show wpAny _ _ (updateFields it _ >>= _) _ _ s
      refine wpAny_bind (wpAny_updateFields hit rfl ?_ ?_)
      · have hit2 := Heap.get?_update_self (Obj.mapFields fun fs => fs.extract 0 3 ++ (jx.map fun (n : Nat) => rawInt n).toArray) hit rfl
        rw [rec_ix] at hit2
        have sz : (s.heap.update it (Obj.mapFields fun fs => fs.extract 0 3 ++ (jx.map fun (n : Nat) => rawInt n).toArray)).objs.size = s.heap.objs.size := Heap.size_update ..
        refine cb_hand hit2 ((Heap.get?_update_other _ _ (Ne.symm hne)).trans hp) hz2 fun h' a b c => ?_
        have sz2 : ({ s with heap := s.heap.update it (Obj.mapFields fun fs => fs.extract 0 3 ++ (jx.map fun (n : Nat) => rawInt n).toArray) } : Shared).heap.objs.size = s.heap.objs.size := sz
        rw [sz2] at a b ⊢
        exact ⟨_, rfl, wpAny_pure (hQ h' a b fun x o hx e => c x o hx ((Heap.get?_update_other _ _ (Ne.symm hx)).trans e))⟩
      · show (_ ++ _ : Array Value).size ≤ _
        rw [Array.size_append, sizeLine_eq]
        simp
        omega
    · rename_i heq
      have e2 : nextC vs.length ix = none := by
        rw [next_is]
        exact heq
      rw [hj] at e2
      cases e2
end
end PDC
set_option Elab.async false
set_option linter.all false
set_option maxRecDepth 100000
set_option maxHeartbeats 2000000
namespace PDC
open PySem PySem.Spec
open Sem (wp)
section
variable {prog : Program} {w : World} {A : Around} {E : Value → Shared → Prop} {s : Shared}
theorem cb_stop {it : Addr} {Q : Fin → Shared → Prop} (hh : A.handled = none) (hQ : ∀ e h', CpRep.StopE e h' → Heap.ExtBut it s.heap h' → E e { s with heap := h' }) :
    wpAny (model prog w) A (Builtin.Itertools.itStop : Sem Fin) Q E s := by
  show wpAny _ _ (newExc (.type "StopIteration") [] >>= _) _ _ _
  refine wpAny_bind ?_
  simp only [newExc, newTuple]
  refine wpAny_bind (wpAny_newObj_type ?_ (by size_fits))
  refine wpAny_bind (m := firstArgMember _ _) (wpAny_of_eq (a := Value.none) (by first | rfl | (simp only [firstArgMember]; rfl)) ?_)
  refine wpAny_newObj_type ?_ (by size_fits)
  simp only [raiseNew]
  refine wpAny_bind (wpAny_handled ?_)
  rw [hh]
  refine wpAny_bind (wpAny_pure (wpAny_throw ?_))
  exact hQ _ _ ⟨_, _, _, rfl, Heap.get?_push_size _ rfl, rfl, rfl, rfl⟩ (((Heap.ExtBut.refl it s.heap).push _).push _)
theorem cb_end {it pool : Addr} {vs : List Value} {st : Int} {last : Value} {ix : List Nat} {Q : Option Value → Shared → Prop} (hh : A.handled = none) (hit : s.heap.get? it = some (CbO pool st last ix)) (hp : s.heap.get? pool = some (TupO vs)) (hne : pool ≠ it)
    (hx : st = 2 ∨ (st = 1 ∧ nextC vs.length ix = none)) (hQ : ∀ h', (∀ b o, b ≠ it → s.heap.get? b = some o → h'.get? b = some o) → Q none { s with heap := h' }) :
    wpAny (model prog w) A (pyNext (.ref it)) Q E s := by
  have hT : s.TypeIs (.ref it) "itertools.combinations" := ⟨_, hit, rfl⟩
  unfold pyNext
  refine wpAny_bind (wpAny_attempt (wpAny_callSpecial?_slot (name := Str.ofString "__next__") hT slot_cb_next (wpAny_call_entry slot_cb_next hT entry_cb_next ?_ (args_cb_next _))))
  show wpAny _ _ (field (.ref it) 0 >>= _) _ _ s
  refine wpAny_bind (wpAny_field hit rfl (x := .ref pool) rfl ?_)
  refine wpAny_bind (wpAny_nums hit ?_)
  refine wpAny_bind ?_
  show wpAny _ _ (field (.ref it) 1 >>= _) _ _ s
  refine wpAny_bind (wpAny_field hit rfl (x := .int st 0) rfl (wpAny_pure ?_))
  rcases hx with rfl | ⟨rfl, hj⟩
  · show wpAny _ _ (rule "itertools.combinations.ended" >>= fun _ => Builtin.Itertools.itStop) _ _ s
    refine wpAny_bind (wpAny_rule ?_)
    refine cb_stop (it := it) hh fun e h' hs hx => ?_
    obtain ⟨a, o, vs, rfl, ho, hc, _, _⟩ := hs
    refine wpAny_bind (wpAny_isInstance (T := "StopIteration") (b := true) ⟨o, ho, hc⟩ isSubtype_stop ?_)
    exact wpAny_pure (hQ _ hx)
  · show wpAny _ _ (Builtin.Itertools.itPoolItems (.ref pool) >>= _) _ _ s
    refine wpAny_bind (wpAny_pool hp ?_)
    split
    · rename_i nx heq
      have e2 : nextC vs.length ix = some nx := by
        rw [next_is]
        exact heq
      rw [hj] at e2
      cases e2
    · show wpAny _ _ (setField (.ref it) 1 (rawInt 2) >>= fun _ => Builtin.Itertools.itStop) _ _ s
      refine wpAny_bind (wpAny_setField hit rfl (by simp) ?_)
      refine cb_stop (it := it) hh fun e h' hs hx => ?_
      obtain ⟨a, o, vs, rfl, ho, hc, _, _⟩ := hs
      refine wpAny_bind (wpAny_isInstance (T := "StopIteration") (b := true) ⟨o, ho, hc⟩ isSubtype_stop ?_)
      exact wpAny_pure (hQ _ fun b o hb e => hx b o hb ((Heap.get?_update_other _ _ (Ne.symm hb)).trans e))
end
/-- what is handed out from here on -/
inductive Seq (n : Nat) : Int → List Nat → List (List Nat) → Prop
  | first {ix : List Nat} {js : List (List Nat)} : ix.length ≤ 64 → Seq n 1 ix js → Seq n 0 ix (ix :: js)
  | next {ix jx : List Nat} {js : List (List Nat)} : jx.length ≤ 64 → nextC n ix = some jx → Seq n 1 jx js → Seq n 1 ix (jx :: js)
  | done {ix : List Nat} : nextC n ix = none → Seq n 1 ix []
  | none {ix : List Nat} : Seq n 2 ix []
def Above (n : Nat) (as : List Addr) : Prop := (∀ a ∈ as, n ≤ a) ∧ as.Pairwise (· < ·)
inductive Made (h : Heap) (vs : List Value) : List Addr → List (List Nat) → Prop
  | nil : Made h vs [] []
  | cons {a : Addr} {as : List Addr} {j : List Nat} {js : List (List Nat)} : h.get? a = some (TupO (pickV vs j)) → Made h vs as js → Made h vs (a :: as) (j :: js)
theorem Made.mono {h h' : Heap} {vs : List Value} {as : List Addr} {js : List (List Nat)} (m : Made h vs as js) (k : ∀ a ∈ as, ∀ o, h.get? a = some o → h'.get? a = some o) : Made h' vs as js := by
  induction m with
  | nil => exact .nil
  | cons e m ih => exact .cons (k _ List.mem_cons_self _ e) (ih fun a ha => k a (List.mem_cons_of_mem _ ha))
theorem loop_cb {prog : Program} {w : World} {A : Around} {R : Result → Shared → Prop} {it pool S : Addr} {vs : List Value} {res : Value} (hh : A.handled = none) (hne : pool ≠ it) (hSi : S ≠ it) (hSp : S ≠ pool) :
    ∀ {st : Int} {ix : List Nat} {js : List (List Nat)}, Seq vs.length st ix js → ∀ {s : Shared} {last : Value} {acc : Array Value} {c : Nat}, s.heap.get? it = some (CbO pool st last ix) → s.heap.get? pool = some (TupO vs) → s.heap.get? S = some { cls := .type "list", dict := none, data := .seq acc c, slots := #[] } → acc.size + js.length ≤ sizeLine →
    (∀ h' as c', (∀ b o, b ≠ it → b ≠ S → s.heap.get? b = some o → h'.get? b = some o) → h'.get? S = some { cls := .type "list", dict := none, data := .seq (acc ++ (as.map Value.ref).toArray) c', slots := #[] } → Made h' vs as js → Above s.heap.objs.size as → R (.ok (.ret res)) { s with heap := h' }) →
    codeAny (model prog w) A (.builtin "list.extend.loop" ⟨[.ref S, .ref it, res], []⟩) R s := by
  intro st ix js q
  have fin : ∀ {s : Shared} {last : Value} {acc : Array Value} {c : Nat} {st : Int} {ix : List Nat}, s.heap.get? it = some (CbO pool st last ix) → s.heap.get? pool = some (TupO vs) → s.heap.get? S = some { cls := .type "list", dict := none, data := .seq acc c, slots := #[] } → (st = 2 ∨ (st = 1 ∧ nextC vs.length ix = none)) →
    (∀ h' as c', (∀ b o, b ≠ it → b ≠ S → s.heap.get? b = some o → h'.get? b = some o) → h'.get? S = some { cls := .type "list", dict := none, data := .seq (acc ++ (as.map Value.ref).toArray) c', slots := #[] } → Made h' vs as [] → Above s.heap.objs.size as → R (.ok (.ret res)) { s with heap := h' }) →
    codeAny (model prog w) A (.builtin "list.extend.loop" ⟨[.ref S, .ref it, res], []⟩) R s := fun {s last acc c st ix} hit hp hS hx hR => by
    refine codeAny_builtin F.entry_extend_loop ?_
    rw [Around.under_plainId F.plain_extend_loop _]
    show wpAny _ A.in1 (pyNext (.ref it) >>= _) _ _ s
    refine wpAny_bind (cb_end (A := A.in1) hh hit hp hne hx fun h' k => ?_)
    exact wpAny_pure (hR h' [] c (fun b o hb _ e => k b o hb e) (by simpa using k S _ hSi hS) .nil ⟨by simp, .nil⟩)
  have step : ∀ {s : Shared} {last : Value} {acc : Array Value} {c : Nat} {st : Int} {ix jx : List Nat} {js : List (List Nat)}, s.heap.get? it = some (CbO pool st last ix) → s.heap.get? pool = some (TupO vs) → s.heap.get? S = some { cls := .type "list", dict := none, data := .seq acc c, slots := #[] } → acc.size + (js.length + 1) ≤ sizeLine → jx.length ≤ 64 →
    ((st = 0 ∧ jx = ix) ∨ (st = 1 ∧ nextC vs.length ix = some jx)) →
    (∀ {s : Shared} {last : Value} {acc : Array Value} {c : Nat}, s.heap.get? it = some (CbO pool 1 last jx) → s.heap.get? pool = some (TupO vs) → s.heap.get? S = some { cls := .type "list", dict := none, data := .seq acc c, slots := #[] } → acc.size + js.length ≤ sizeLine →
      (∀ h' as c', (∀ b o, b ≠ it → b ≠ S → s.heap.get? b = some o → h'.get? b = some o) → h'.get? S = some { cls := .type "list", dict := none, data := .seq (acc ++ (as.map Value.ref).toArray) c', slots := #[] } → Made h' vs as js → Above s.heap.objs.size as → R (.ok (.ret res)) { s with heap := h' }) →
      codeAny (model prog w) A (.builtin "list.extend.loop" ⟨[.ref S, .ref it, res], []⟩) R s) →
    (∀ h' as c', (∀ b o, b ≠ it → b ≠ S → s.heap.get? b = some o → h'.get? b = some o) → h'.get? S = some { cls := .type "list", dict := none, data := .seq (acc ++ (as.map Value.ref).toArray) c', slots := #[] } → Made h' vs as (jx :: js) → Above s.heap.objs.size as → R (.ok (.ret res)) { s with heap := h' }) →
    codeAny (model prog w) A (.builtin "list.extend.loop" ⟨[.ref S, .ref it, res], []⟩) R s := fun {s last acc c st ix jx js} hit hp hS hn hz hx ih hR => by
    refine codeAny_builtin F.entry_extend_loop ?_
    rw [Around.under_plainId F.plain_extend_loop _]
    show wpAny _ A.in1 (pyNext (.ref it) >>= _) _ _ s
    refine wpAny_bind (cb_item (A := A.in1) hit hp hne hz hx fun h1 a1 a2 k1 => ?_)
    have hS' := k1 S _ hSi hS
    show wpAny _ A.in1 (updateSeq S (·.push (.ref s.heap.objs.size)) >>= _) _ _ _
    refine wpAny_bind ?_
    have lS := Heap.lt_size hS
    have nS : S ≠ s.heap.objs.size := Nat.ne_of_lt lS
    have szle : s.heap.objs.size < (h1.update S (Obj.mapSeq (·.push (.ref s.heap.objs.size)))).objs.size := by
      rw [Heap.size_update]
      exact Heap.lt_size a2
    refine wpAny_updateSeq hS' rfl (wpAny_pure ⟨plainId_quiet F.plain_extend_loop _, ih (s := { s with heap := h1.update S (Obj.mapSeq (·.push (.ref s.heap.objs.size))) }) (acc := acc.push (.ref s.heap.objs.size)) ((Heap.get?_update_other _ _ hSi).trans a1) ((Heap.get?_update_other _ _ hSp).trans (k1 _ _ hne hp)) (Heap.get?_update_self _ hS' rfl) (by rw [Array.size_push]; omega) fun h' as c' k hS2 m bd => ?_⟩) (by omega) (by show (acc.push _).size ≤ sizeLine + 1; rw [Array.size_push]; omega)
    refine hR h' (s.heap.objs.size :: as) c' (fun b o hb hbS e => k b o hb hbS ((Heap.get?_update_other _ _ (Ne.symm hbS)).trans (k1 b o hb e))) ?_ (.cons (k _ _ (fun e => Nat.lt_irrefl _ (e ▸ Heap.lt_size hit)) (fun e => nS e.symm) ((Heap.get?_update_other _ _ nS).trans a2)) m) ⟨fun a ha => ?_, List.pairwise_cons.mpr ⟨fun a ha => Nat.lt_of_lt_of_le szle (bd.1 a ha), bd.2⟩⟩
    · rw [hS2]
      congr 2
      simp
    · rcases List.mem_cons.mp ha with rfl | ha
      · exact Nat.le_refl _
      · exact Nat.le_trans (Nat.le_of_lt szle) (bd.1 a ha)
  induction q with
  | first hz q ih => exact fun hit hp hS hn hR => step hit hp hS (by simpa [Nat.add_assoc] using hn) hz (.inl ⟨rfl, rfl⟩) ih hR
  | next hz e q ih => exact fun hit hp hS hn hR => step hit hp hS (by simpa [Nat.add_assoc] using hn) hz (.inr ⟨rfl, e⟩) ih hR
  | done e => exact fun hit hp hS hn hR => fin hit hp hS (.inr ⟨rfl, e⟩) hR
  | none => exact fun hit hp hS hn hR => fin hit hp hS (.inl rfl) hR
end PDC
set_option Elab.async false
set_option linter.all false
set_option maxRecDepth 100000
set_option maxHeartbeats 2000000
namespace PDC
open PySem PySem.Spec
open Sem (wp)
section
variable {prog : Program} {w : World} {A : Around} {s : Shared} {R : Result → Shared → Prop} {it pool : Addr} {vs : List Value} {st : Int} {last : Value} {ix : List Nat} {js : List (List Nat)}
theorem extend_cb (hh : A.handled = none) (hit : s.heap.get? it = some (CbO pool st last ix)) (hp : s.heap.get? pool = some (TupO vs)) (hne : pool ≠ it) (q : Seq vs.length st ix js) (hn : js.length ≤ sizeLine) (S : Addr) (res : Value) (c₀ : Nat) (hSi : S ≠ it) (hSp : S ≠ pool)
    (hS : s.heap.get? S = some { cls := .type "list", data := .seq #[] c₀ })
    (hR : ∀ h' as c', (∀ b o, b ≠ it → b ≠ S → s.heap.get? b = some o → h'.get? b = some o) → h'.get? S = some { cls := .type "list", dict := none, data := .seq (as.map Value.ref).toArray c', slots := #[] } → Made h' vs as js → Above s.heap.objs.size as → R (.ok (.ret res)) { s with heap := h' }) :
    wpAny (model prog w) A.in1 (Builtin.List.listExtendWith (.ref S) (.ref it) res)
      (fun fin s' => match fin with | .done f => R (.ok f) s' | .again c' => c'.quiet = true ∧ codeAny (model prog w) A c' R s') (fun e s' => R (.error e) s') s := by
  have hT : s.TypeIs (.ref it) "itertools.combinations" := ⟨_, hit, rfl⟩
  unfold Builtin.List.listExtendWith
  refine wpAny_bind (wpAny_typeOf hT ?_)
  have h1 : Builtin.List.listSameRef (.ref S) (.ref it) = false := by simp [Builtin.List.listSameRef, hSi]
  have h2 : (Value.type "itertools.combinations" == Value.type "list") = false := by decide
  have h3 : (Value.type "itertools.combinations" == Value.type "tuple") = false := by decide
  simp only [h1, h2, h3, Bool.or_false, Bool.false_eq_true, if_false]
  refine wpAny_bind (iter_cb hit ?_)
  refine wpAny_bind (wpAny_holding ?_)
  unfold Builtin.List.listLengthHint
  refine wpAny_bind (wpAny_specialOf hT nolen_cb ?_)
  show wpAny _ A.in1 (specialOf (Value.ref it) (Str.ofString "__length_hint__") >>= _) _ _ _
  refine wpAny_bind (wpAny_specialOf hT nohint_cb ?_)
  refine wpAny_pure ?_
  show wpAny _ A.in1 (rule "list.extend.makes-room" >>= fun _ => Builtin.List.listTouch (.ref S) >>= fun _ =>
    again (.builtin "list.extend.loop" ⟨[.ref S, .ref it, res], []⟩)) _ _ _
  refine wpAny_bind (wpAny_rule ?_)
  refine wpAny_bind ?_
  show wpAny _ A.in1 (updateSeq S (·.push .none) >>= fun _ => updateSeq S (·.pop)) _ _ _
  refine wpAny_bind (wpAny_updateSeq hS rfl ?_)
  have hS₂ := Heap.get?_update_self (Obj.mapSeq (·.push Value.none)) hS rfl
  refine wpAny_updateSeq (hz := by seq_fits) hS₂ rfl ?_
  have hS₃ := Heap.get?_update_self (Obj.mapSeq (·.pop)) hS₂ rfl
  have oth : ∀ b o, b ≠ S → s.heap.get? b = some o → ((s.heap.update S (Obj.mapSeq (·.push Value.none))).update S (Obj.mapSeq (·.pop))).get? b = some o :=
    fun b o hb e => (Heap.get?_update_other _ _ (Ne.symm hb)).trans ((Heap.get?_update_other _ _ (Ne.symm hb)).trans e)
  have sz : ((s.heap.update S (Obj.mapSeq (·.push Value.none))).update S (Obj.mapSeq (·.pop))).objs.size = s.heap.objs.size := by rw [Heap.size_update, Heap.size_update]
  refine wpAny_pure ⟨plainId_quiet F.plain_extend_loop _, loop_cb (vs := vs) (js := js) hh hne hSi hSp q (s := { s with heap := (s.heap.update S (Obj.mapSeq (·.push Value.none))).update S (Obj.mapSeq (·.pop)) }) (oth _ _ hSi.symm hit) (oth _ _ hSp.symm hp) hS₃ (by simpa using hn) fun h' as c' k hS' m bd => ?_⟩
  exact hR h' as c' (fun b o hb hbS e => k b o hb hbS (oth b o hbS e)) (by simpa using hS') m (by rwa [show ({ s with heap := (s.heap.update S (Obj.mapSeq (·.push Value.none))).update S (Obj.mapSeq (·.pop)) } : Shared).heap.objs.size = s.heap.objs.size from sz] at bd)
theorem list_init_cb (hh : A.handled = none) (hit : s.heap.get? it = some (CbO pool st last ix)) (hp : s.heap.get? pool = some (TupO vs)) (hne : pool ≠ it) (q : Seq vs.length st ix js) (hn : js.length ≤ sizeLine) (S : Addr) (hSi : S ≠ it) (hSp : S ≠ pool)
    (hS : s.heap.get? S = some { cls := .type "list", data := .seq #[] })
    (hR : ∀ h' as c', (∀ b o, b ≠ it → b ≠ S → s.heap.get? b = some o → h'.get? b = some o) → h'.get? S = some { cls := .type "list", dict := none, data := .seq (as.map Value.ref).toArray c', slots := #[] } → Made h' vs as js → Above s.heap.objs.size as → R (.ok (.ret .none)) { s with heap := h' }) :
    wpAny (model prog w) A.in1 (Builtin.«list.__init__» ⟨[.ref S, .ref it], []⟩)
      (fun fin s' => match fin with | .done f => R (.ok f) s' | .again c' => c'.quiet = true ∧ codeAny (model prog w) A c' R s') (fun e s' => R (.error e) s') s := by
  show wpAny _ A.in1 (do let old ← Builtin.List.listItems (.ref S); Builtin.List.listUpdate (.ref S) (fun _ => #[]); letGo old.toList.reverse; Builtin.List.listExtendWith (.ref S) (.ref it) .none) _ _ s
  refine wpAny_bind ?_
  unfold Builtin.List.listItems
  refine wpAny_bind (wpAny_seqItems hS rfl (wpAny_pure ?_))
  show wpAny _ A.in1 (updateSeq S (fun _ => #[]) >>= fun _ => letGo (#[] : Array Value).toList.reverse >>= fun _ => Builtin.List.listExtendWith (.ref S) (.ref it) .none) _ _ s
  refine wpAny_bind (wpAny_updateSeq hS rfl ?_)
  have hS₂ := Heap.get?_update_self (Obj.mapSeq (fun _ => (#[] : Array Value))) hS rfl
  have oth : ∀ b o, b ≠ S → s.heap.get? b = some o → (s.heap.update S (Obj.mapSeq (fun _ => (#[] : Array Value)))).get? b = some o :=
    fun b o hb e => (Heap.get?_update_other _ _ (Ne.symm hb)).trans e
  have sz : (s.heap.update S (Obj.mapSeq (fun _ => (#[] : Array Value)))).objs.size = s.heap.objs.size := by rw [Heap.size_update]
  refine wpAny_bind (wpAny_letGo ?_)
  refine extend_cb (vs := vs) (js := js) hh (oth _ _ hSi.symm hit) (oth _ _ hSp.symm hp) hne q hn S .none _ hSi hSp hS₂ fun h' as c' k hS' m bd => ?_
  exact hR h' as c' (fun b o hb hbS e => k b o hb hbS (oth b o hbS e)) hS' m (by rwa [show ({ s with heap := s.heap.update S (Obj.mapSeq (fun _ => (#[] : Array Value))) } : Shared).heap.objs.size = s.heap.objs.size from sz] at bd)
end
theorem call_list_cb {prog : Program} {w : World} {A : Around} {E : Value → Shared → Prop} {s : Shared} {it pool : Addr} {vs : List Value} {st : Int} {last : Value} {ix : List Nat} {js : List (List Nat)} {Q : Value → Shared → Prop} (hh : A.handled = none) (hit : s.heap.get? it = some (CbO pool st last ix)) (hp : s.heap.get? pool = some (TupO vs)) (hne : pool ≠ it) (q : Seq vs.length st ix js) (hn : js.length ≤ sizeLine)
    (hQ : ∀ h' as c', (∀ b o, b ≠ it → s.heap.get? b = some o → h'.get? b = some o) → h'.get? s.heap.objs.size = some { cls := .type "list", dict := none, data := .seq (as.map Value.ref).toArray c', slots := #[] } → Made h' vs as js → Above (s.heap.objs.size + 1) as → Q (.ref s.heap.objs.size) { s with heap := h' }) :
    wpAny (model prog w) A (call (.type "list") [.ref it]) Q E s := by
  refine callType_codes (Q₁ := fun obj s₁ => obj = .ref s.heap.objs.size ∧ s₁ = { s with heap := s.heap.push { cls := .type "list", data := .seq #[] } }) F.called_list (F.typeCall_list_1 _) F.entry_list_init
    (code_list_new _ ⟨rfl, rfl⟩) fun obj s₁ h₁ => ?_
  obtain ⟨rfl, rfl⟩ := h₁
  have hS : (s.heap.push { cls := .type "list", data := .seq #[] }).get? s.heap.objs.size = some { cls := .type "list", data := .seq #[] } := Heap.get?_push_size _ rfl
  have nS : ∀ b o, s.heap.get? b = some o → b ≠ s.heap.objs.size := fun b o e => Nat.ne_of_lt (Heap.lt_size e)
  have sz : (s.heap.push { cls := .type "list", data := .seq #[] }).objs.size = s.heap.objs.size + 1 := Heap.size_push ..
  refine ⟨⟨_, hS, rfl⟩, F.args_list_init_2 _ _, list_init_cb (A := A.in1) (s := { s with heap := s.heap.push { cls := .type "list", data := .seq #[] } }) (vs := vs) (js := js) (show A.in1.handled = none from hh) (Heap.get?_push_of_some _ hit) (Heap.get?_push_of_some _ hp) hne q hn _ (nS _ _ hit).symm (nS _ _ hp).symm hS fun h' as c' k hS' m bd => ?_⟩
  exact ⟨rfl, hQ h' as c' (fun b o hb e => k b o hb (nS _ _ e) (Heap.get?_push_of_some _ e)) hS' m (by rw [show ({ s with heap := s.heap.push { cls := .type "list", data := .seq #[] } } : Shared).heap.objs.size = s.heap.objs.size + 1 from sz] at bd; exact bd)⟩
/-- list(combinations(l, r)) -/
theorem call_comb {prog : Program} {w : World} {A : Around} {E : Value → Shared → Prop} {s : Shared} {l : Addr} {vs : List Value} {r : Nat} {t : Tok} {Q : Value → Shared → Prop} (hl : s.heap.IsList l vs.toArray) (hz : vs.length ≤ sizeLine) (h1 : r ≤ 64)
    (hQ : ∀ h' P, (∀ b o, s.heap.get? b = some o → h'.get? b = some o) → s.heap.objs.size ≤ P → h'.get? P = some (TupO vs) → h'.get? (P + 1) = some (CbO P (if r > vs.length then 2 else 0) .none (List.range r)) → h'.objs.size = P + 2 → Q (.ref (P + 1)) { s with heap := h' }) :
    wpAny (model prog w) A (call (.type "itertools.combinations") [.ref l, .int r t]) Q E s := by
  refine callType_new called_cb (by decide +kernel) (typeCall_cb _ _) (newCall_cb _ _) (fun obj => F.args_object_init_3 obj _ _) entry_cb_new (meets_cb_new l vs r t h1) ?_
  exact ⟨hl, hz, fun h' P k le a b sz => ⟨⟨_, b, rfl⟩, hQ h' P k le a b sz⟩⟩
end PDC
set_option Elab.async false
set_option linter.all false
set_option maxRecDepth 100000
set_option maxHeartbeats 2000000
namespace PD
open PySem PySem.Spec PyProof.Rows L2 PDC
def combs {α : Type} : Nat → List α → List (List α)
  | 0, _ => [[]]
  | _ + 1, [] => []
  | r + 1, x :: xs => (combs r xs).map (x :: ·) ++ combs (r + 1) xs
theorem combs_map {α β : Type} (f : α → β) : ∀ (r : Nat) (l : List α), combs r (l.map f) = (combs r l).map (List.map f)
  | 0, l => by cases l <;> rfl
  | r + 1, [] => rfl
  | r + 1, x :: xs => by
    rw [List.map_cons]
    unfold combs
    rw [combs_map f r xs, combs_map f (r + 1) xs, List.map_append, List.map_map, List.map_map]
    rfl
theorem combs_sub {α : Type} : ∀ {r : Nat} {l js : List α}, js ∈ combs r l → js.Sublist l ∧ js.length = r
  | 0, l, js, h => by
    have : js ∈ [([] : List α)] := by cases l <;> exact h
    rw [List.mem_singleton.mp this]
    exact ⟨List.nil_sublist _, rfl⟩
  | r + 1, [], js, h => by cases h
  | r + 1, x :: xs, js, h => by
    unfold combs at h
    rcases List.mem_append.mp h with h | h
    · obtain ⟨k, hk, rfl⟩ := List.mem_map.mp h
      have := combs_sub hk
      exact ⟨this.1.cons₂ x, by simp [this.2]⟩
    · have := combs_sub h
      exact ⟨this.1.cons x, this.2⟩
def seqB (n : Nat) : List Nat → List (List Nat) → Bool
  | ix, [] => decide (nextC n ix = none)
  | ix, j :: js => decide (nextC n ix = some j) && (decide (j.length ≤ 64) && seqB n j js)
theorem seqB_ok {n : Nat} : ∀ {js : List (List Nat)} {ix : List Nat}, seqB n ix js = true → Seq n 1 ix js
  | [], ix, h => .done (of_decide_eq_true h)
  | j :: js, ix, h => by
    unfold seqB at h
    rw [Bool.and_eq_true, Bool.and_eq_true] at h
    exact .next (of_decide_eq_true h.2.1) (of_decide_eq_true h.1) (seqB_ok h.2.2)
def combOk (n r : Nat) : Bool := if r > n then decide (combs r (List.range n) = []) else match combs r (List.range n) with
  | [] => false
  | j :: js => decide (j = List.range r) && seqB n j js
theorem combOk_all : ∀ n, n < 9 → ∀ r, r < 9 → combOk n r = true := by decide +kernel
theorem comb_seq {n r : Nat} (hn : n ≤ 8) (hr : r ≤ 8) : Seq n (if r > n then 2 else 0) (List.range r) (combs r (List.range n)) := by
  have h := combOk_all n (by omega) r (by omega)
  unfold combOk at h
  by_cases q : r > n
  · rw [if_pos q] at h ⊢
    rw [of_decide_eq_true h]
    exact .none
  · rw [if_neg q] at h ⊢
    cases e : combs r (List.range n) with
    | nil => rw [e] at h; cases h
    | cons j js =>
      rw [e] at h
      dsimp only at h
      rw [Bool.and_eq_true] at h
      have e2 := of_decide_eq_true h.1
      subst e2
      exact .first (by rw [List.length_range]; omega) (seqB_ok h.2)
theorem combs_len {n r : Nat} (hn : n ≤ 8) (hr : r ≤ 8) : (combs r (List.range n)).length ≤ 256 := by
  have h : ∀ n, n < 9 → ∀ r, r < 9 → decide ((combs r (List.range n)).length ≤ 256) = true := by decide +kernel
  exact of_decide_eq_true (h n (by omega) r (by omega))
def bComb : PyData → PyData → R PyData
  | .list ds, .int r => if decide (ds.length ≤ 8 ∧ 0 ≤ r ∧ r ≤ 8) = true then .ok (.list ((combs r.toNat ds).map .tuple)) else .bad
  | _, _ => .bad
def updL (H : Hp) : List (Addr × HO) → Hp
  | [] => H
  | p :: L => updL (upd H p.1 p.2) L
theorem updL_out {L : List (Addr × HO)} : ∀ {H : Hp} {b : Addr}, b ∉ L.map (·.1) → updL H L b = H b := by
  induction L with
  | nil => intro H b _; rfl
  | cons p L ih =>
    intro H b hb
    rw [List.map_cons, List.mem_cons, not_or] at hb
    show updL (upd H p.1 p.2) L b = _
    rw [ih hb.2, upd_ne hb.1]
theorem updL_in {L : List (Addr × HO)} : ∀ {H : Hp}, (L.map (·.1)).Nodup → ∀ p ∈ L, updL H L p.1 = some p.2 := by
  induction L with
  | nil => intro H _ p hp; cases hp
  | cons q L ih =>
    intro H nd p hp
    rw [List.map_cons, List.nodup_cons] at nd
    rcases List.mem_cons.mp hp with rfl | hp
    · show updL (upd H p.1 p.2) L p.1 = _
      rw [updL_out nd.1, upd_same]
    · exact ih nd.2 p hp
theorem updL_ext {L : List (Addr × HO)} : ∀ {H : Hp}, (L.map (·.1)).Nodup → (∀ p ∈ L, H p.1 = none) → Ext H (updL H L) := by
  induction L with
  | nil => intro H _ _; exact .refl _
  | cons q L ih =>
    intro H nd hn
    rw [List.map_cons, List.nodup_cons] at nd
    refine (Ext.new (o := q.2) (hn q List.mem_cons_self)).trans (ih nd.2 fun p hp => ?_)
    rw [upd_ne (fun e => nd.1 (List.mem_map.mpr ⟨p, hp, e⟩))]
    exact hn p (List.mem_cons_of_mem _ hp)
theorem lay_many {X : Cx} {pins : List (Addr × Obj)} {σ : L2.St} {h2 : Heap} {s : Shared} : ∀ (L : List (Addr × HO)), (L.map (·.1)).Nodup → (∀ p ∈ L, ∀ (H' : Hp) (G : Heap), (∀ o, h2.get? p.1 = some o → G.get? p.1 = some o) → ObjOk X.prog X.w H' G p.1 p.2) →
    ∀ {G : Heap} {H : Hp}, Inv X pins σ H { s with heap := G } → (∀ b o, G.get? b = some o → h2.get? b = some o) → (∀ p ∈ L, G.get? p.1 = none ∧ H p.1 = none) → Inv X pins σ (updL H L) { s with heap := h2 }
  | [], _, _, G, H, I, sub, _ => I.kept (t' := s.toks) sub
  | q :: L, nd, ok, G, H, I, sub, fr => by
    rw [List.map_cons, List.nodup_cons] at nd
    obtain ⟨G2, g1, g2⟩ := restrict h2 fun b => decide (b = q.1 ∨ G.get? b ≠ none)
    have f := fr q List.mem_cons_self
    have I2 : Inv X pins σ (upd H q.1 q.2) { s with heap := G2 } := by
      refine Inv.laidN (s := { s with heap := G }) (h' := G2) (t' := s.toks) I (fun b u e => ?_) f.1 f.2 (ok q List.mem_cons_self _ _ fun o e => ?_)
      · rw [g1 b (decide_eq_true (.inr (by rw [show G.get? b = some u from e]; simp)))]
        exact sub b u e
      · rw [g1 q.1 (decide_eq_true (.inl rfl))]; exact e
    refine lay_many L nd.2 (fun p hp => ok p (List.mem_cons_of_mem _ hp)) I2 (fun b o e => ?_) fun p hp => ?_
    · by_cases z : b = q.1 ∨ G.get? b ≠ none
      · rw [g1 b (decide_eq_true z)] at e; exact e
      · rw [g2 b (decide_eq_false z)] at e; cases e
    · have np : p.1 ≠ q.1 := fun e => nd.1 (List.mem_map.mpr ⟨p, hp, e⟩)
      have fp := fr p (List.mem_cons_of_mem _ hp)
      refine ⟨g2 p.1 (decide_eq_false fun z => z.elim np fun z => z fp.1), ?_⟩
      rw [upd_ne np]
      exact fp.2
end PD
set_option Elab.async false
set_option linter.all false
set_option maxRecDepth 100000
set_option maxHeartbeats 1000000
namespace PD
open PySem PySem.Spec PyProof.Rows L2 PDC
def pickY (ys : List V) (js : List Nat) : List V := js.map fun j => (ys[j]?).getD .non
theorem vals_pick {ys : List V} {vs : List Value} (r : Vals ys vs) : ∀ {js : List Nat}, (∀ j ∈ js, j < ys.length) → Vals (pickY ys js) (pickV vs js)
  | [], _ => .nil
  | j :: js, h => by
    have hj := h j List.mem_cons_self
    obtain ⟨u, hu, rv⟩ := r.get (List.getElem?_eq_getElem hj)
    refine .cons ?_ (vals_pick r fun i hi => h i (List.mem_cons_of_mem _ hi))
    have e1 : (ys[j]?).getD .non = ys[j] := by rw [List.getElem?_eq_getElem hj]; rfl
    have hl : j < vs.length := (List.getElem?_eq_some_iff.mp hu).1
    have e2 : vs.toArray.getD j .none = u := by
      have e3 := (List.getElem?_eq_some_iff.mp hu).2
      simp [Array.getD, hl, e3]
    show L2.RelV ((ys[j]?).getD .non) (vs.toArray.getD j .none)
    rw [e1, e2]
    exact rv
theorem rp_pick {K : PySem.W.Frag} {G : Hp} {ys : List V} {ds : List PyData} (r : RpAll K G ys ds) : ∀ {js : List Nat}, (∀ j ∈ js, j < ds.length) → RpAll K G (pickY ys js) (js.map fun j => (ds[j]?).getD .none)
  | [], _ => .nil
  | j :: js, h => by
    have hj := h j List.mem_cons_self
    obtain ⟨v, hv, rv⟩ := r.get' (List.getElem?_eq_getElem hj)
    refine .cons ?_ (rp_pick r fun i hi => h i (List.mem_cons_of_mem _ hi))
    have e1 : (ys[j]?).getD .non = v := by rw [hv]; rfl
    have e2 : (ds[j]?).getD .none = ds[j] := by rw [List.getElem?_eq_getElem hj]; rfl
    show Rp K G ((ys[j]?).getD .non) ((ds[j]?).getD .none)
    rw [e1, e2]
    exact rv
theorem made_at {h : Heap} {vs : List Value} {as : List Addr} {js : List (List Nat)} (m : Made h vs as js) : as.length = js.length ∧ ∀ p ∈ as.zip js, h.get? p.1 = some (TupO (pickV vs p.2)) := by
  induction m with
  | nil => exact ⟨rfl, by simp⟩
  | cons e m ih => exact ⟨by simp [ih.1], fun p hp => by
      rw [List.zip_cons_cons] at hp
      rcases List.mem_cons.mp hp with rfl | hp
      · exact e
      · exact ih.2 p hp⟩
def tComb (K : PySem.W.Frag) (ta : TA) : TE := fun σ H Q => ta σ H fun xs H1 => ∃ (l : Addr) (ys : List V) (r n : Nat), xs = [.ref l, .int (r : Int)] ∧ SqL K H1 l ys ∧ ys.length = n ∧ n ≤ 8 ∧ r ≤ 8 ∧
  ∀ (as : List Addr) (q : Addr), as.length = (combs r (List.range n)).length → (as ++ [q]).Nodup → (∀ a ∈ as ++ [q], H1 a = none) → Q (.ref q) (updL H1 ((as.zip (combs r (List.range n))).map (fun p => (p.1, HO.tup (pickY ys p.2))) ++ [(q, .lst (as.map V.ref))]))
theorem zip_fst {α β : Type} : ∀ {as : List α} {bs : List β}, as.length = bs.length → (as.zip bs).map (·.1) = as
  | [], [], _ => rfl
  | a :: as, b :: bs, h => by rw [List.zip_cons_cons, List.map_cons, zip_fst (by simpa using h)]
  | [], _ :: _, h => by cases h
  | _ :: _, [], h => by cases h
theorem aux1 (b P : Nat) (h : b < P) (k : P + 2 < b) : False := by omega
theorem aux2 (b P : Nat) (h : b < P) (k : b = P + 2) : False := by omega
theorem aux3 (b P : Nat) (h : b < P) (k : b = P + 1) : False := by omega
section
variable {X : Cx} {e : Expr} {es : List Expr} {ta : TA} {p p2 pos pos2 : Pos}
theorem pe_comb (hc : X.calm = true) (hl : Gl X "list") (ml : X.mg "list" = none) (hb : Gl X "combinations") (mb : X.mg "combinations" = some (.type "itertools.combinations")) (ha : PA X (e :: es) ta)
    (n1 : starEach (e :: es) X.env = (false, eval e X.env) :: starEach es X.env := by rfl) (hpl : (backTo pos2 (starEach es X.env)).any (·.1) = false := by rfl) (n2 : starEach [.Call (.Name "combinations" p2) (e :: es) [] pos2] X.env = (false, eval (.Call (.Name "combinations" p2) (e :: es) [] pos2) X.env) :: starEach [] X.env := by rfl) :
    PE X (.Call (.Name "list" p) [.Call (.Name "combinations" p2) (e :: es) [] pos2] [] pos) (tComb X.K ta) := by
  refine ⟨fun pins s σ H Q I h => ?_⟩
  refine Call_ (ld_blt I hl ml boot_list (PyProof.Rows.callWith_type1 (args_cons ?_ n2) n2))
  refine wpAny_Call_Name_kw (ld_glob I hb mb ?_)
  refine PyProof.Rows.callWith_type1 (thn (ha.run pos2 pins s σ H _ I h) fun us s1 ⟨xs, H1, I1, r1, q1⟩ => ?_) n1 hpl
  obtain ⟨l, ys, r, n, rfl, hL, hn, n8, r8, q⟩ := q1
  obtain ⟨u1, u2, rfl, k1, k2⟩ := vals2 r1
  cases (show u1 = Value.ref l from k1)
  obtain ⟨t, rfl⟩ : ∃ t, u2 = Value.int r t := k2
  obtain ⟨vs, rv, pl, zl⟩ := I1.list hL
  have lv : vs.length = n := by rw [← hn, rv.length]
  have il : s1.heap.IsList l vs.toArray := pl.isList
  refine call_comb il (by rw [lv, sizeLine_eq]; omega) (by omega) fun h' P k le hP hit sz => ?_
  refine args_nil ?_
  have kk : ∀ b o, s1.heap.get? b = some o → h'.get? b = some o := k
  have sq := comb_seq n8 r8
  have cl := combs_len n8 r8
  rw [lv] at hit
  have hcb := call_list_cb (prog := X.prog) (w := X.w) (A := X.A) (E := X.xe) (s := { s1 with heap := h' }) (it := P + 1) (pool := P) (vs := vs) (js := combs r (List.range n)) (I1.ok.hd hc) hit hP (Nat.ne_of_lt (Nat.lt_succ_self _)) (by rw [lv]; exact sq) (by rw [sizeLine_eq]; omega) (Q := EP X pins σ Q)
  refine hcb fun h2 as c' k2 hS m bd => ?_
  obtain ⟨la, ma⟩ := made_at m
  have sz2 : ({ s1 with heap := h' } : Shared).heap.objs.size = P + 2 := sz
  rw [sz2] at hS bd ⊢
  have bd1 : ∀ a ∈ as, P + 2 < a := bd.1
  have nd : (as ++ [P + 2]).Nodup := by
    rw [List.nodup_append]
    exact ⟨bd.2.imp fun {a b} h => Nat.ne_of_lt h, by simp, fun a ha b hb => by rw [List.mem_singleton.mp hb]; exact Nat.ne_of_gt (bd1 a ha)⟩
  have old : ∀ b o, s1.heap.get? b = some o → b < P := fun b o e => Nat.lt_of_lt_of_le (Heap.lt_size e) le
  have fst : ((as.zip (combs r (List.range n))).map (fun p => (p.1, HO.tup (pickY ys p.2))) ++ [(P + 2, HO.lst (as.map V.ref))]).map (·.1) = as ++ [P + 2] := by
    rw [List.map_append, List.map_map]
    show (as.zip _).map (·.1) ++ [P + 2] = _
    rw [zip_fst la]
  obtain ⟨G0, g1, g2⟩ := restrict h2 fun b => decide (b ∉ as ++ [P + 2])
  have I0 : Inv X pins σ H1 { s1 with heap := G0 } := I1.kept (h' := G0) (t' := s1.toks) fun b u e => by
    have lt := old b u e
    have nb : b ∉ as ++ [P + 2] := fun z => by
      rcases List.mem_append.mp z with z | z
      · exact aux1 _ _ lt (bd1 b z)
      · exact aux2 _ _ lt (List.mem_singleton.mp z)
    rw [g1 b (decide_eq_true nb)]
    exact k2 b u (fun z => aux3 _ _ lt z) (kk b u e)
  have hn1 : ∀ a ∈ as ++ [P + 2], H1 a = none := fun a ha => I1.hok.fresh (by
    rcases List.mem_append.mp ha with z | z
    · have := bd1 a z; omega
    · rw [List.mem_singleton.mp z]; omega)
  have J := lay_many (h2 := h2) (s := s1) ((as.zip (combs r (List.range n))).map (fun p => (p.1, HO.tup (pickY ys p.2))) ++ [(P + 2, HO.lst (as.map V.ref))]) (by rw [fst]; exact nd) (fun x hx H' G hG => by
    rcases List.mem_append.mp hx with hx | hx
    · obtain ⟨z, hz, rfl⟩ := List.mem_map.mp hx
      have mz := (combs_sub (List.of_mem_zip hz).2)
      have bz : ∀ j ∈ z.2, j < ys.length := fun j hj => by rw [hn]; exact List.mem_range.mp (mz.1.subset hj)
      refine ⟨?_, pickV vs z.2, vals_pick rv bz, ?_⟩
      · show (z.2.map _).length ≤ _
        rw [List.length_map, mz.2, sizeLine_eq]; omega
      · have e := hG _ (ma z hz)
        exact ⟨_, e, rfl, 0, rfl⟩
    · cases List.mem_singleton.mp hx
      refine ⟨?_, as.map Value.ref, c', vals_refs _, hG _ hS⟩
      show (as.map _).length ≤ _
      rw [List.length_map, la, sizeLine_eq]; omega) I0 (fun b o e => by
    by_cases z : b ∉ as ++ [P + 2]
    · rw [g1 b (decide_eq_true z)] at e; exact e
    · rw [g2 b (decide_eq_false z)] at e; cases e) (fun x hx => by
    have hx1 : x.1 ∈ as ++ [P + 2] := by rw [← fst]; exact List.mem_map.mpr ⟨x, hx, rfl⟩
    exact ⟨g2 _ (decide_eq_false fun z => z hx1), hn1 _ hx1⟩)
  exact ⟨.ref (P + 2), _, J, rfl, q as (P + 2) la nd hn1⟩
end
end PD
set_option Elab.async false
set_option linter.all false
set_option maxRecDepth 100000
set_option maxHeartbeats 1000000
namespace PD
open PySem PySem.Spec PyProof.Rows L2 PDC
def bCombs : List PyData → R PyData := fun ds => match ds with
  | [a, b] => bComb a b
  | _ => .bad
theorem range_get {ds : List PyData} : (List.range ds.length).map (fun j => (ds[j]?).getD .none) = ds := by
  apply List.ext_getElem
  · simp
  · intro i h1 h2
    simp
    rw [List.getElem?_eq_getElem (by simpa using h1)]
    rfl
theorem combs_pick {ds : List PyData} {r : Nat} : (combs r (List.range ds.length)).map (fun js => js.map fun j => (ds[j]?).getD .none) = combs r ds := by
  rw [← combs_map, range_get]
section
variable {X : Cx} {Tb : List Addr} {W : WX} {e : Expr} {es : List Expr} {gl : DnL} {p p2 pos pos2 : Pos}
theorem rp_combs {K : PySem.W.Frag} {H' : Hp} {G : Hp} {ys : List V} {ds : List PyData} (r : RpAll K G ys ds) : ∀ {as : List Addr} {js : List (List Nat)}, as.length = js.length → (∀ x ∈ as.zip js, G x.1 = some (.tup (pickY ys x.2))) → (∀ j ∈ js, j.length ≤ sizeLine ∧ ∀ i ∈ j, i < ds.length) → RpAll K G (as.map V.ref) (js.map fun j => .tuple (j.map fun i => (ds[i]?).getD .none))
  | [], [], _, _, _ => .nil
  | [], _ :: _, h, _, _ => by cases h
  | _ :: _, [], h, _, _ => by cases h
  | a :: as, j :: js, h, hz, hj => by
    have h0 := hj j List.mem_cons_self
    refine .cons (.tup (.inl (.inl (hz (a, j) (by rw [List.zip_cons_cons]; exact List.mem_cons_self)))) (by rw [List.length_map]; exact h0.1) (rp_pick r h0.2)) ?_
    exact rp_combs (H' := H') r (by simpa using h) (fun x hx => hz x (by rw [List.zip_cons_cons]; exact List.mem_cons_of_mem _ hx)) fun j hj2 => hj j (List.mem_cons_of_mem _ hj2)
theorem fd_comb (hc : X.calm = true) (hl : Gl X "list") (ml : X.mg "list" = none) (hb : Gl X "combinations") (mb : X.mg "combinations" = some (.type "itertools.combinations")) (ha : PA X (e :: es) (tDs X.K Tb W gl))
    (n1 : starEach (e :: es) X.env = (false, eval e X.env) :: starEach es X.env := by rfl) (hpl : (backTo pos2 (starEach es X.env)).any (·.1) = false := by rfl) (n2 : starEach [.Call (.Name "combinations" p2) (e :: es) [] pos2] X.env = (false, eval (.Call (.Name "combinations" p2) (e :: es) [] pos2) X.env) :: starEach [] X.env := by rfl) :
    PE X (.Call (.Name "list" p) [.Call (.Name "combinations" p2) (e :: es) [] pos2] [] pos) (tD X.K Tb W (dArg bCombs gl)) :=
  (pe_comb hc hl ml hb mb ha n1 hpl n2).by fun σ H Q ⟨H0, O0, O, ρ, st, h⟩ => ⟨H0, O0, O, ρ, st, by
    refine Post.then h fun ds vs H1 ex rv k => ?_
    unfold bCombs at k
    split at k
    · rename_i a b
      cases rv with
      | cons r1 r2 =>
        cases r2 with
        | cons r2 r3 =>
          cases r3
          unfold bComb at k
          split at k
          · rename_i ds r
            cases r2
            split at k
            · rename_i z
              have z := of_decide_eq_true z
              cases r1 with
              | @lst a0 ys0 _ hL zl ra =>
                have hn : _ = ds.length := ra.length
                refine ⟨_, _, r.toNat, ds.length, by rw [show ((r.toNat : Nat) : Int) = r by omega], Sub.unhide.sqL hL, hn, z.1, by omega, fun as q la nd hf => ?_⟩
                have al := (st.step ex).al
                have fst : ((as.zip (combs r.toNat (List.range ds.length))).map (fun p => (p.1, HO.tup (pickY ys0 p.2))) ++ [(q, HO.lst (as.map V.ref))]).map (·.1) = as ++ [q] := by
                  rw [List.map_append, List.map_map]
                  show (as.zip _).map (·.1) ++ [q] = _
                  rw [zip_fst la]
                have ext := updL_ext (H := H1) (L := (as.zip (combs r.toNat (List.range ds.length))).map (fun p => (p.1, HO.tup (pickY ys0 p.2))) ++ [(q, HO.lst (as.map V.ref))]) (by rw [fst]; exact nd) (fun x hx => hf x.1 (by rw [← fst]; exact List.mem_map.mpr ⟨x, hx, rfl⟩))
                refine k _ _ ext ?_
                have inn := updL_in (H := H1) (L := (as.zip (combs r.toNat (List.range ds.length))).map (fun p => (p.1, HO.tup (pickY ys0 p.2))) ++ [(q, HO.lst (as.map V.ref))]) (by rw [fst]; exact nd)
                have out : ∀ a ∈ as ++ [q], a ∉ O := fun a ha m => al a m (hf a ha)
                have ra2 := ra.mono (Sub.hide (O := O) ext.keep)
                refine .lst (.of ?_) ?_ ?_ (xs := as.map V.ref)
                · rw [hide_out (out q (by simp))]
                  exact inn (q, _) (by simp)
                · rw [List.length_map]
                  have := combs_len z.1 (show r.toNat ≤ 8 by omega)
                  rw [← combs_pick, List.length_map, sizeLine_eq]; omega
                · rw [← combs_pick, List.map_map]
                  refine rp_combs (H' := H1) ra2 la (fun x hx => ?_) fun j hj => ?_
                  · have hx1 : x.1 ∈ as := (List.of_mem_zip hx).1
                    rw [hide_out (out _ (List.mem_append_left _ hx1))]
                    exact inn (x.1, HO.tup (pickY ys0 x.2)) (List.mem_append_left _ (List.mem_map.mpr ⟨x, hx, rfl⟩))
                  · have s := combs_sub hj
                    exact ⟨by rw [s.2, sizeLine_eq]; omega, fun i hi => List.mem_range.mp (s.1.subset hi)⟩
            · exact k.elim
          · exact k.elim
    · exact k.elim⟩
end
end PD
set_option Elab.async false
set_option linter.all false
set_option maxRecDepth 100000
set_option maxHeartbeats 1000000
namespace PD
open PySem PySem.Spec PyProof.Rows L2
end PD
set_option Elab.async false
set_option linter.all false
set_option maxRecDepth 100000
set_option maxHeartbeats 1000000
namespace PD
open PySem PySem.Spec PyProof.Rows L2
end PD
set_option Elab.async false
set_option linter.all false
set_option maxRecDepth 100000
set_option maxHeartbeats 1000000
namespace PD
open PySem PySem.Spec PyProof.Rows L2
end PD
set_option Elab.async false
set_option linter.all false
set_option maxRecDepth 100000
set_option maxHeartbeats 1000000
namespace PD
open PySem PySem.Spec PyProof.Rows L2
end PD
set_option Elab.async false
set_option linter.all false
set_option maxRecDepth 100000
set_option maxHeartbeats 1000000
namespace PD
open PySem PySem.Spec PyProof.Rows L2
end PD
set_option Elab.async false
set_option linter.all false
set_option maxRecDepth 100000
set_option maxHeartbeats 1000000
namespace PD
open PySem PySem.Spec PyProof.Rows L2 HotX L2H
end PD
set_option Elab.async false
set_option linter.all false
set_option maxRecDepth 100000
set_option maxHeartbeats 1000000
namespace PD
open PySem PySem.Spec PyProof.Rows L2
end PD
set_option Elab.async false
set_option linter.all false
set_option maxRecDepth 100000
set_option maxHeartbeats 1000000
namespace PD
open PySem PySem.Spec PySem.W PySem.Calls PyProof.Rows
end PD
set_option Elab.async false
set_option linter.all false
set_option maxRecDepth 100000
set_option maxHeartbeats 1000000
namespace PD
open PySem PySem.Spec PyProof.Rows L2
end PD
set_option Elab.async false
set_option linter.all false
set_option maxRecDepth 100000
set_option maxHeartbeats 1000000
namespace PD
open PySem PySem.Spec PyProof.Rows L2
end PD
set_option Elab.async false
set_option linter.all false
set_option maxRecDepth 100000
set_option maxHeartbeats 1000000
namespace PD
open PySem PySem.Spec PyProof.Rows L2
end PD
set_option Elab.async false
set_option linter.all false
set_option maxRecDepth 100000
set_option maxHeartbeats 1000000
namespace PD
open PySem PySem.Spec PyProof.Rows L2
/-- the value at a key -/
def getK (kvs : List (Int × PyData)) (k : Int) : Option PyData := (kvs.find? fun x => decide (x.1 = k)).map (·.2)
/-- a store: in its place, or at the end -/
def putKD (kvs : List (Int × PyData)) (k : Int) (v : PyData) : List (Int × PyData) := if (kvs.any fun x => decide (x.1 = k)) = true then kvs.map (fun x => if x.1 = k then (x.1, v) else x) else kvs ++ [(k, v)]
def mergeKD (kvs more : List (Int × PyData)) : List (Int × PyData) := more.foldl (fun acc x => putKD acc x.1 x.2) kvs
/-- a dict reads as data -/
def DkR (K : PySem.W.Frag) (G : Hp) (vs : List (Key × V)) (ds : List (Int × PyData)) : Prop := vs.map (·.1) = ds.map (fun x => Sum.inl x.1) ∧ RpAll K G (vs.map (·.2)) (ds.map (·.2))
section
variable {K : PySem.W.Frag} {G G' : Hp}
theorem DkR.nil : DkR K G [] [] := ⟨rfl, .nil⟩
theorem DkR.cons {a : Int} {v : V} {d : PyData} {vs : List (Key × V)} {ds : List (Int × PyData)} (r : Rp K G v d) (h : DkR K G vs ds) : DkR K G ((Sum.inl a, v) :: vs) ((a, d) :: ds) := ⟨by rw [List.map_cons, List.map_cons, h.1], .cons r h.2⟩
theorem DkR.inv {p : Key × V} {q : Int × PyData} {vs : List (Key × V)} {ds : List (Int × PyData)} (h : DkR K G (p :: vs) (q :: ds)) : p.1 = Sum.inl q.1 ∧ Rp K G p.2 q.2 ∧ DkR K G vs ds := by
  obtain ⟨h1, h2⟩ := h
  rw [List.map_cons, List.map_cons] at h1 h2
  injection h1 with h1 h3
  cases h2 with
  | cons a b => exact ⟨h1, a, h3, b⟩
theorem DkR.mono (s : Sub G G') {vs : List (Key × V)} {ds : List (Int × PyData)} (h : DkR K G vs ds) : DkR K G' vs ds := ⟨h.1, h.2.mono s⟩
theorem DkR.len {vs : List (Key × V)} {ds : List (Int × PyData)} (h : DkR K G vs ds) : vs.length = ds.length := by
  have := congrArg List.length h.1
  rwa [List.length_map, List.length_map] at this
theorem inl_iff {a k : Int} : ((Sum.inl a : Key) = Sum.inl k) ↔ a = k := ⟨fun z => by injection z, fun z => by rw [z]⟩
theorem DkR.any (k : Int) : ∀ {vs : List (Key × V)} {ds : List (Int × PyData)}, DkR K G vs ds → (vs.any fun x => decide (x.1 = Sum.inl k)) = ds.any fun x => decide (x.1 = k)
  | [], [], _ => rfl
  | [], _ :: _, h => by cases h.1
  | _ :: _, [], h => by cases h.1
  | p :: vs, q :: ds, h => by
    obtain ⟨h1, _, h3⟩ := h.inv
    rw [List.any_cons, List.any_cons, h3.any k, h1]
    congr 1
    exact decide_eq_decide.mpr inl_iff
theorem DkR.repl (k : Int) {v : V} {d : PyData} (r : Rp K G v d) : ∀ {vs : List (Key × V)} {ds : List (Int × PyData)}, DkR K G vs ds → DkR K G (vs.map fun x => if x.1 = Sum.inl k then (x.1, v) else x) (ds.map fun x => if x.1 = k then (x.1, d) else x)
  | [], [], _ => .nil
  | [], _ :: _, h => by cases h.1
  | _ :: _, [], h => by cases h.1
  | p :: vs, q :: ds, h => by
    obtain ⟨h1, h2, h3⟩ := h.inv
    obtain ⟨a, b⟩ := p
    obtain ⟨c, e⟩ := q
    have h1 : a = Sum.inl c := h1
    subst h1
    rw [List.map_cons, List.map_cons]
    by_cases hc : c = k
    · rw [if_pos (inl_iff.mpr hc), if_pos hc]
      exact .cons r (h3.repl k r)
    · rw [if_neg (fun z => hc (inl_iff.mp z)), if_neg hc]
      exact .cons h2 (h3.repl k r)
theorem DkR.snoc {k : Int} {v : V} {d : PyData} (r : Rp K G v d) : ∀ {vs : List (Key × V)} {ds : List (Int × PyData)}, DkR K G vs ds → DkR K G (vs ++ [(Sum.inl k, v)]) (ds ++ [(k, d)])
  | [], [], _ => .cons r .nil
  | [], _ :: _, h => by cases h.1
  | _ :: _, [], h => by cases h.1
  | p :: vs, q :: ds, h => by
    obtain ⟨h1, h2, h3⟩ := h.inv
    obtain ⟨a, b⟩ := p
    obtain ⟨c, e⟩ := q
    have h1 : a = Sum.inl c := h1
    subst h1
    exact .cons h2 (h3.snoc r)
theorem DkR.put {k : Int} {v : V} {d : PyData} (r : Rp K G v d) {vs : List (Key × V)} {ds : List (Int × PyData)} (h : DkR K G vs ds) : DkR K G (putK vs (Sum.inl k) v) (putKD ds k d) := by
  unfold putK putKD
  rw [h.any k]
  split
  · exact h.repl k r
  · exact h.snoc r
theorem DkR.merge : ∀ {more : List (Key × V)} {ms : List (Int × PyData)} {vs : List (Key × V)} {ds : List (Int × PyData)}, DkR K G more ms → DkR K G vs ds → DkR K G (mergeK vs more) (mergeKD ds ms)
  | [], [], _, _, _, h => h
  | [], _ :: _, _, _, m, _ => by cases m.1
  | _ :: _, [], _, _, m, _ => by cases m.1
  | p :: more, q :: ms, vs, ds, m, h => by
    obtain ⟨h1, h2, h3⟩ := m.inv
    obtain ⟨a, b⟩ := p
    obtain ⟨c, e⟩ := q
    have h1 : a = Sum.inl c := h1
    subst h1
    show DkR K G (mergeK (putK vs (Sum.inl c) b) more) (mergeKD (putKD ds c e) ms)
    exact h3.merge (h.put h2)
theorem DkR.val {k : Int} {d : PyData} : ∀ {vs : List (Key × V)} {ds : List (Int × PyData)}, DkR K G vs ds → getK ds k = some d → ∃ v, valV vs (Sum.inl k) = some v ∧ Rp K G v d
  | [], [], _, e => by cases e
  | [], _ :: _, h, _ => by cases h.1
  | _ :: _, [], h, _ => by cases h.1
  | p :: vs, q :: ds, h, e => by
    obtain ⟨h1, h2, h3⟩ := h.inv
    unfold getK at e
    rw [List.find?_cons] at e
    by_cases c : q.1 = k
    · rw [decide_eq_true c] at e
      cases e
      exact ⟨p.2, valV_pos (by rw [h1, c]), h2⟩
    · rw [decide_eq_false c] at e
      obtain ⟨v, e1, e2⟩ := h3.val (k := k) (d := d) e
      exact ⟨v, by rw [valV_neg (fun z => c (inl_iff.mp (h1.symm.trans z)))]; exact e1, e2⟩
theorem DkR.none {k : Int} : ∀ {vs : List (Key × V)} {ds : List (Int × PyData)}, DkR K G vs ds → getK ds k = none → valV vs (Sum.inl k) = none
  | [], [], _, e => rfl
  | [], _ :: _, h, _ => by cases h.1
  | _ :: _, [], h, _ => by cases h.1
  | p :: vs, q :: ds, h, e => by
    obtain ⟨h1, h2, h3⟩ := h.inv
    unfold getK at e
    rw [List.find?_cons] at e
    by_cases c : q.1 = k
    · rw [decide_eq_true c] at e
      cases e
    · rw [decide_eq_false c] at e
      rw [valV_neg (fun z => c (inl_iff.mp (h1.symm.trans z)))]
      exact h3.none e
end
def dPs : List (Dn × Dn) → Rho → R (List (Int × PyData))
  | [], _ => .ok []
  | (f, g) :: r, ρ => f ρ >>= fun a => g ρ >>= fun b => dPs r ρ >>= fun ps => match a with
    | .int k => .ok ((k, b) :: ps)
    | _ => .bad
abbrev RlPs (K : PySem.W.Frag) (O : List Addr) : Hp → List (V × V) → List (Int × PyData) → Prop := fun H xs ds => xs.map (·.1) = ds.map (fun x => V.int x.1) ∧ RpAll K (hide O H) (xs.map (·.2)) (ds.map (·.2))
theorem ps_pairs {K : PySem.W.Frag} {Tb : List Addr} {W : WX} {H0 : Hp} {O0 O : List Addr} {ρ : Rho} {σ : L2.St} : ∀ (ps : List (Dn × Dn)) {H : Hp} {Q : List (V × V) → Hp → Prop}, St0 K Tb H0 O0 O H σ ρ → Post K O (RlPs K O) (fun c d H => W c d σ H) H (dPs ps ρ) Q → tPairs (ps.map fun p => (tD K Tb W p.1, tD K Tb W p.2)) σ H Q
  | [], H, Q, st, h => h [] H (Ext.refl H) ⟨rfl, .nil⟩
  | (f, g) :: ps, H, Q, st, h => by
    refine ⟨H0, O0, O, ρ, st, Post.then h fun d v H1 e1 r1 k1 => ⟨H0, O0, O, ρ, st.step e1, Post.then k1 fun d2 v2 H2 e2 r2 k2 => ps_pairs ps ((st.step e1).step e2) (Post.then k2 fun ds xs H3 e3 r3 k3 => ?_)⟩⟩
    cases d with
    | int k =>
      cases r1
      exact k3 _ H3 (Ext.refl H3) ⟨by rw [List.map_cons, List.map_cons, r3.1], .cons (r2.mono (Sub.hide e3.keep)) r3.2⟩
    | _ => exact k3.elim
/-- x = {k: v, ..} -/
def gDisp (i : Nat) (ps : List (Dn × Dn)) : Sn := fun ρ => oR (dPs ps ρ) ρ fun ds => if ds.length ≤ 15 then .nx (ρ.set i (some (.dk (mergeKD [] ds)))) else .bad
theorem plain_dk (kvs : List (Key × V)) : Plain (.dK kvs) := ⟨fun _ _ h => (by unfold LamX.CodeO at h; cases h), fun _ h => (by cases h)⟩
theorem pairs_dk {K : PySem.W.Frag} {G : Hp} : ∀ {xs : List (V × V)} {ds : List (Int × PyData)}, xs.map (·.1) = ds.map (fun x => V.int x.1) → RpAll K G (xs.map (·.2)) (ds.map (·.2)) → ∃ kvs : List (Key × V), xs = kvs.map (fun kv => (kV kv.1, kv.2)) ∧ DkR K G kvs ds
  | [], [], _, _ => ⟨[], rfl, .nil⟩
  | [], _ :: _, h, _ => by cases h
  | _ :: _, [], h, _ => by cases h
  | (a, b) :: xs, (c, d) :: ds, h, r => by
    rw [List.map_cons, List.map_cons] at h r
    injection h with h1 h2
    cases r with
    | cons r0 rr =>
      obtain ⟨kvs, e, rel⟩ := pairs_dk h2 rr
      have h1 : a = V.int c := h1
      exact ⟨(Sum.inl c, b) :: kvs, by rw [e, h1]; rfl, .cons r0 rel⟩
section
variable {X : Cx} {Tb : List Addr} {W : WX} {pos p : Pos} {x : Str}
theorem fs_disp {i : Nat} {ps : List (Dn × Dn)} {keys : List (Option Expr)} {values : List Expr} {pos' dpos : Pos} (hN : X.N.Nodup) (hi : X.N[i]? = some x) (hx : Loc X.env.scope x) (h : PPs X dpos keys values (ps.map fun p => (tD X.K Tb W p.1, tD X.K Tb W p.2)))
    (hall : keys.all (·.isSome) = true := by rfl) (hl : keys.length = values.length := by rfl) (h0 : keys ≠ [] := by decide) (h15 : keys.length ≤ 15 := by decide)
    (hs : swapsWith (.Dict keys values dpos) (some (.Name x pos')) pos.line X.env = pure false := by rfl)
    (hf : X.fn x = true ∨ X.env.scope.names.lookup x = some .local := by first | exact .inl rfl | exact .inr rfl | assumption) : PS X (.Assign [.Name x pos'] (.Dict keys values dpos) pos) (tS X.K Tb W (gDisp i ps)) :=
  (ps_set hN hi hx (pe_disp h hall hl h0 h15) hs hf).by fun D σ H ⟨H0, O0, O, ρ, st, h⟩ => fun q hq => by
    have e1 : Ext H (upd H q (.dK [])) := Ext.new hq
    have nO : q ∉ O := st.fresh hq
    have stm := st.more (o := .dK []) hq (plain_dk [])
    unfold gDisp at h
    refine ps_pairs ps stm (oR_post stm h fun ds xs H2 ex r k => ?_)
    split at k
    · rename_i h15'
      have hq2 : H2 q = some (.dK []) := ex.keep q _ upd_same (fun _ z => by cases z)
      obtain ⟨kvs, e, rel⟩ := pairs_dk r.1 r.2
      refine ⟨hq2, kvs, e, by rw [rel.len]; exact h15', ?_⟩
      refine k (q :: O) _ _ (st.holdNew ((e1.trans ex).updN hq (fun c q' z => (plain_dk []).1 c q' (Option.some.inj (hq2.symm.trans z)))) hq upd_same (plain_dk _) ⟨q, _, rfl, List.mem_cons_self, fun m => nO (st.sub q m), upd_same, ?_⟩)
      rw [hide_upd List.mem_cons_self]
      exact rel.merge .nil
    · exact k.elim
/-- x[e] -/
def dDkGet (i : Nat) (f : Dn) : Dn := fun ρ => match ρ[i]? with
  | some (some (.dk kvs)) => f ρ >>= fun d => match d with
    | .int k => (match getK kvs k with | some v => .ok v | none => .bad)
    | _ => .bad
  | _ => .bad
theorem e_dkGet {i k : Nat} {e : Expr} {f : Dn} {npos : Pos} (hr : Room k X.A) (ho : X.N[i]? = some x) (hv : Vis X.env.scope x) (he : PE X e (tD X.K Tb W f)) (hd : (x == ("__debug__" : Str)) = false := by decide) (hcd : (x == ("__classdict__" : Str)) = false := by decide) (hs : NoSl e := by intro _ _; rfl) :
    PE X (.Subscript (.Name x npos) e pos) (tD X.K Tb W (dDkGet i f)) :=
  (pe_dget (show X.A.units + 1 < cLine by have := hr.u65; omega) (pe_var ho hv hd hcd) he hs).by fun σ H Q ⟨H0, O0, O, ρ, st, h⟩ => by
    unfold dDkGet at h
    split at h
    · rename_i kvs hk
      obtain ⟨v, h1, p, vs, rfl, m, m0, hp, rel⟩ := st.slot i _ hk
      refine ⟨.ref p, h1, H0, O0, O, ρ, st, Post.then h fun d y H1 ex rv k => ?_⟩
      cases d with
      | int kk =>
        cases rv
        dsimp only at k
        split at k
        · rename_i dv hg
          have hp1 := ex.keep p _ hp (fun _ z => by cases z)
          obtain ⟨w, e1, e2⟩ := DkR.val (show DkR X.K (hide O H) vs kvs from rel) hg
          refine ⟨p, w, rfl, ?_, k w H1 (Ext.refl H1) (e2.mono (Sub.hide ex.keep))⟩
          have := DGet.k (k := Sum.inl kk) hp1
          rw [e1] at this
          exact this
        · exact k.elim
      | _ => exact k.elim
    · exact h.elim
end
end PD
set_option Elab.async false
set_option linter.all false
set_option maxRecDepth 100000
set_option maxHeartbeats 4000000
namespace LW
open PySem PySem.Spec PyProof.Rows L2 PD
def b_law_draws_1 : Sn := (gIf (dAnd (dAsB (dVar 3)) (dAsB (dTwo oGt (dVar 2) (dC (.int 0))))) (gSeq (gApp 5 (dTwo oMod (dArg bInt (dCons (dVar 2) dNil)) (dC (.int 5040)))) (gSet (dTwo oDiv (dVar 2) (dC (.int 5040))) (.nm 2))) (gSeq (gSet (dTwo oMod (dArg bInt (dCons (dTwo oAdd (dTwo oAdd (dTwo oMul (dVar 4) (dC (.int 48271))) (dTwo oMul (dTwo oAdd (dVar 6) (dC (.int 1))) (dC (.int 69621)))) (dC (.int 11))) dNil)) (dC (.int 2147483647))) (.nm 7)) (gSeq (gSet (dTwo oMod (dArg bInt (dCons (dTwo oAdd (dTwo oMul (dVar 7) (dVar 7)) (dTwo oMul (dC (.int 40692)) (dTwo oAdd (dVar 6) (dC (.int 3))))) dNil)) (dC (.int 2147483399))) (.nm 7)) (gApp 5 (dTwo oMod (dArg bInt (dCons (dTwo oDiv (dVar 7) (dC (.int 64))) dNil)) (dC (.int 5040)))))))
def g_law_draws : Sn := (gSeq (gSet (dArg bAbs (dCons (dArg bInt (dCons (dVar 0) dNil)) dNil)) (.nm 2)) (gSeq (gSet (dTwo oGe (dVar 2) (dTwo oPow (dC (.int 10)) (dC (.int 18)))) (.nm 3)) (gSeq (gSet (dVar 2) (.nm 4)) (gSeq (gOwn (dLst dNil) 5) (gSeq (gFor (dRng1 (dCons (dVar 1) dNil)) (.nm 6) b_law_draws_1) (gFrz 5 (gRet (dVar 5))))))))
def m_law_draws : List PyData → R PyData := runD 8 2 g_law_draws
def g_law_cell : Sn := (gSeq (gIf (dAsB (dTwo oLt (dVar 1) (dArg bLen (dCons (dVar 0) dNil)))) (gRet (dTwo oIx (dVar 0) (dVar 1))) gSkip) (gRet (dTwo oAdd (dTwo oMul (dC (.int 5)) (dVar 1)) (dC (.int 3)))))
def m_law_cell : List PyData → R PyData := runD 2 2 g_law_cell
def b_law_parts_of_1 : Sn := (gSet (dTwo oAdd (dVar 1) (dLc (dItems (dVar 1)) (.nm 3) dYes (dTwo oAdd (dVar 3) (dTup (dCons (dVar 2) dNil))) [3])) (.nm 1))
def g_law_parts_of : Sn := (gSeq (gSet (dLst (dCons (dTup dNil) dNil)) (.nm 1)) (gSeq (gFor (dRng1 (dCons (dVar 0) dNil)) (.nm 2) b_law_parts_of_1) (gRet (dArg bSorted (dCons (dVar 1) dNil)))))
def m_law_parts_of : List PyData → R PyData := runD 4 1 g_law_parts_of
def g_law_count : Sn := (gRet (dArg bLen (dCons (dLc (dItems (dVar 0)) (.nm 3) (dAsB (dTwo oEq (dTwo oIx (dVar 1) (dVar 3)) (dVar 2))) (dVar 3) [3]) dNil)))
def m_law_count : List PyData → R PyData := runD 4 3 g_law_count
def g_law_within : Sn := (gRet (dArg bAll (dCons (dLc (dItems (dVar 0)) (.nm 2) dYes (dTwo oIn (dVar 2) (dVar 1)) [2]) dNil)))
def m_law_within : List PyData → R PyData := runD 3 2 g_law_within
def b_law_antichain_1 : Sn := (gIf (dThawB (dAnd (dAsB (dTwo oNotIn (dVar 2) (dVar 1))) (dNot (dAsB (dArg bAny (dCons (dLc (dItems (dVar 0)) (.nm 3) dYes (dAndV (dTwo oNe (dVar 2) (dVar 3)) (dArg m_law_within (dCons (dVar 2) (dCons (dVar 3) dNil)))) [3]) dNil)))))) (gApp 1 (dVar 2)) gSkip)
def g_law_antichain : Sn := (gSeq (gOwn (dLst dNil) 1) (gSeq (gFor (dItems (dArg bSorted (dCons (dVar 0) dNil))) (.nm 2) b_law_antichain_1) (gFrz 1 (gRet (dArg bTuple (dCons (dVar 1) dNil))))))
def m_law_antichain : List PyData → R PyData := runD 4 1 g_law_antichain
def g_law_is_integer : Sn := (gRet (dAndV (dOne (oIsi "int") (dVar 0)) (dNotV (dOne (oIsi "bool") (dVar 0)))))
def m_law_is_integer : List PyData → R PyData := runD 1 1 g_law_is_integer
def b_law_is_set_1 : Sn := (gSeq (gIf (dOr (dNot (dAsB (dArg m_law_is_integer (dCons (dTwo oIx (dVar 0) (dVar 2)) dNil)))) (dOr (dAsB (dTwo oLt (dTwo oIx (dVar 0) (dVar 2)) (dC (.int 0)))) (dAsB (dTwo oGe (dTwo oIx (dVar 0) (dVar 2)) (dVar 1))))) (gRet (dC (.bool false))) gSkip) (gIf (dAnd (dAsB (dTwo oGt (dVar 2) (dC (.int 0)))) (dAsB (dTwo oLe (dTwo oIx (dVar 0) (dVar 2)) (dTwo oIx (dVar 0) (dTwo oSub (dVar 2) (dC (.int 1))))))) (gRet (dC (.bool false))) gSkip))
def g_law_is_set : Sn := (gSeq (gIf (dNot (dAsB (dOne (oIsi "tuple") (dVar 0)))) (gRet (dC (.bool false))) gSkip) (gSeq (gFor (dRng1 (dCons (dArg bLen (dCons (dVar 0) dNil)) dNil)) (.nm 2) b_law_is_set_1) (gRet (dC (.bool true)))))
def m_law_is_set : List PyData → R PyData := runD 3 2 g_law_is_set
def g_law_exchanged : Sn := (gRet (dArg bTuple (dCons (dArg bSorted (dCons (dTwo oAdd (dLc (dItems (dVar 0)) (.nm 3) (dAsB (dTwo oNe (dVar 3) (dVar 1))) (dVar 3) [3]) (dLst (dCons (dVar 2) dNil))) dNil)) dNil)))
def m_law_exchanged : List PyData → R PyData := runD 4 3 g_law_exchanged
def b_law_fault_1 : Sn := (gIf (dAsB (dTwo oNotIn (dVar 2) (dVar 3))) (gSeq (gSet (dLc (dItems (dVar 3)) (.nm 5) (dAsB (dTwo oNotIn (dVar 5) (dVar 1))) (dVar 5) [5]) (.nm 4)) (gIf (dNot (dAsB (dArg bAny (dCons (dLc (dItems (dVar 4)) (.nm 5) dYes (dTwo oIn (dArg m_law_exchanged (dCons (dVar 1) (dCons (dVar 2) (dCons (dVar 5) dNil)))) (dVar 0)) [5]) dNil)))) (gRet (dTup (dCons (dVar 1) (dCons (dVar 2) (dCons (dVar 3) dNil))))) gSkip)) gSkip)
def b_law_fault_2 : Sn := (gFor (dItems (dVar 0)) (.nm 3) b_law_fault_1)
def b_law_fault_3 : Sn := (gFor (dItems (dVar 1)) (.nm 2) b_law_fault_2)
def g_law_fault : Sn := (gSeq (gFor (dItems (dVar 0)) (.nm 1) b_law_fault_3) (gRet (dC .none)))
def m_law_fault : List PyData → R PyData := runD 6 1 g_law_fault
end LW
set_option Elab.async false
set_option linter.all false
set_option maxRecDepth 100000
set_option maxHeartbeats 4000000
namespace LW
open PySem PySem.Spec PyProof.Rows L2 PD
def b_law_bounded_lots_1 : Sn := (gIf (dAsB (dArg bAll (dCons (dLc (dRng1 (dCons (dC (.int 3)) dNil)) (.nm 9) dYes (dTwo oLe (dArg m_law_count (dCons (dVar 5) (dCons (dVar 2) (dCons (dVar 9) dNil)))) (dTwo oIx (dVar 3) (dVar 9))) [9]) dNil))) (gApp 4 (dVar 5)) gSkip)
def g_law_bounded_lots : Sn := (gSeq (gSet (dLc (dRng1 (dCons (dVar 1) dNil)) (.nm 8) dYes (dTwo oMod (dArg bInt (dCons (dTwo oIx (dVar 0) (dTwo oAdd (dC (.int 3)) (dVar 8))) dNil)) (dC (.int 3))) [8]) (.nm 2)) (gSeq (gSet (dLst (dCons (dTwo oAdd (dC (.int 1)) (dTwo oMod (dArg bInt (dCons (dTwo oIx (dVar 0) (dC (.int 2))) dNil)) (dC (.int 2)))) (dCons (dTwo oAdd (dC (.int 1)) (dTwo oMod (dTwo oDiv (dArg bInt (dCons (dTwo oIx (dVar 0) (dC (.int 2))) dNil)) (dC (.int 2))) (dC (.int 2)))) (dCons (dTwo oMod (dTwo oDiv (dArg bInt (dCons (dTwo oIx (dVar 0) (dC (.int 2))) dNil)) (dC (.int 4))) (dC (.int 3))) dNil)))) (.nm 3)) (gSeq (gOwn (dLst dNil) 4) (gSeq (gFor (dItems (dArg m_law_parts_of (dCons (dVar 1) dNil))) (.nm 5) b_law_bounded_lots_1) (gFrz 4 (gSeq (gSet (dArg bMax (dCons (dLc (dItems (dVar 4)) (.nm 5) dYes (dArg bLen (dCons (dVar 5) dNil)) [5]) dNil)) (.nm 6)) (gSeq (gSet (dArg bMin2 (dCons (dVar 6) (dCons (dTwo oIx (dTup (dCons (dC (.int 2)) (dCons (dC (.int 1)) (dCons (dC (.int 2)) (dCons (dC (.int 3)) (dCons (dC (.int 1)) (dCons (dC (.int 2)) (dCons (dC (.int 0)) (dCons (dC (.int 3)) dNil))))))))) (dTwo oMod (dArg bInt (dCons (dTwo oIx (dVar 0) (dC (.int 1))) dNil)) (dC (.int 8)))) dNil))) (.nm 7)) (gRet (dArg bTuple (dCons (dLc (dItems (dVar 4)) (.nm 5) (dAsB (dTwo oEq (dArg bLen (dCons (dVar 5) dNil)) (dVar 7))) (dVar 5) [5]) dNil))))))))))
def m_law_bounded_lots : List PyData → R PyData := runD 10 2 g_law_bounded_lots
def b_law_is_forest_1 : Sn := (gSeq (gSet (dTwo oIx (dVar 3) (dTwo oIx (dTwo oIx (dVar 1) (dVar 4)) (dC (.int 0)))) (.nm 5)) (gSeq (gSet (dTwo oIx (dVar 3) (dTwo oIx (dTwo oIx (dVar 1) (dVar 4)) (dC (.int 1)))) (.nm 6)) (gSeq (gIf (dAsB (dTwo oEq (dVar 5) (dVar 6))) (gRet (dC (.bool false))) gSkip) (gSet (dLc (dItems (dVar 3)) (.nm 7) dYes (dIf (dAsB (dTwo oEq (dVar 7) (dVar 5))) (dVar 6) (dVar 7)) [7]) (.nm 3)))))
def g_law_is_forest : Sn := (gSeq (gSet (dOne bLstR1 (dVar 2)) (.nm 3)) (gSeq (gFor (dItems (dVar 0)) (.nm 4) b_law_is_forest_1) (gRet (dC (.bool true)))))
def m_law_is_forest : List PyData → R PyData := runD 8 3 g_law_is_forest
def b_law_forest_lots_1 : Sn := (gSeq (gSet (dArg bInt (dCons (dTwo oIx (dVar 0) (dTwo oAdd (dC (.int 2)) (dVar 4))) dNil)) (.nm 5)) (gApp 3 (dTup (dCons (dTwo oMod (dVar 5) (dVar 2)) (dCons (dTwo oMod (dTwo oDiv (dVar 5) (dVar 2)) (dVar 2)) dNil)))))
def g_law_forest_lots : Sn := (gSeq (gSet (dTwo oAdd (dC (.int 2)) (dTwo oMod (dArg bInt (dCons (dTwo oIx (dVar 0) (dC (.int 1))) dNil)) (dC (.int 3)))) (.nm 2)) (gSeq (gOwn (dLst dNil) 3) (gSeq (gFor (dRng1 (dCons (dVar 1) dNil)) (.nm 4) b_law_forest_lots_1) (gFrz 3 (gSeq (gSet (dLc (dItems (dArg m_law_parts_of (dCons (dVar 1) dNil))) (.nm 8) (dAsB (dArg m_law_is_forest (dCons (dVar 8) (dCons (dVar 3) (dCons (dVar 2) dNil))))) (dVar 8) [8]) (.nm 6)) (gSeq (gSet (dArg bMax (dCons (dLc (dItems (dVar 6)) (.nm 8) dYes (dArg bLen (dCons (dVar 8) dNil)) [8]) dNil)) (.nm 7)) (gRet (dArg bTuple (dCons (dLc (dItems (dVar 6)) (.nm 8) (dAsB (dTwo oEq (dArg bLen (dCons (dVar 8) dNil)) (dVar 7))) (dVar 8) [8]) dNil)))))))))
def m_law_forest_lots : List PyData → R PyData := runD 9 2 g_law_forest_lots
def g_law_rest_of : Sn := (gRet (dArg bTuple (dCons (dLc (dRng1 (dCons (dVar 1) dNil)) (.nm 2) (dAsB (dTwo oNotIn (dVar 2) (dVar 0))) (dVar 2) [2]) dNil)))
def m_law_rest_of : List PyData → R PyData := runD 3 2 g_law_rest_of
def g_law_smooth_lots_k03 : Sn := (gSeq (gSet (dArg m_law_draws (dCons (dVar 0) (dCons (dTwo oAdd (dC (.int 3)) (dVar 1)) dNil))) (.nm 2)) (gSeq (gSet (dTwo oMod (dArg bInt (dCons (dTwo oIx (dVar 2) (dC (.int 0))) dNil)) (dC (.int 6))) (.nm 3)) (gSeq (gIf (dAsB (dTwo oLt (dVar 3) (dC (.int 4)))) (gSet (dArg m_law_bounded_lots (dCons (dVar 2) (dCons (dVar 1) dNil))) (.nm 4)) (gSet (dArg m_law_forest_lots (dCons (dVar 2) (dCons (dVar 1) dNil))) (.nm 4))) (gSeq (gIf (dOr (dAsB (dTwo oEq (dVar 3) (dC (.int 3)))) (dAsB (dTwo oEq (dVar 3) (dC (.int 5))))) (gSet (dArg bTuple (dCons (dArg bSorted (dCons (dLc (dItems (dVar 4)) (.nm 5) dYes (dArg m_law_rest_of (dCons (dVar 5) (dCons (dVar 1) dNil))) [5]) dNil)) dNil)) (.nm 4)) gSkip) (gRet (dVar 4))))))
def m_law_smooth_lots_k03 : List PyData → R PyData := runD 6 2 g_law_smooth_lots_k03
end LW
set_option Elab.async false
set_option linter.all false
set_option maxRecDepth 100000
set_option maxHeartbeats 4000000
set_option Elab.async false
set_option linter.all false
set_option maxRecDepth 100000
set_option maxHeartbeats 4000000
namespace LW
open PySem PySem.Spec PyProof.Rows L2 PD
def g_subsets : Sn := (gSeq (gSet (dArg bList (dCons (dVar 0) dNil)) (.nm 2)) (gRet (dArg bCombs (dCons (dVar 2) (dCons (dVar 1) dNil)))))
def m_subsets : List PyData → R PyData := runD 3 2 g_subsets
end LW
set_option Elab.async false
set_option linter.all false
set_option maxRecDepth 100000
set_option maxHeartbeats 4000000
namespace LW
open PySem PySem.Spec PyProof.Rows L2 PD
def g_choose : Sn := (gRet (dTup (dCons (dVar 0) (dCons (dArg bTuple (dCons (dArg m_subsets (dCons (dOne bLstR1 (dVar 0)) (dCons (dVar 1) dNil))) dNil)) dNil))))
def m_choose : List PyData → R PyData := runD 2 2 g_choose
end LW
set_option Elab.async false
set_option linter.all false
set_option maxRecDepth 100000
set_option maxHeartbeats 4000000
namespace LW
open PySem PySem.Spec PyProof.Rows L2 PD
def g_price : Sn := (gRet (dArg bSum (dCons (dLc (dItems (dVar 0)) (.nm 2) dYes (dTwo oIx (dVar 1) (dVar 2)) [2]) dNil)))
def m_price : List PyData → R PyData := runD 3 2 g_price
end LW
set_option Elab.async false
set_option linter.all false
set_option maxRecDepth 100000
set_option maxHeartbeats 4000000
namespace LW
open PySem PySem.Spec PyProof.Rows L2 PD
def g_law_choice : Sn := (gSeq (gSet (dArg m_law_draws (dCons (dVar 0) (dCons (dTwo oAdd (dArg bLen (dCons (dVar 1) dNil)) (dC (.int 1))) dNil))) (.nm 2)) (gRet (dArg bTuple (dCons (dLc (dRng1 (dCons (dArg bLen (dCons (dVar 1) dNil)) dNil)) (.nm 3) dYes (dTwo oIx (dTwo oIx (dTwo oIx (dTwo oIx (dVar 1) (dVar 3)) (dC (.int 0))) (dC (.int 1))) (dTwo oMod (dArg bInt (dCons (dTwo oIx (dVar 2) (dVar 3)) dNil)) (dArg bLen (dCons (dTwo oIx (dTwo oIx (dTwo oIx (dVar 1) (dVar 3)) (dC (.int 0))) (dC (.int 1))) dNil)))) [3]) dNil))))
def m_law_choice : List PyData → R PyData := runD 4 2 g_law_choice
def b_count_loads_1 : Sn := (gAugAt 3 (dVar 6) (dTwo oIx (dVar 4) (dC (.int 2))))
def b_count_loads_2 : Sn := (gFor (dItems (dVar 5)) (.nm 6) b_count_loads_1)
def g_count_loads : Sn := (gSeq (gOwn (dLc (dRng1 (dCons (dVar 0) dNil)) (.nm 7) dYes (dC (.int 0)) [7]) 3) (gSeq (gFor (dZip (dCons (dVar 1) (dCons (dVar 2) dNil))) (.tp [(.nm 4), (.nm 5)]) b_count_loads_2) (gFrz 3 (gRet (dArg bTuple (dCons (dVar 3) dNil))))))
def m_count_loads : List PyData → R PyData := runD 8 3 g_count_loads
def g_players : Sn := (gRet (dLc (dItems (dVar 0)) (.tp [(.nm 1), (.nm 2)]) dYes (dTup (dCons (dVar 1) (dCons (dVar 2) (dCons (dC (.int 1)) dNil)))) [1, 2]))
def m_players : List PyData → R PyData := runD 3 1 g_players
def g_cost_at : Sn := (gRet (dTwo oIx (dTwo oIx (dVar 0) (dVar 1)) (dTwo oSub (dVar 2) (dC (.int 1)))))
def m_cost_at : List PyData → R PyData := runD 3 3 g_cost_at
def g_prices_for : Sn := (gSeq (gSet (dTwo oIx (dVar 0) (dVar 2)) (.tp [(.nm 3), (.nm 4), (.nm 5)])) (gSeq (gSet (dArg m_count_loads (dCons (dTwo oIx (dVar 3) (dC (.int 0))) (dCons (dVar 0) (dCons (dVar 1) dNil)))) (.nm 6)) (gSeq (gSet (dTwo oIx (dVar 1) (dVar 2)) (.nm 7)) (gSeq (gSet (dLc (dRng1 (dCons (dTwo oIx (dVar 3) (dC (.int 0))) dNil)) (.nm 9) dYes (dIf (dAsB (dTwo oIn (dVar 9) (dVar 7))) (dC (.int 0)) (dVar 5)) [9]) (.nm 8)) (gRet (dArg bTuple (dCons (dLc (dEnum (dCons (dVar 8) dNil)) (.tp [(.nm 9), (.nm 10)]) dYes (dArg m_cost_at (dCons (dVar 4) (dCons (dVar 9) (dCons (dTwo oAdd (dTwo oIx (dVar 6) (dVar 9)) (dVar 10)) dNil)))) [9, 10]) dNil)))))))
def m_prices_for : List PyData → R PyData := runD 11 3 g_prices_for
def g_own_prices : Sn := (gRet (dArg m_prices_for (dCons (dArg m_players (dCons (dVar 0) dNil)) (dCons (dVar 1) (dCons (dVar 2) dNil)))))
def m_own_prices : List PyData → R PyData := runD 3 3 g_own_prices
def g_pay : Sn := (gRet (dArg m_price (dCons (dTwo oIx (dVar 1) (dVar 2)) (dCons (dArg m_own_prices (dCons (dVar 0) (dCons (dVar 1) (dCons (dVar 2) dNil)))) dNil))))
def m_pay : List PyData → R PyData := runD 3 3 g_pay
def g_law_loads : Sn := (gRet (dLc (dRng1 (dCons (dVar 1) dNil)) (.nm 2) dYes (dArg bLen (dCons (dLc (dItems (dVar 0)) (.nm 3) (dAsB (dTwo oIn (dVar 2) (dVar 3))) (dVar 3) [3]) dNil)) [2]))
def m_law_loads : List PyData → R PyData := runD 4 2 g_law_loads
def g_law_pay : Sn := (gSeq (gSet (dTwo oIx (dTwo oIx (dVar 0) (dVar 2)) (dC (.int 1))) (.nm 3)) (gSeq (gSet (dArg m_law_loads (dCons (dVar 1) (dCons (dArg bLen (dCons (dVar 3) dNil)) dNil))) (.nm 4)) (gRet (dArg bSum (dCons (dLc (dItems (dTwo oIx (dVar 1) (dVar 2))) (.nm 5) dYes (dTwo oIx (dTwo oIx (dVar 3) (dVar 5)) (dTwo oSub (dTwo oIx (dVar 4) (dVar 5)) (dC (.int 1)))) [5]) dNil)))))
def m_law_pay : List PyData → R PyData := runD 6 3 g_law_pay
end LW
set_option Elab.async false
set_option linter.all false
set_option maxRecDepth 100000
set_option maxHeartbeats 4000000
namespace LW
open PySem PySem.Spec PyProof.Rows L2 PD
def g_law_with : Sn := (gRet (dTwo oAdd (dTwo oAdd (dCut (dVar 0) dNoP (dPart (dVar 1))) (dTup (dCons (dVar 2) dNil))) (dCut (dVar 0) (dPart (dTwo oAdd (dVar 1) (dC (.int 1)))) dNoP)))
def m_law_with : List PyData → R PyData := runD 3 3 g_law_with
end LW
set_option Elab.async false
set_option linter.all false
set_option maxRecDepth 100000
set_option maxHeartbeats 4000000
set_option Elab.async false
set_option linter.all false
set_option maxRecDepth 100000
set_option maxHeartbeats 4000000
set_option Elab.async false
set_option linter.all false
set_option maxRecDepth 100000
set_option maxHeartbeats 4000000
set_option Elab.async false
set_option linter.all false
set_option maxRecDepth 100000
set_option maxHeartbeats 4000000
namespace LW
open PySem PySem.Spec PyProof.Rows L2 PD
def b_law_costs_k79_1 : Sn := (gSeq (gIf (dAsB (dTwo oGt (dVar 10) (dC (.int 0)))) (gSet (dTwo oAdd (dVar 7) (dTwo oIx (dTup (dCons (dC (.int 0)) (dCons (dC (.int 1)) (dCons (dC (.int 3)) (dCons (dC (.int 0)) (dCons (dC (.int 8)) (dCons (dC (.int 2)) dNil))))))) (dTwo oMod (dArg bInt (dCons (dTwo oIx (dVar 4) (dTwo oAdd (dTwo oMul (dVar 6) (dVar 2)) (dVar 10))) dNil)) (dC (.int 6))))) (.nm 7)) gSkip) (gIf (dAsB (dVar 3)) (gApp 9 (dTwo oAdd (dTwo oMul (dVar 7) (dTwo oPow (dC (.int 10)) (dC (.int 30)))) (dVar 8))) (gApp 9 (dVar 7))))
def b_law_costs_k79_2 : Sn := (gSeq (gSet (dTwo oSub (dTwo oMod (dArg bInt (dCons (dTwo oIx (dVar 4) (dTwo oMul (dVar 6) (dVar 2))) dNil)) (dC (.int 9))) (dC (.int 3))) (.nm 7)) (gSeq (gSet (dTwo oMod (dTwo oDiv (dArg bInt (dCons (dTwo oIx (dVar 4) (dTwo oMul (dVar 6) (dVar 2))) dNil)) (dC (.int 9))) (dC (.int 3))) (.nm 8)) (gSeq (gOwn (dLst dNil) 9) (gSeq (gFor (dRng1 (dCons (dVar 2) dNil)) (.nm 10) b_law_costs_k79_1) (gFrz 9 (gApp 5 (dArg bTuple (dCons (dVar 9) dNil))))))))
def g_law_costs_k79 : Sn := (gSeq (gSet (dArg m_law_draws (dCons (dVar 0) (dCons (dTwo oAdd (dTwo oMul (dVar 1) (dVar 2)) (dC (.int 1))) dNil))) (.nm 4)) (gSeq (gOwn (dLst dNil) 5) (gSeq (gFor (dRng1 (dCons (dVar 1) dNil)) (.nm 6) b_law_costs_k79_2) (gFrz 5 (gRet (dArg bTuple (dCons (dVar 5) dNil)))))))
def m_law_costs_k79 : List PyData → R PyData := runD 11 4 g_law_costs_k79
def g_law_any_lots_k79 : Sn := (gSeq (gSet (dArg m_law_draws (dCons (dVar 0) (dCons (dC (.int 9)) dNil))) (.nm 2)) (gSeq (gSet (dArg m_law_parts_of (dCons (dVar 1) dNil)) (.nm 3)) (gSeq (gSet (dLc (dRng1 (dCons (dTwo oAdd (dC (.int 1)) (dTwo oMod (dArg bInt (dCons (dTwo oIx (dVar 2) (dC (.int 2))) dNil)) (dC (.int 6)))) dNil)) (.nm 5) dYes (dTwo oIx (dVar 3) (dTwo oMod (dArg bInt (dCons (dTwo oIx (dVar 2) (dTwo oAdd (dC (.int 3)) (dVar 5))) dNil)) (dArg bLen (dCons (dVar 3) dNil)))) [5]) (.nm 4)) (gRet (dArg m_law_antichain (dCons (dVar 4) dNil))))))
def m_law_any_lots_k79 : List PyData → R PyData := runD 6 2 g_law_any_lots_k79
def g_law_lots_k79 : Sn := (gSeq (gSet (dArg m_law_draws (dCons (dVar 0) (dCons (dC (.int 2)) dNil))) (.nm 2)) (gSeq (gIf (dAsB (dTwo oEq (dTwo oMod (dTwo oDiv (dArg bInt (dCons (dTwo oIx (dVar 2) (dC (.int 1))) dNil)) (dC (.int 8))) (dC (.int 2))) (dC (.int 0)))) (gRet (dArg m_law_smooth_lots_k03 (dCons (dVar 0) (dCons (dVar 1) dNil)))) gSkip) (gRet (dArg m_law_any_lots_k79 (dCons (dVar 0) (dCons (dVar 1) dNil))))))
def m_law_lots_k79 : List PyData → R PyData := runD 3 2 g_law_lots_k79
end LW
set_option Elab.async false
set_option linter.all false
set_option maxRecDepth 100000
set_option maxHeartbeats 4000000
namespace LW
open PySem PySem.Spec PyProof.Rows L2 PD
def g_movers : Sn := (gRet (dLc (dEnum (dCons (dVar 0) dNil)) (.tp [(.nm 2), (.nm 3)]) (dAsB (dTwo oNe (dVar 3) (dTwo oIx (dVar 1) (dVar 2)))) (dVar 2) [2, 3]))
def m_movers : List PyData → R PyData := runD 4 2 g_movers
def g_all_pay_less : Sn := (gRet (dArg bAll (dCons (dLc (dItems (dVar 1)) (.nm 4) dYes (dTwo oLt (dArg m_pay (dCons (dVar 0) (dCons (dVar 3) (dCons (dVar 4) dNil)))) (dArg m_pay (dCons (dVar 0) (dCons (dVar 2) (dCons (dVar 4) dNil))))) [4]) dNil)))
def m_all_pay_less : List PyData → R PyData := runD 5 4 g_all_pay_less
def g_is_step : Sn := (gSeq (gSet (dArg m_movers (dCons (dVar 1) (dCons (dVar 2) dNil))) (.nm 3)) (gRet (dAndV (dTwo oEq (dArg bLen (dCons (dVar 3) dNil)) (dC (.int 1))) (dArg m_all_pay_less (dCons (dVar 0) (dCons (dVar 3) (dCons (dVar 1) (dCons (dVar 2) dNil))))))))
def m_is_step : List PyData → R PyData := runD 4 3 g_is_step
def g_is_ring : Sn := (gSeq (gIf (dAsB (dTwo oLt (dArg bLen (dCons (dVar 1) dNil)) (dC (.int 3)))) (gRet (dC (.bool false))) gSkip) (gRet (dArg bAll (dCons (dLc (dRng1 (dCons (dArg bLen (dCons (dVar 1) dNil)) dNil)) (.nm 2) dYes (dArg m_is_step (dCons (dVar 0) (dCons (dTwo oIx (dVar 1) (dTwo oSub (dVar 2) (dC (.int 1)))) (dCons (dTwo oIx (dVar 1) (dVar 2)) dNil)))) [2]) dNil))))
def m_is_ring : List PyData → R PyData := runD 3 2 g_is_ring
def b_law_are_lots_1 : Sn := (gIf (dOr (dNot (dAsB (dArg m_law_is_set (dCons (dTwo oIx (dVar 0) (dVar 2)) (dCons (dTwo oIx (dTwo oIx (dTwo oIx (dVar 1) (dVar 2)) (dC (.int 0))) (dC (.int 0))) dNil))))) (dAsB (dTwo oNotIn (dTwo oIx (dVar 0) (dVar 2)) (dTwo oIx (dTwo oIx (dTwo oIx (dVar 1) (dVar 2)) (dC (.int 0))) (dC (.int 1)))))) (gRet (dC (.bool false))) gSkip)
def g_law_are_lots : Sn := (gSeq (gIf (dOr (dNot (dAsB (dOne (oIsi "tuple") (dVar 0)))) (dAsB (dTwo oNe (dArg bLen (dCons (dVar 0) dNil)) (dArg bLen (dCons (dVar 1) dNil))))) (gRet (dC (.bool false))) gSkip) (gSeq (gFor (dRng1 (dCons (dArg bLen (dCons (dVar 1) dNil)) dNil)) (.nm 2) b_law_are_lots_1) (gRet (dC (.bool true)))))
def m_law_are_lots : List PyData → R PyData := runD 3 2 g_law_are_lots
end LW
set_option Elab.async false
set_option linter.all false
set_option maxRecDepth 100000
set_option maxHeartbeats 4000000
namespace LW
open PySem PySem.Spec PyProof.Rows L2 PD
def b_make_game_k48_1 : Sn := (gSeq (gSet (dTwo oIx (dVar 2) (dC (.int 0))) (.nm 4)) (gSeq (gIf (dOr (dAsB (dTwo oNe (dVar 4) (dTwo oIx (dTwo oIx (dTwo oIx (dVar 0) (dC (.int 0))) (dC (.int 0))) (dC (.int 0))))) (dAsB (dTwo oNe (dVar 4) (dArg bLen (dCons (dVar 3) dNil))))) gBad gSkip) (gIf (dAnd (dAsB (dTwo oGt (dVar 4) (dC (.int 0)))) (dAsB (dTwo oLt (dArg bLen (dCons (dTwo oIx (dVar 3) (dC (.int 0))) dNil)) (dArg bLen (dCons (dVar 0) dNil))))) gBad gSkip)))
def g_make_game_k48 : Sn := (gSeq (gFor (dEnum (dCons (dVar 0) dNil)) (.tp [(.nm 1), (.tp [(.nm 2), (.nm 3)])]) b_make_game_k48_1) (gRet (dArg bTuple (dCons (dVar 0) dNil))))
def m_make_game_k48 : List PyData → R PyData := runD 5 1 g_make_game_k48
end LW
set_option Elab.async false
set_option linter.all false
set_option maxRecDepth 100000
set_option maxHeartbeats 4000000
namespace LW
open PySem PySem.Spec PyProof.Rows L2 PD
def b_law_drawn_names_1 : Sn := (gAppPop 4 3 (dThaw (dTwo oMod (dArg bInt (dCons (dTwo oIx (dVar 0) (dVar 5)) dNil)) (dArg bLen (dCons (dVar 3) dNil)))))
def g_law_drawn_names : Sn := (gSeq (gOwn (dOne bLstR1 (dVar 2)) 3) (gSeq (gOwn (dLst dNil) 4) (gSeq (gFor (dRng1 (dCons (dVar 1) dNil)) (.nm 5) b_law_drawn_names_1) (gFrz 4 (gRet (dArg bTuple (dCons (dVar 4) dNil)))))))
def m_law_drawn_names : List PyData → R PyData := runD 6 3 g_law_drawn_names
def g_law_named : Sn := (gRet (dArg bTuple (dCons (dArg bSorted (dCons (dLc (dItems (dVar 0)) (.nm 2) dYes (dTwo oIx (dVar 1) (dVar 2)) [2]) dNil)) dNil)))
def m_law_named : List PyData → R PyData := runD 3 2 g_law_named
def g_law_renamed : Sn := (gRet (dArg bTuple (dCons (dArg bSorted (dCons (dLc (dItems (dVar 0)) (.nm 2) dYes (dArg m_law_named (dCons (dVar 2) (dCons (dVar 1) dNil))) [2]) dNil)) dNil)))
def m_law_renamed : List PyData → R PyData := runD 3 2 g_law_renamed
def b_law_game_k86_1 : Sn := (gSeq (gSet (dArg m_law_cell (dCons (dVar 0) (dCons (dTwo oAdd (dTwo oAdd (dVar 1) (dC (.int 1))) (dTwo oMul (dC (.int 2)) (dVar 7))) dNil))) (.nm 8)) (gSeq (gIf (dAsB (dVar 2)) (gSet (dArg m_law_smooth_lots_k03 (dCons (dVar 8) (dCons (dVar 5) dNil))) (.nm 9)) (gSet (dArg m_law_lots_k79 (dCons (dVar 8) (dCons (dVar 5) dNil))) (.nm 9))) (gSeq (gSet (dTwo oAdd (dVar 4) (dTwo oMod (dArg bInt (dCons (dTwo oIx (dVar 3) (dC (.int 2))) dNil)) (dC (.int 2)))) (.nm 10)) (gSeq (gSet (dArg m_law_costs_k79 (dCons (dArg m_law_cell (dCons (dVar 0) (dCons (dTwo oAdd (dTwo oAdd (dVar 1) (dC (.int 2))) (dTwo oMul (dC (.int 2)) (dVar 7))) dNil))) (dCons (dVar 5) (dCons (dVar 10) (dCons (dTwo oEq (dTwo oMod (dArg bInt (dCons (dTwo oIx (dVar 3) (dC (.int 3))) dNil)) (dC (.int 8))) (dC (.int 1))) dNil))))) (.nm 11)) (gApp 6 (dTup (dCons (dTup (dCons (dVar 5) (dCons (dVar 9) dNil))) (dCons (dVar 11) dNil))))))))
def g_law_game_k86 : Sn := (gSeq (gSet (dArg m_law_draws (dCons (dArg m_law_cell (dCons (dVar 0) (dCons (dVar 1) dNil))) (dCons (dC (.int 4)) dNil))) (.nm 3)) (gSeq (gSet (dTwo oIx (dTup (dCons (dC (.int 1)) (dCons (dC (.int 2)) (dCons (dC (.int 2)) (dCons (dC (.int 2)) (dCons (dC (.int 3)) (dCons (dC (.int 3)) (dCons (dC (.int 2)) (dCons (dC (.int 0)) dNil))))))))) (dTwo oMod (dArg bInt (dCons (dTwo oIx (dVar 3) (dC (.int 0))) dNil)) (dC (.int 8)))) (.nm 4)) (gSeq (gSet (dTwo oIx (dTup (dCons (dC (.int 3)) (dCons (dC (.int 4)) (dCons (dC (.int 3)) (dCons (dC (.int 2)) (dCons (dC (.int 3)) (dCons (dC (.int 1)) (dCons (dC (.int 4)) (dCons (dC (.int 0)) dNil))))))))) (dTwo oMod (dArg bInt (dCons (dTwo oIx (dVar 3) (dC (.int 1))) dNil)) (dC (.int 8)))) (.nm 5)) (gSeq (gOwn (dLst dNil) 6) (gSeq (gFor (dRng1 (dCons (dVar 4) dNil)) (.nm 7) b_law_game_k86_1) (gFrz 6 (gRet (dArg bTuple (dCons (dVar 6) dNil)))))))))
def m_law_game_k86 : List PyData → R PyData := runD 12 3 g_law_game_k86
end LW
set_option Elab.async false
set_option linter.all false
set_option maxRecDepth 100000
set_option maxHeartbeats 4000000
namespace LW
open PySem PySem.Spec PyProof.Rows L2 PD
def g_law_changed_k85 : Sn := (gSeq (gSet (dTwo oMod (dArg bInt (dCons (dTwo oIx (dVar 2) (dC (.int 0))) dNil)) (dC (.int 12))) (.nm 3)) (gSeq (gSet (dC (.int 0)) (.nm 4)) (gSeq (gIf (dAsB (dTwo oGt (dArg bLen (dCons (dVar 1) dNil)) (dC (.int 0)))) (gSet (dTwo oMod (dArg bInt (dCons (dTwo oIx (dVar 2) (dC (.int 1))) dNil)) (dArg bLen (dCons (dVar 1) dNil))) (.nm 4)) gSkip) (gSeq (gIf (dAsB (dTwo oEq (dVar 3) (dC (.int 1)))) (gSet (dTwo oAdd (dCut (dVar 1) (dPart (dVar 4)) dNoP) (dCut (dVar 1) dNoP (dPart (dVar 4)))) (.nm 1)) gSkip) (gSeq (gIf (dAsB (dTwo oEq (dVar 3) (dC (.int 2)))) (gSet (dLc (dRng1 (dCons (dArg bLen (dCons (dVar 1) dNil)) dNil)) (.nm 10) dYes (dTwo oIx (dVar 1) (dTwo oSub (dTwo oSub (dArg bLen (dCons (dVar 1) dNil)) (dC (.int 1))) (dVar 10))) [10]) (.nm 1)) gSkip) (gSeq (gIf (dAsB (dTwo oEq (dVar 3) (dC (.int 3)))) (gSet (dTwo oAdd (dCut (dVar 1) dNoP (dPart (dVar 4))) (dCut (dVar 1) (dPart (dTwo oAdd (dVar 4) (dC (.int 1)))) dNoP)) (.nm 1)) gSkip) (gSeq (gIf (dAsB (dTwo oEq (dVar 3) (dC (.int 4)))) (gSet (dTwo oAdd (dTwo oAdd (dCut (dVar 1) dNoP (dPart (dVar 4))) (dCut (dVar 1) (dPart (dVar 4)) (dPart (dTwo oAdd (dVar 4) (dC (.int 1)))))) (dCut (dVar 1) (dPart (dVar 4)) dNoP)) (.nm 1)) gSkip) (gSeq (gIf (dAsB (dTwo oEq (dVar 3) (dC (.int 5)))) (gSet (dTwo oAdd (dTwo oAdd (dCut (dVar 1) dNoP (dPart (dVar 4))) (dLst (dCons (dArg m_law_choice (dCons (dTwo oIx (dVar 2) (dC (.int 2))) (dCons (dVar 0) dNil))) dNil))) (dCut (dVar 1) (dPart (dVar 4)) dNoP)) (.nm 1)) gSkip) (gSeq (gIf (dAsB (dTwo oEq (dVar 3) (dC (.int 6)))) (gSet (dTwo oAdd (dVar 1) (dVar 1)) (.nm 1)) gSkip) (gSeq (gIf (dAsB (dTwo oEq (dVar 3) (dC (.int 7)))) (gSet (dCut (dVar 1) dNoP (dPart (dTwo oMod (dArg bInt (dCons (dTwo oIx (dVar 2) (dC (.int 2))) dNil)) (dC (.int 3))))) (.nm 1)) gSkip) (gSeq (gIf (dAnd (dAsB (dTwo oEq (dVar 3) (dC (.int 8)))) (dAnd (dAsB (dTwo oGt (dArg bLen (dCons (dVar 0) dNil)) (dC (.int 0)))) (dAsB (dTwo oGt (dTwo oIx (dTwo oIx (dTwo oIx (dVar 0) (dC (.int 0))) (dC (.int 0))) (dC (.int 0))) (dC (.int 0)))))) (gSeq (gSet (dTwo oMod (dArg bInt (dCons (dTwo oIx (dVar 2) (dC (.int 1))) dNil)) (dArg bLen (dCons (dVar 0) dNil))) (.nm 5)) (gSeq (gSet (dTwo oMod (dArg bInt (dCons (dTwo oIx (dVar 2) (dC (.int 2))) dNil)) (dTwo oIx (dTwo oIx (dTwo oIx (dVar 0) (dC (.int 0))) (dC (.int 0))) (dC (.int 0)))) (.nm 6)) (gSeq (gSet (dTwo oIx (dTwo oIx (dVar 0) (dVar 5)) (dC (.int 1))) (.nm 7)) (gSeq (gSet (dTwo oMod (dArg bInt (dCons (dTwo oIx (dVar 2) (dC (.int 3))) dNil)) (dC (.int 6))) (.nm 8)) (gSeq (gSet (dArg bTuple (dCons (dLc (dRng1 (dCons (dArg bLen (dCons (dTwo oIx (dVar 7) (dVar 6)) dNil)) dNil)) (.nm 10) dYes (dTwo oAdd (dVar 8) (dTwo oMul (dTwo oMod (dArg bInt (dCons (dTwo oIx (dVar 2) (dC (.int 4))) dNil)) (dC (.int 4))) (dArg bInt (dCons (dTwo oGt (dVar 10) (dC (.int 0))) dNil)))) [10]) dNil)) (.nm 9)) (gSeq (gSet (dTwo oAdd (dTwo oAdd (dCut (dVar 7) dNoP (dPart (dVar 6))) (dTup (dCons (dVar 9) dNil))) (dCut (dVar 7) (dPart (dTwo oAdd (dVar 6) (dC (.int 1)))) dNoP)) (.nm 7)) (gSet (dArg m_law_with (dCons (dVar 0) (dCons (dVar 5) (dCons (dTup (dCons (dTwo oIx (dTwo oIx (dVar 0) (dVar 5)) (dC (.int 0))) (dCons (dVar 7) dNil))) dNil)))) (.nm 0)))))))) gSkip) (gRet (dTup (dCons (dVar 0) (dCons (dArg bTuple (dCons (dVar 1) dNil)) dNil)))))))))))))))
def m_law_changed_k85 : List PyData → R PyData := runD 11 3 g_law_changed_k85
def g_round_costs : Sn := (gSeq (gDisp 1 [((dVar 0), (dTup (dCons (dC (.int 2)) (dCons (dC (.int 3)) (dCons (dC (.int 3)) dNil))))), ((dTwo oMod (dTwo oAdd (dVar 0) (dC (.int 1))) (dC (.int 3))), (dTup (dCons (dC (.int 1)) (dCons (dC (.int 4)) (dCons (dC (.int 4)) dNil))))), ((dTwo oMod (dTwo oAdd (dVar 0) (dC (.int 2))) (dC (.int 3))), (dTup (dCons (dC (.int 5)) (dCons (dC (.int 5)) (dCons (dC (.int 5)) dNil)))))]) (gRet (dArg bTuple (dCons (dLc (dRng1 (dCons (dC (.int 3)) dNil)) (.nm 2) dYes (dDkGet 1 (dVar 2)) [2]) dNil))))
def m_round_costs : List PyData → R PyData := runD 3 1 g_round_costs
def g_round_choice : Sn := (gRet (dArg bTuple (dCons (dLc (dEnum (dCons (dVar 0) dNil)) (.tp [(.nm 1), (.nm 2)]) dYes (dTup (dCons (dTwo oMod (dTwo oAdd (dVar 1) (dVar 2)) (dC (.int 3))) dNil)) [1, 2]) dNil)))
def m_round_choice : List PyData → R PyData := runD 3 1 g_round_choice
def g_round_game : Sn := (gSeq (gSet (dArg m_make_game_k48 (dCons (dLc (dRng1 (dCons (dC (.int 3)) dNil)) (.nm 2) dYes (dTup (dCons (dArg m_choose (dCons (dC (.int 3)) (dCons (dC (.int 1)) dNil))) (dCons (dArg m_round_costs (dCons (dVar 2) dNil)) dNil))) [2]) dNil)) (.nm 0)) (gSeq (gSet (dLst (dCons (dTup (dCons (dC (.int 0)) (dCons (dC (.int 0)) (dCons (dC (.int 1)) dNil)))) (dCons (dTup (dCons (dC (.int 0)) (dCons (dC (.int 1)) (dCons (dC (.int 1)) dNil)))) (dCons (dTup (dCons (dC (.int 0)) (dCons (dC (.int 1)) (dCons (dC (.int 0)) dNil)))) (dCons (dTup (dCons (dC (.int 1)) (dCons (dC (.int 1)) (dCons (dC (.int 0)) dNil)))) (dCons (dTup (dCons (dC (.int 1)) (dCons (dC (.int 0)) (dCons (dC (.int 0)) dNil)))) (dCons (dTup (dCons (dC (.int 1)) (dCons (dC (.int 0)) (dCons (dC (.int 1)) dNil)))) dNil))))))) (.nm 1)) (gRet (dTup (dCons (dVar 0) (dCons (dArg bTuple (dCons (dLc (dItems (dVar 1)) (.nm 3) dYes (dArg m_round_choice (dCons (dVar 3) dNil)) [3]) dNil)) dNil))))))
def m_round_game : List PyData → R PyData := runD 4 0 g_round_game
def b_law_own_round_1 : Sn := (gSetAt 8 (dTwo oIx (dVar 2) (dVar 9)) (dArg bTuple (dCons (dLc (dItems (dTwo oIx (dTwo oIx (dVar 4) (dVar 6)) (dVar 9))) (.nm 12) dYes (dTwo oSub (dTwo oAdd (dTwo oMul (dVar 12) (dVar 7)) (dTwo oMod (dArg bInt (dCons (dTwo oIx (dVar 0) (dTwo oAdd (dC (.int 5)) (dVar 6))) dNil)) (dC (.int 9)))) (dC (.int 4))) [12]) dNil)))
def b_law_own_round_2 : Sn := (gSeq (gSet (dTwo oIx (dTup (dCons (dC (.int 1)) (dCons (dC (.int 3)) (dCons (dTwo oPow (dC (.int 10)) (dC (.int 30))) dNil)))) (dTwo oMod (dArg bInt (dCons (dTwo oIx (dVar 0) (dC (.int 4))) dNil)) (dC (.int 3)))) (.nm 7)) (gSeq (gOwn (dLc (dRng1 (dCons (dVar 1) dNil)) (.nm 9) dYes (dTup (dCons (dC (.int 0)) (dCons (dC (.int 0)) (dCons (dC (.int 0)) dNil)))) [9]) 8) (gSeq (gFor (dRng1 (dCons (dC (.int 3)) dNil)) (.nm 9) b_law_own_round_1) (gFrz 8 (gApp 5 (dTup (dCons (dTup (dCons (dVar 1) (dCons (dArg m_law_renamed (dCons (dTwo oIx (dVar 3) (dVar 6)) (dCons (dVar 2) dNil))) dNil))) (dCons (dArg bTuple (dCons (dVar 8) dNil)) dNil))))))))
def b_law_own_round_3 : Sn := (gApp 10 (dArg bTuple (dCons (dLc (dItems (dVar 11)) (.nm 9) dYes (dTup (dCons (dTwo oIx (dVar 2) (dVar 9)) dNil)) [9]) dNil)))
def g_law_own_round : Sn := (gSeq (gSet (dTwo oAdd (dC (.int 3)) (dTwo oMod (dArg bInt (dCons (dTwo oIx (dVar 0) (dC (.int 0))) dNil)) (dC (.int 2)))) (.nm 1)) (gSeq (gSet (dArg m_law_drawn_names (dCons (dCut (dVar 0) (dPart (dC (.int 1))) dNoP) (dCons (dC (.int 3)) (dCons (dVar 1) dNil)))) (.nm 2)) (gSeq (gSet (dTup (dCons (dTup (dCons (dTup (dCons (dC (.int 0)) dNil)) (dCons (dTup (dCons (dC (.int 1)) dNil)) dNil))) (dCons (dTup (dCons (dTup (dCons (dC (.int 1)) dNil)) (dCons (dTup (dCons (dC (.int 2)) dNil)) dNil))) (dCons (dTup (dCons (dTup (dCons (dC (.int 0)) dNil)) (dCons (dTup (dCons (dC (.int 2)) dNil)) dNil))) dNil)))) (.nm 3)) (gSeq (gSet (dTup (dCons (dTup (dCons (dTup (dCons (dC (.int 1)) (dCons (dC (.int 4)) (dCons (dC (.int 4)) dNil)))) (dCons (dTup (dCons (dC (.int 2)) (dCons (dC (.int 3)) (dCons (dC (.int 3)) dNil)))) (dCons (dTup (dCons (dC (.int 0)) (dCons (dC (.int 0)) (dCons (dC (.int 0)) dNil)))) dNil)))) (dCons (dTup (dCons (dTup (dCons (dC (.int 0)) (dCons (dC (.int 0)) (dCons (dC (.int 0)) dNil)))) (dCons (dTup (dCons (dC (.int 1)) (dCons (dC (.int 4)) (dCons (dC (.int 4)) dNil)))) (dCons (dTup (dCons (dC (.int 2)) (dCons (dC (.int 3)) (dCons (dC (.int 3)) dNil)))) dNil)))) (dCons (dTup (dCons (dTup (dCons (dC (.int 2)) (dCons (dC (.int 3)) (dCons (dC (.int 3)) dNil)))) (dCons (dTup (dCons (dC (.int 0)) (dCons (dC (.int 0)) (dCons (dC (.int 0)) dNil)))) (dCons (dTup (dCons (dC (.int 1)) (dCons (dC (.int 4)) (dCons (dC (.int 4)) dNil)))) dNil)))) dNil)))) (.nm 4)) (gSeq (gOwn (dLst dNil) 5) (gSeq (gFor (dRng1 (dCons (dC (.int 3)) dNil)) (.nm 6) b_law_own_round_2) (gSeq (gOwn (dLst dNil) 10) (gSeq (gFor (dItems (dTup (dCons (dTup (dCons (dC (.int 1)) (dCons (dC (.int 1)) (dCons (dC (.int 2)) dNil)))) (dCons (dTup (dCons (dC (.int 1)) (dCons (dC (.int 2)) (dCons (dC (.int 2)) dNil)))) (dCons (dTup (dCons (dC (.int 0)) (dCons (dC (.int 2)) (dCons (dC (.int 2)) dNil)))) (dCons (dTup (dCons (dC (.int 0)) (dCons (dC (.int 2)) (dCons (dC (.int 0)) dNil)))) (dCons (dTup (dCons (dC (.int 0)) (dCons (dC (.int 1)) (dCons (dC (.int 0)) dNil)))) (dCons (dTup (dCons (dC (.int 1)) (dCons (dC (.int 1)) (dCons (dC (.int 0)) dNil)))) dNil)))))))) (.nm 11) b_law_own_round_3) (gFrz 10 (gFrz 5 (gRet (dTup (dCons (dArg bTuple (dCons (dVar 5) dNil)) (dCons (dVar 10) dNil))))))))))))))
def m_law_own_round : List PyData → R PyData := runD 13 1 g_law_own_round
def b_law_is_ring_1 : Sn := (gSeq (gSet (dTwo oIx (dVar 1) (dTwo oSub (dVar 2) (dC (.int 1)))) (.nm 3)) (gSeq (gSet (dTwo oIx (dVar 1) (dVar 2)) (.nm 4)) (gSeq (gSet (dLc (dRng1 (dCons (dArg bLen (dCons (dVar 0) dNil)) dNil)) (.nm 6) (dAsB (dTwo oNe (dTwo oIx (dVar 3) (dVar 6)) (dTwo oIx (dVar 4) (dVar 6)))) (dVar 6) [6]) (.nm 5)) (gSeq (gIf (dAsB (dTwo oNe (dArg bLen (dCons (dVar 5) dNil)) (dC (.int 1)))) (gRet (dC (.bool false))) gSkip) (gIf (dAsB (dTwo oGe (dArg m_law_pay (dCons (dVar 0) (dCons (dVar 4) (dCons (dTwo oIx (dVar 5) (dC (.int 0))) dNil)))) (dArg m_law_pay (dCons (dVar 0) (dCons (dVar 3) (dCons (dTwo oIx (dVar 5) (dC (.int 0))) dNil)))))) (gRet (dC (.bool false))) gSkip)))))
def g_law_is_ring : Sn := (gSeq (gIf (dAsB (dTwo oLt (dArg bLen (dCons (dVar 1) dNil)) (dC (.int 3)))) (gRet (dC (.bool false))) gSkip) (gSeq (gFor (dRng1 (dCons (dArg bLen (dCons (dVar 1) dNil)) dNil)) (.nm 2) b_law_is_ring_1) (gRet (dC (.bool true)))))
def m_law_is_ring : List PyData → R PyData := runD 7 2 g_law_is_ring
def g_law_are_two : Sn := (gRet (dAndV (dOne (oIsi "tuple") (dVar 0)) (dTwo oEq (dArg bLen (dCons (dVar 0) dNil)) (dC (.int 2)))))
def m_law_are_two : List PyData → R PyData := runD 1 1 g_law_are_two
def b_law_is_row_1 : Sn := (gIf (dOr (dNot (dAsB (dArg m_law_is_integer (dCons (dTwo oIx (dVar 0) (dVar 2)) dNil)))) (dAnd (dAsB (dTwo oGt (dVar 2) (dC (.int 0)))) (dAsB (dTwo oLt (dTwo oIx (dVar 0) (dVar 2)) (dTwo oIx (dVar 0) (dTwo oSub (dVar 2) (dC (.int 1)))))))) (gRet (dC (.bool false))) gSkip)
def g_law_is_row : Sn := (gSeq (gIf (dOr (dNot (dAsB (dOne (oIsi "tuple") (dVar 0)))) (dAsB (dTwo oLt (dArg bLen (dCons (dVar 0) dNil)) (dVar 1)))) (gRet (dC (.bool false))) gSkip) (gSeq (gFor (dRng1 (dCons (dArg bLen (dCons (dVar 0) dNil)) dNil)) (.nm 2) b_law_is_row_1) (gRet (dC (.bool true)))))
def m_law_is_row : List PyData → R PyData := runD 3 2 g_law_is_row
def g_law_is_smooth_taker : Sn := (gSeq (gIf (dOr (dNot (dAsB (dArg m_law_are_two (dCons (dVar 0) dNil)))) (dNot (dAsB (dArg m_law_are_two (dCons (dTwo oIx (dVar 0) (dC (.int 0))) dNil))))) (gRet (dC (.bool false))) gSkip) (gSeq (gSet (dTwo oIx (dTwo oIx (dVar 0) (dC (.int 0))) (dC (.int 1))) (.nm 3)) (gSeq (gSet (dTwo oIx (dVar 0) (dC (.int 1))) (.nm 4)) (gSeq (gIf (dOr (dNot (dAsB (dArg m_law_is_integer (dCons (dTwo oIx (dTwo oIx (dVar 0) (dC (.int 0))) (dC (.int 0))) dNil)))) (dOr (dAsB (dTwo oNe (dTwo oIx (dTwo oIx (dVar 0) (dC (.int 0))) (dC (.int 0))) (dVar 1))) (dOr (dNot (dAsB (dOne (oIsi "tuple") (dVar 3)))) (dAsB (dTwo oEq (dArg bLen (dCons (dVar 3) dNil)) (dC (.int 0))))))) (gRet (dC (.bool false))) gSkip) (gSeq (gIf (dOr (dNot (dAsB (dArg bAll (dCons (dLc (dItems (dVar 3)) (.nm 5) dYes (dArg m_law_is_set (dCons (dVar 5) (dCons (dVar 1) dNil))) [5]) dNil)))) (dAsB (dTwo oNe (dArg m_law_antichain (dCons (dVar 3) dNil)) (dVar 3)))) (gRet (dC (.bool false))) gSkip) (gSeq (gIf (dOr (dNot (dAsB (dOne (oIsi "tuple") (dVar 4)))) (dOr (dAsB (dTwo oNe (dArg bLen (dCons (dVar 4) dNil)) (dVar 1))) (dNot (dAsB (dArg bAll (dCons (dLc (dItems (dVar 4)) (.nm 6) dYes (dArg m_law_is_row (dCons (dVar 6) (dCons (dVar 2) dNil))) [6]) dNil)))))) (gRet (dC (.bool false))) gSkip) (gRet (dAndV (dArg bAll (dCons (dLc (dItems (dVar 4)) (.nm 6) dYes (dTwo oEq (dArg bLen (dCons (dVar 6) dNil)) (dArg bLen (dCons (dTwo oIx (dVar 4) (dC (.int 0))) dNil))) [6]) dNil)) (dOne (fun d => .ok (.bool (isNone d))) (dArg m_law_fault (dCons (dVar 3) dNil)))))))))))
def m_law_is_smooth_taker : List PyData → R PyData := runD 7 3 g_law_is_smooth_taker
def g_law_is_round : Sn := (gSeq (gIf (dOr (dNot (dAsB (dArg m_law_are_two (dCons (dVar 0) dNil)))) (dOr (dNot (dAsB (dOne (oIsi "tuple") (dTwo oIx (dVar 0) (dC (.int 0)))))) (dNot (dAsB (dOne (oIsi "tuple") (dTwo oIx (dVar 0) (dC (.int 1)))))))) (gRet (dC (.bool false))) gSkip) (gSeq (gSet (dTwo oIx (dVar 0) (dC (.int 0))) (.nm 1)) (gSeq (gIf (dOr (dAsB (dTwo oLt (dArg bLen (dCons (dVar 1) dNil)) (dC (.int 1)))) (dOr (dAsB (dTwo oGt (dArg bLen (dCons (dVar 1) dNil)) (dC (.int 4)))) (dOr (dAsB (dTwo oLt (dArg bLen (dCons (dTwo oIx (dVar 0) (dC (.int 1))) dNil)) (dC (.int 3)))) (dAsB (dTwo oGt (dArg bLen (dCons (dTwo oIx (dVar 0) (dC (.int 1))) dNil)) (dC (.int 12))))))) (gRet (dC (.bool false))) gSkip) (gSeq (gIf (dOr (dNot (dAsB (dArg m_law_are_two (dCons (dTwo oIx (dVar 1) (dC (.int 0))) dNil)))) (dOr (dNot (dAsB (dArg m_law_are_two (dCons (dTwo oIx (dTwo oIx (dVar 1) (dC (.int 0))) (dC (.int 0))) dNil)))) (dNot (dAsB (dArg m_law_is_integer (dCons (dTwo oIx (dTwo oIx (dTwo oIx (dVar 1) (dC (.int 0))) (dC (.int 0))) (dC (.int 0))) dNil)))))) (gRet (dC (.bool false))) gSkip) (gSeq (gSet (dTwo oIx (dTwo oIx (dTwo oIx (dVar 1) (dC (.int 0))) (dC (.int 0))) (dC (.int 0))) (.nm 2)) (gSeq (gIf (dOr (dAsB (dTwo oLt (dVar 2) (dC (.int 0)))) (dOr (dAsB (dTwo oGt (dVar 2) (dC (.int 6)))) (dNot (dAsB (dArg bAll (dCons (dLc (dItems (dVar 1)) (.nm 3) dYes (dArg m_law_is_smooth_taker (dCons (dVar 3) (dCons (dVar 2) (dCons (dArg bLen (dCons (dVar 1) dNil)) dNil)))) [3]) dNil)))))) (gRet (dC (.bool false))) gSkip) (gRet (dAndV (dArg bAll (dCons (dLc (dItems (dTwo oIx (dVar 0) (dC (.int 1)))) (.nm 4) dYes (dArg m_law_are_lots (dCons (dVar 4) (dCons (dVar 1) dNil))) [4]) dNil)) (dArg m_law_is_ring (dCons (dVar 1) (dCons (dTwo oIx (dVar 0) (dC (.int 1))) dNil)))))))))))
def m_law_is_round : List PyData → R PyData := runD 5 1 g_law_is_round
def b_law_walk_1 : Sn := (gSeq (gApp 4 (dVar 3)) (gIf (dAsB (dTwo oGt (dArg bLen (dCons (dVar 1) dNil)) (dC (.int 0)))) (gSeq (gSet (dTwo oMod (dArg bInt (dCons (dTwo oIx (dVar 2) (dTwo oAdd (dC (.int 1)) (dTwo oMul (dC (.int 2)) (dVar 5)))) dNil)) (dArg bLen (dCons (dVar 1) dNil))) (.nm 6)) (gSeq (gSet (dTwo oIx (dTwo oIx (dTwo oIx (dVar 1) (dVar 6)) (dC (.int 0))) (dC (.int 1))) (.nm 7)) (gSet (dArg m_law_with (dCons (dVar 3) (dCons (dVar 6) (dCons (dTwo oIx (dVar 7) (dTwo oMod (dArg bInt (dCons (dTwo oIx (dVar 2) (dTwo oAdd (dC (.int 2)) (dTwo oMul (dC (.int 2)) (dVar 5)))) dNil)) (dArg bLen (dCons (dVar 7) dNil)))) dNil)))) (.nm 3)))) gSkip))
def g_law_walk : Sn := (gSeq (gSet (dArg m_law_draws (dCons (dVar 0) (dCons (dC (.int 18)) dNil))) (.nm 2)) (gSeq (gSet (dArg m_law_choice (dCons (dTwo oIx (dVar 2) (dC (.int 17))) (dCons (dVar 1) dNil))) (.nm 3)) (gSeq (gOwn (dLst dNil) 4) (gSeq (gFor (dRng1 (dCons (dTwo oMod (dArg bInt (dCons (dTwo oIx (dVar 2) (dC (.int 0))) dNil)) (dC (.int 9))) dNil)) (.nm 5) b_law_walk_1) (gFrz 4 (gRet (dVar 4)))))))
def m_law_walk : List PyData → R PyData := runD 8 2 g_law_walk
def g_law_k85 : Sn := (gSeq (gSet (dArg m_law_draws (dCons (dArg m_law_cell (dCons (dVar 0) (dCons (dC (.int 0)) dNil))) (dCons (dC (.int 9)) dNil))) (.nm 1)) (gSeq (gIf (dAsB (dTwo oEq (dTwo oMod (dArg bInt (dCons (dTwo oIx (dVar 1) (dC (.int 8))) dNil)) (dC (.int 2))) (dC (.int 0)))) (gSet (dArg m_law_own_round (dCons (dVar 1) dNil)) (.nm 2)) (gSeq (gSet (dArg m_law_game_k86 (dCons (dVar 0) (dCons (dC (.int 1)) (dCons (dC (.bool false)) dNil)))) (.nm 3)) (gSet (dTup (dCons (dVar 3) (dCons (dArg m_law_walk (dCons (dArg m_law_cell (dCons (dVar 0) (dCons (dC (.int 9)) dNil))) (dCons (dVar 3) dNil))) dNil))) (.nm 2)))) (gSeq (gSet (dArg m_law_changed_k85 (dCons (dTwo oIx (dVar 2) (dC (.int 0))) (dCons (dTwo oIx (dVar 2) (dC (.int 1))) (dCons (dArg m_law_draws (dCons (dArg m_law_cell (dCons (dVar 0) (dCons (dC (.int 10)) dNil))) (dCons (dC (.int 5)) dNil))) dNil)))) (.nm 4)) (gSeq (gSet (dArg m_is_ring (dCons (dTwo oIx (dVar 4) (dC (.int 0))) (dCons (dTwo oIx (dVar 4) (dC (.int 1))) dNil))) (.nm 5)) (gSeq (gIf (dOr (dNot (dAsB (dOne (oIsi "bool") (dVar 5)))) (dAsB (dTwo oNe (dVar 5) (dArg m_law_is_ring (dCons (dTwo oIx (dVar 4) (dC (.int 0))) (dCons (dTwo oIx (dVar 4) (dC (.int 1))) dNil)))))) (gRet (dC (.bool false))) gSkip) (gSeq (gSet (dArg m_round_game dNil) (.nm 5)) (gRet (dAndV (dArg m_law_is_round (dCons (dVar 5) dNil)) (dTwo oIs (dArg m_is_ring (dCons (dTwo oIx (dVar 5) (dC (.int 0))) (dCons (dTwo oIx (dVar 5) (dC (.int 1))) dNil))) (dC (.bool true)))))))))))
def m_law_k85 : List PyData → R PyData := runD 6 1 g_law_k85
end LW
set_option Elab.async false
set_option linter.all false
set_option maxRecDepth 100000
set_option maxHeartbeats 4000000
namespace LW
open PySem PySem.Spec PyProof.Rows L2 PD
section
variable {P : Program} {w : World} {K : PySem.W.Frag} {mg : Str → Option Value} {base : Heap} {Tb : List Addr}
def topS (i : Nat) : Stmt := PySem.Challenge.pw_takersrest_k85_round_game_and_rings.main.body.getD i (.Pass ⟨0, 0, 0, 0⟩)
abbrev s_law_draws : Stmt := topS 31
theorem sc_law_draws : FnScope ["cell", "count", "rest", "digits", "seed", "draws", "k", "mixed"] ["cell", "count"] (defScope s_law_draws) := ⟨rfl, rfl, rfl, by decide +kernel, rfl, by decide +kernel, by decide +kernel⟩
theorem ok_law_draws {a : Addr} {fd : FuncData} (F : Fun K "_law_draws" "_law_draws" s_law_draws a fd) (hg : mg "_law_draws" = some (.ref a)) (hb : Binds K fd ["cell", "count"] []) (B : Bi mg) : FnD P w K mg base Tb "_law_draws" 1 m_law_draws := ⟨a, fd, ["cell", "count"], fn_okD F sc_law_draws fun cdv A outer s H E hr => 
  (fs_cons (fs_set (i := 2) sc_law_draws.nd rfl (.inl rfl) (e_abs B (fa_cons (e_int B (fa_cons (fd_var 0) fa_nil)) fa_nil))) (fs_cons (fs_set (i := 3) sc_law_draws.nd rfl (.inl rfl) (e_ge (fd_var 2) (fd_pow fd_int fd_int))) (fs_cons (fs_set (i := 4) sc_law_draws.nd rfl (.inl rfl) (fd_var 2)) (fs_cons (fs_own (i := 5) sc_law_draws.nd rfl (.inl rfl) (fn_lst fa_nil)) (fs_cons (fs_for (passes_of rfl) rfl (fi_rng1 (by rfl) B.range (fa_cons (fd_var 1) fa_nil)) (fg_nm (i := 6) sc_law_draws.nd rfl (.inl rfl)) (fs_one (fs_if (PW.pt (fw_and (ft_val (fd_var 3)) (fw_and1 (t_gt (fd_var 2) fd_int)))) (fs_cons (fs_app (i := 5) rfl (.inl rfl) (by decide) (by decide) (fd_mod (e_int B (fa_cons (fd_var 2) fa_nil)) fd_int) rfl rfl rfl rfl rfl rfl) (fs_one (fs_set (i := 2) sc_law_draws.nd rfl (.inl rfl) (fd_div (fd_var 2) fd_int)))) (fs_cons (fs_set (i := 7) sc_law_draws.nd rfl (.inl rfl) (fd_mod (e_int B (fa_cons (fd_add (fd_add (fd_mul (fd_var 4) fd_int) (fd_mul (fd_add (fd_var 6) fd_int) fd_int)) fd_int) fa_nil)) fd_int)) (fs_cons (fs_set (i := 7) sc_law_draws.nd rfl (.inl rfl) (fd_mod (e_int B (fa_cons (fd_add (fd_mul (fd_var 7) (fd_var 7)) (fd_mul fd_int (fd_add (fd_var 6) fd_int))) fa_nil)) fd_int)) (fs_one (fs_app (i := 5) rfl (.inl rfl) (by decide) (by decide) (fd_mod (e_int B (fa_cons (fd_div (fd_var 7) fd_int) fa_nil)) fd_int) rfl rfl rfl rfl rfl rfl))))))) (fs_frz 5 (fs_one (fs_ret (fd_var 5))))))))), hg, F.kp, hb⟩
abbrev s_law_with : Stmt := topS 53
theorem sc_law_with : FnScope ["choice", "taker", "lot"] ["choice", "taker", "lot"] (defScope s_law_with) := ⟨rfl, rfl, rfl, by decide +kernel, rfl, by decide +kernel, by decide +kernel⟩
theorem ok_law_with {a : Addr} {fd : FuncData} (F : Fun K "_law_with" "_law_with" s_law_with a fd) (hg : mg "_law_with" = some (.ref a)) (hb : Binds K fd ["choice", "taker", "lot"] []) (B : Bi mg) : FnD P w K mg base Tb "_law_with" 1 m_law_with := ⟨a, fd, ["choice", "taker", "lot"], fn_okD F sc_law_with fun cdv A outer s H E hr => 
  (fs_one (fs_ret (fd_add (fd_add (fd_cut (fd_var 0) fo_none (fo_some (fd_var 1))) (fd_tup (fa_cons (fd_var 2) fa_nil))) (fd_cut (fd_var 0) (fo_some (fd_add (fd_var 1) fd_int)) fo_none)))), hg, F.kp, hb⟩
abbrev s_law_choice : Stmt := topS 50
theorem sc_law_choice : FnScope ["cell", "game", "draws", "k"] ["cell", "game"] (defScope s_law_choice) := ⟨rfl, rfl, rfl, by decide +kernel, rfl, by decide +kernel, by decide +kernel⟩
theorem ok_law_choice {a : Addr} {fd : FuncData} (F : Fun K "_law_choice" "_law_choice" s_law_choice a fd) (D_law_draws : FnD P w K mg base Tb "_law_draws" 1 m_law_draws) (hg : mg "_law_choice" = some (.ref a)) (hb : Binds K fd ["cell", "game"] []) (B : Bi mg) : FnD P w K mg base Tb "_law_choice" 2 m_law_choice := ⟨a, fd, ["cell", "game"], fn_okD F sc_law_choice fun cdv A outer s H E hr => 
  (fs_cons (fs_set (i := 2) sc_law_choice.nd rfl (.inr rfl) (e_call D_law_draws (fun σ => lets_of (L2N.takes_of rfl rfl rfl rfl) σ) hr (fa_cons (fd_var 0) (fa_cons (fd_add (e_len B (fa_cons (fd_var 1) fa_nil)) fd_int) fa_nil)))) (fs_one (fs_ret (e_tuple B (fa_cons (fd_lc rfl sc_law_choice.nd (fi_rng1 (by rfl) B.range (fa_cons (e_len B (fa_cons (fd_var 1) fa_nil)) fa_nil)) (own := [("k", 3)]) (blkOk_by (by rfl)) (fun _ _ _ _ _ => (fg_nm (i := 3) sc_law_choice.nd rfl (.inl rfl))) (fun _ _ _ _ _ => ft_yes) (fun _ _ _ _ _ => (e_ix (e_ix (e_ix (e_ix (fd_var 1) (fd_var 3)) fd_int) fd_int) (fd_mod (e_int B (fa_cons (e_ix (fd_var 2) (fd_var 3)) fa_nil)) (e_len B (fa_cons (e_ix (e_ix (e_ix (fd_var 1) (fd_var 3)) fd_int) fd_int) fa_nil)))))) fa_nil))))), hg, F.kp, hb⟩
abbrev s_law_changed : Stmt := topS 60
theorem sc_law_changed : FnScope ["game", "ring", "draws", "kind", "at", "taker", "thing", "costs", "low", "row", "k"] ["game", "ring", "draws"] (defScope s_law_changed) := ⟨rfl, rfl, rfl, by decide +kernel, rfl, by decide +kernel, by decide +kernel⟩
theorem ok_law_changed {a : Addr} {fd : FuncData} (F : Fun K "_law_changed" "_law_changed" s_law_changed a fd) (D_law_with : FnD P w K mg base Tb "_law_with" 1 m_law_with) (D_law_choice : FnD P w K mg base Tb "_law_choice" 2 m_law_choice) (hg : mg "_law_changed" = some (.ref a)) (hb : Binds K fd ["game", "ring", "draws"] []) (B : Bi mg) : FnD P w K mg base Tb "_law_changed" 3 m_law_changed_k85 := ⟨a, fd, ["game", "ring", "draws"], fn_okD F sc_law_changed fun cdv A outer s H E hr => 
  (fs_cons (fs_set (i := 3) sc_law_changed.nd rfl (.inl rfl) (fd_mod (e_int B (fa_cons (e_ix (fd_var 2) fd_int) fa_nil)) fd_int)) (fs_cons (fs_set (i := 4) sc_law_changed.nd rfl (.inl rfl) fd_int) (fs_cons (fs_if (t_gt (e_len B (fa_cons (fd_var 1) fa_nil)) fd_int) (fs_one (fs_set (i := 4) sc_law_changed.nd rfl (.inl rfl) (fd_mod (e_int B (fa_cons (e_ix (fd_var 2) fd_int) fa_nil)) (e_len B (fa_cons (fd_var 1) fa_nil))))) fs_nil) (fs_cons (fs_if (t_eq hr (fd_var 3) fd_int) (fs_one (fs_set (i := 1) sc_law_changed.nd rfl (.inr rfl) (fd_add (fd_cut (fd_var 1) (fo_some (fd_var 4)) fo_none) (fd_cut (fd_var 1) fo_none (fo_some (fd_var 4)))))) fs_nil) (fs_cons (fs_if (t_eq hr (fd_var 3) fd_int) (fs_one (fs_set (i := 1) sc_law_changed.nd rfl (.inr rfl) (fd_lc rfl sc_law_changed.nd (fi_rng1 (by rfl) B.range (fa_cons (e_len B (fa_cons (fd_var 1) fa_nil)) fa_nil)) (own := [("k", 10)]) (blkOk_by (by rfl)) (fun _ _ _ _ _ => (fg_nm (i := 10) sc_law_changed.nd rfl (.inl rfl))) (fun _ _ _ _ _ => ft_yes) (fun _ _ _ _ _ => (e_ix (fd_var 1) (fd_sub (fd_sub (e_len B (fa_cons (fd_var 1) fa_nil)) fd_int) (fd_var 10))))))) fs_nil) (fs_cons (fs_if (t_eq hr (fd_var 3) fd_int) (fs_one (fs_set (i := 1) sc_law_changed.nd rfl (.inr rfl) (fd_add (fd_cut (fd_var 1) fo_none (fo_some (fd_var 4))) (fd_cut (fd_var 1) (fo_some (fd_add (fd_var 4) fd_int)) fo_none)))) fs_nil) (fs_cons (fs_if (t_eq hr (fd_var 3) fd_int) (fs_one (fs_set (i := 1) sc_law_changed.nd rfl (.inr rfl) (fd_add (fd_add (fd_cut (fd_var 1) fo_none (fo_some (fd_var 4))) (fd_cut (fd_var 1) (fo_some (fd_var 4)) (fo_some (fd_add (fd_var 4) fd_int)))) (fd_cut (fd_var 1) (fo_some (fd_var 4)) fo_none)))) fs_nil) (fs_cons (fs_if (t_eq hr (fd_var 3) fd_int) (fs_one (fs_set (i := 1) sc_law_changed.nd rfl (.inr rfl) (fd_add (fd_add (fd_cut (fd_var 1) fo_none (fo_some (fd_var 4))) (fd_lst (fa_cons (e_call D_law_choice (fun σ => lets_of (L2N.takes_of rfl rfl rfl rfl) σ) hr (fa_cons (e_ix (fd_var 2) fd_int) (fa_cons (fd_var 0) fa_nil))) fa_nil))) (fd_cut (fd_var 1) (fo_some (fd_var 4)) fo_none)))) fs_nil) (fs_cons (fs_if (t_eq hr (fd_var 3) fd_int) (fs_one (fs_set (i := 1) sc_law_changed.nd rfl (.inr rfl) (fd_add (fd_var 1) (fd_var 1)))) fs_nil) (fs_cons (fs_if (t_eq hr (fd_var 3) fd_int) (fs_one (fs_set (i := 1) sc_law_changed.nd rfl (.inr rfl) (fd_cut (fd_var 1) fo_none (fo_some (fd_mod (e_int B (fa_cons (e_ix (fd_var 2) fd_int) fa_nil)) fd_int))))) fs_nil) (fs_cons (fs_if (PW.pt (fw_and (t_eq hr (fd_var 3) fd_int) (fw_and (t_gt (e_len B (fa_cons (fd_var 0) fa_nil)) fd_int) (fw_and1 (t_gt (e_ix (e_ix (e_ix (fd_var 0) fd_int) fd_int) fd_int) fd_int))))) (fs_cons (fs_set (i := 5) sc_law_changed.nd rfl (.inl rfl) (fd_mod (e_int B (fa_cons (e_ix (fd_var 2) fd_int) fa_nil)) (e_len B (fa_cons (fd_var 0) fa_nil)))) (fs_cons (fs_set (i := 6) sc_law_changed.nd rfl (.inl rfl) (fd_mod (e_int B (fa_cons (e_ix (fd_var 2) fd_int) fa_nil)) (e_ix (e_ix (e_ix (fd_var 0) fd_int) fd_int) fd_int))) (fs_cons (fs_set (i := 7) sc_law_changed.nd rfl (.inl rfl) (e_ix (e_ix (fd_var 0) (fd_var 5)) fd_int)) (fs_cons (fs_set (i := 8) sc_law_changed.nd rfl (.inr rfl) (fd_mod (e_int B (fa_cons (e_ix (fd_var 2) fd_int) fa_nil)) fd_int)) (fs_cons (fs_set (i := 9) sc_law_changed.nd rfl (.inl rfl) (e_tuple B (fa_cons (fd_lc rfl sc_law_changed.nd (fi_rng1 (by rfl) B.range (fa_cons (e_len B (fa_cons (e_ix (fd_var 7) (fd_var 6)) fa_nil)) fa_nil)) (own := [("k", 10)]) (blkOk_by (by rfl)) (fun _ _ _ _ _ => (fg_nm (i := 10) sc_law_changed.nd rfl (.inl rfl))) (fun _ _ _ _ _ => ft_yes) (fun _ _ _ _ _ => (fd_add (fd_var 8) (fd_mul (fd_mod (e_int B (fa_cons (e_ix (fd_var 2) fd_int) fa_nil)) fd_int) (e_int B (fa_cons (e_gt (fd_var 10) fd_int) fa_nil)))))) fa_nil))) (fs_cons (fs_set (i := 7) sc_law_changed.nd rfl (.inl rfl) (fd_add (fd_add (fd_cut (fd_var 7) fo_none (fo_some (fd_var 6))) (fd_tup (fa_cons (fd_var 9) fa_nil))) (fd_cut (fd_var 7) (fo_some (fd_add (fd_var 6) fd_int)) fo_none))) (fs_one (fs_set (i := 0) sc_law_changed.nd rfl (.inl rfl) (e_call D_law_with (fun σ => lets_of (L2N.takes_of rfl rfl rfl rfl) σ) hr (fa_cons (fd_var 0) (fa_cons (fd_var 5) (fa_cons (fd_tup (fa_cons (e_ix (e_ix (fd_var 0) (fd_var 5)) fd_int) (fa_cons (fd_var 7) fa_nil))) fa_nil)))))))))))) fs_nil) (fs_one (fs_ret (fd_tup (fa_cons (fd_var 0) (fa_cons (e_tuple B (fa_cons (fd_var 1) fa_nil)) fa_nil)))))))))))))))), hg, F.kp, hb⟩
abbrev s_movers : Stmt := topS 27
theorem sc_movers : FnScope ["choice", "reached", "taker", "lot"] ["choice", "reached"] (defScope s_movers) := ⟨rfl, rfl, rfl, by decide +kernel, rfl, by decide +kernel, by decide +kernel⟩
theorem ok_movers {a : Addr} {fd : FuncData} (F : Fun K "_movers" "_movers" s_movers a fd) (hg : mg "_movers" = some (.ref a)) (hb : Binds K fd ["choice", "reached"] []) (B : Bi mg) : FnD P w K mg base Tb "_movers" 1 m_movers := ⟨a, fd, ["choice", "reached"], fn_okD F sc_movers fun cdv A outer s H E hr => 
  (fs_one (fs_ret (fd_lc rfl sc_movers.nd (fi_enum (by rfl) B.enumerate (fa_cons (fd_var 0) fa_nil)) (own := [("taker", 2), ("lot", 3)]) (blkOk_by (by rfl)) (fun _ _ _ _ _ => (fg_tup rfl (fgs_cons (fg_nm (i := 2) sc_movers.nd rfl (.inl rfl)) (fgs_cons (fg_nm (i := 3) sc_movers.nd rfl (.inl rfl)) fgs_nil)))) (fun _ _ _ _ _ => (ft_one (t_ne hr (fd_var 3) (e_ix (fd_var 1) (fd_var 2))))) (fun _ _ _ _ _ => (fd_var 2))))), hg, F.kp, hb⟩
abbrev s_price : Stmt := topS 12
theorem sc_price : FnScope ["things", "prices", "thing"] ["things", "prices"] (defScope s_price) := ⟨rfl, rfl, rfl, by decide +kernel, rfl, by decide +kernel, by decide +kernel⟩
theorem ok_price {a : Addr} {fd : FuncData} (F : Fun K "price" "price" s_price a fd) (hg : mg "price" = some (.ref a)) (hb : Binds K fd ["things", "prices"] []) (B : Bi mg) : FnD P w K mg base Tb "price" 1 m_price := ⟨a, fd, ["things", "prices"], fn_okD F sc_price fun cdv A outer s H E hr => 
  (fs_one (fs_ret (e_sum B (fa_cons (fd_lc rfl sc_price.nd (fi_seq (fd_var 0)) (own := [("thing", 2)]) (blkOk_by (by rfl)) (fun _ _ _ _ _ => (fg_nm (i := 2) sc_price.nd rfl (.inl rfl))) (fun _ _ _ _ _ => ft_yes) (fun _ _ _ _ _ => (e_ix (fd_var 1) (fd_var 2)))) fa_nil)))), hg, F.kp, hb⟩
abbrev s_count_loads : Stmt := topS 14
theorem sc_count_loads : FnScope ["size", "players", "choice", "counts", "player", "lot", "thing", "_"] ["size", "players", "choice"] (defScope s_count_loads) := ⟨rfl, rfl, rfl, by decide +kernel, rfl, by decide +kernel, by decide +kernel⟩
theorem ok_count_loads {a : Addr} {fd : FuncData} (F : Fun K "count_loads" "count_loads" s_count_loads a fd) (hg : mg "count_loads" = some (.ref a)) (hb : Binds K fd ["size", "players", "choice"] []) (B : Bi mg) : FnD P w K mg base Tb "count_loads" 1 m_count_loads := ⟨a, fd, ["size", "players", "choice"], fn_okD F sc_count_loads fun cdv A outer s H E hr => 
  (fs_cons (fs_ownLc (i := 3) rfl sc_count_loads.nd rfl rfl (by rfl) (fi_rng1 (by rfl) B.range (fa_cons (fd_var 0) fa_nil)) (own := [("_", 7)]) (blkOk_by (by rfl)) (fun _ _ _ _ _ => (fg_nm (i := 7) sc_count_loads.nd rfl (.inl rfl))) (fun _ _ _ _ _ => ft_yes) (fun _ _ _ _ _ => fd_int)) (fs_cons (fs_for (passes_of rfl) rfl (fi_zip (by rfl) B.zip (fa_cons (fd_var 1) (fa_cons (fd_var 2) fa_nil))) (fg_tup rfl (fgs_cons (fg_nm (i := 4) sc_count_loads.nd rfl (.inl rfl)) (fgs_cons (fg_nm (i := 5) sc_count_loads.nd rfl (.inl rfl)) fgs_nil))) (fs_one (fs_for (passes_of rfl) rfl (fi_seq (fd_var 5)) (fg_nm (i := 6) sc_count_loads.nd rfl (.inl rfl)) (fs_one (fs_augAt (i := 3) rfl (.inl rfl) (by decide) (by decide) (fd_var 6) (e_ix (fd_var 4) fd_int)))))) (fs_frz 3 (fs_one (fs_ret (e_tuple B (fa_cons (fd_var 3) fa_nil))))))), hg, F.kp, hb⟩
abbrev s_cost_at : Stmt := topS 10
theorem sc_cost_at : FnScope ["costs", "thing", "load"] ["costs", "thing", "load"] (defScope s_cost_at) := ⟨rfl, rfl, rfl, by decide +kernel, rfl, by decide +kernel, by decide +kernel⟩
theorem ok_cost_at {a : Addr} {fd : FuncData} (F : Fun K "cost_at" "cost_at" s_cost_at a fd) (hg : mg "cost_at" = some (.ref a)) (hb : Binds K fd ["costs", "thing", "load"] []) (B : Bi mg) : FnD P w K mg base Tb "cost_at" 1 m_cost_at := ⟨a, fd, ["costs", "thing", "load"], fn_okD F sc_cost_at fun cdv A outer s H E hr => 
  (fs_one (fs_ret (e_ix (e_ix (fd_var 0) (fd_var 1)) (fd_sub (fd_var 2) fd_int)))), hg, F.kp, hb⟩
abbrev s_prices_for : Stmt := topS 15
theorem sc_prices_for : FnScope ["players", "choice", "taker", "offer", "costs", "weight", "counts", "lot", "added", "thing", "more"] ["players", "choice", "taker"] (defScope s_prices_for) := ⟨rfl, rfl, rfl, by decide +kernel, rfl, by decide +kernel, by decide +kernel⟩
theorem ok_prices_for {a : Addr} {fd : FuncData} (F : Fun K "prices_for" "prices_for" s_prices_for a fd) (D_count_loads : FnD P w K mg base Tb "count_loads" 1 m_count_loads) (D_cost_at : FnD P w K mg base Tb "cost_at" 1 m_cost_at) (hg : mg "prices_for" = some (.ref a)) (hb : Binds K fd ["players", "choice", "taker"] []) (B : Bi mg) : FnD P w K mg base Tb "prices_for" 2 m_prices_for := ⟨a, fd, ["players", "choice", "taker"], fn_okD F sc_prices_for fun cdv A outer s H E hr => 
  (fs_cons (fs_asg (e_ix (fd_var 0) (fd_var 2)) (fg_tup rfl (fgs_cons (fg_nm (i := 3) sc_prices_for.nd rfl (.inl rfl)) (fgs_cons (fg_nm (i := 4) sc_prices_for.nd rfl (.inr rfl)) (fgs_cons (fg_nm (i := 5) sc_prices_for.nd rfl (.inr rfl)) fgs_nil))))) (fs_cons (fs_set (i := 6) sc_prices_for.nd rfl (.inr rfl) (e_call D_count_loads (fun σ => lets_of (L2N.takes_of rfl rfl rfl rfl) σ) hr (fa_cons (e_ix (fd_var 3) fd_int) (fa_cons (fd_var 0) (fa_cons (fd_var 1) fa_nil))))) (fs_cons (fs_set (i := 7) sc_prices_for.nd rfl (.inr rfl) (e_ix (fd_var 1) (fd_var 2))) (fs_cons (fs_setLc (i := 8) rfl sc_prices_for.nd rfl rfl (by rfl) (fi_rng1 (by rfl) B.range (fa_cons (e_ix (fd_var 3) fd_int) fa_nil)) (own := [("thing", 9)]) (blkOk_by (by rfl)) (fun _ _ _ _ _ => (fg_nm (i := 9) sc_prices_for.nd rfl (.inl rfl))) (fun _ _ _ _ _ => ft_yes) (fun _ _ _ _ _ => (fd_if (t_in hr (fd_var 9) (fd_var 7)) fd_int (fd_var 5)))) (fs_one (fs_ret (e_tuple B (fa_cons (fd_lc rfl sc_prices_for.nd (fi_enum (by rfl) B.enumerate (fa_cons (fd_var 8) fa_nil)) (own := [("thing", 9), ("more", 10)]) (blkOk_by (by rfl)) (fun _ _ _ _ _ => (fg_tup rfl (fgs_cons (fg_nm (i := 9) sc_prices_for.nd rfl (.inl rfl)) (fgs_cons (fg_nm (i := 10) sc_prices_for.nd rfl (.inl rfl)) fgs_nil)))) (fun _ _ _ _ _ => ft_yes) (fun _ _ _ _ _ => (e_call D_cost_at (fun σ => lets0 σ) hr (fa_cons (fd_var 4) (fa_cons (fd_var 9) (fa_cons (fd_add (e_ix (fd_var 6) (fd_var 9)) (fd_var 10)) fa_nil)))))) fa_nil)))))))), hg, F.kp, hb⟩
abbrev s_players : Stmt := topS 18
theorem sc_players : FnScope ["game", "offer", "costs"] ["game"] (defScope s_players) := ⟨rfl, rfl, rfl, by decide +kernel, rfl, by decide +kernel, by decide +kernel⟩
theorem ok_players {a : Addr} {fd : FuncData} (F : Fun K "_players" "_players" s_players a fd) (hg : mg "_players" = some (.ref a)) (hb : Binds K fd ["game"] []) (B : Bi mg) : FnD P w K mg base Tb "_players" 1 m_players := ⟨a, fd, ["game"], fn_okD F sc_players fun cdv A outer s H E hr => 
  (fs_one (fs_ret (fd_lc rfl sc_players.nd (fi_seq (fd_var 0)) (own := [("offer", 1), ("costs", 2)]) (blkOk_by (by rfl)) (fun _ _ _ _ _ => (fg_tup rfl (fgs_cons (fg_nm (i := 1) sc_players.nd rfl (.inl rfl)) (fgs_cons (fg_nm (i := 2) sc_players.nd rfl (.inl rfl)) fgs_nil)))) (fun _ _ _ _ _ => ft_yes) (fun _ _ _ _ _ => (fd_tup (fa_cons (fd_var 1) (fa_cons (fd_var 2) (fa_cons fd_int fa_nil)))))))), hg, F.kp, hb⟩
abbrev s_own_prices : Stmt := topS 20
theorem sc_own_prices : FnScope ["game", "choice", "taker"] ["game", "choice", "taker"] (defScope s_own_prices) := ⟨rfl, rfl, rfl, by decide +kernel, rfl, by decide +kernel, by decide +kernel⟩
theorem ok_own_prices {a : Addr} {fd : FuncData} (F : Fun K "own_prices" "own_prices" s_own_prices a fd) (D_prices_for : FnD P w K mg base Tb "prices_for" 2 m_prices_for) (D_players : FnD P w K mg base Tb "_players" 1 m_players) (hg : mg "own_prices" = some (.ref a)) (hb : Binds K fd ["game", "choice", "taker"] []) (B : Bi mg) : FnD P w K mg base Tb "own_prices" 3 m_own_prices := ⟨a, fd, ["game", "choice", "taker"], fn_okD F sc_own_prices fun cdv A outer s H E hr => 
  (fs_one (fs_ret (e_call D_prices_for (fun σ => lets_of (L2N.takes_of rfl rfl rfl rfl) σ) hr (fa_cons (e_call D_players (fun σ => lets_of (L2N.takes_of rfl rfl rfl rfl) σ) hr (fa_cons (fd_var 0) fa_nil)) (fa_cons (fd_var 1) (fa_cons (fd_var 2) fa_nil)))))), hg, F.kp, hb⟩
abbrev s_pay : Stmt := topS 19
theorem sc_pay : FnScope ["game", "choice", "taker"] ["game", "choice", "taker"] (defScope s_pay) := ⟨rfl, rfl, rfl, by decide +kernel, rfl, by decide +kernel, by decide +kernel⟩
theorem ok_pay {a : Addr} {fd : FuncData} (F : Fun K "pay" "pay" s_pay a fd) (D_price : FnD P w K mg base Tb "price" 1 m_price) (D_own_prices : FnD P w K mg base Tb "own_prices" 3 m_own_prices) (hg : mg "pay" = some (.ref a)) (hb : Binds K fd ["game", "choice", "taker"] []) (B : Bi mg) : FnD P w K mg base Tb "pay" 4 m_pay := ⟨a, fd, ["game", "choice", "taker"], fn_okD F sc_pay fun cdv A outer s H E hr => 
  (fs_one (fs_ret (e_call D_price (fun σ => lets_of (L2N.takes_of rfl rfl rfl rfl) σ) hr (fa_cons (e_ix (fd_var 1) (fd_var 2)) (fa_cons (e_call D_own_prices (fun σ => lets_of (L2N.takes_of rfl rfl rfl rfl) σ) hr (fa_cons (fd_var 0) (fa_cons (fd_var 1) (fa_cons (fd_var 2) fa_nil)))) fa_nil))))), hg, F.kp, hb⟩
abbrev s_all_pay_less : Stmt := topS 28
theorem sc_all_pay_less : FnScope ["game", "takers", "choice", "reached", "taker"] ["game", "takers", "choice", "reached"] (defScope s_all_pay_less) := ⟨rfl, rfl, rfl, by decide +kernel, rfl, by decide +kernel, by decide +kernel⟩
theorem ok_all_pay_less {a : Addr} {fd : FuncData} (F : Fun K "_all_pay_less" "_all_pay_less" s_all_pay_less a fd) (D_pay : FnD P w K mg base Tb "pay" 4 m_pay) (hg : mg "_all_pay_less" = some (.ref a)) (hb : Binds K fd ["game", "takers", "choice", "reached"] []) (B : Bi mg) : FnD P w K mg base Tb "_all_pay_less" 5 m_all_pay_less := ⟨a, fd, ["game", "takers", "choice", "reached"], fn_okD F sc_all_pay_less fun cdv A outer s H E hr => 
  (fs_one (fs_ret (e_all B (fa_cons (fd_lc rfl sc_all_pay_less.nd (fi_seq (fd_var 1)) (own := [("taker", 4)]) (blkOk_by (by rfl)) (fun _ _ _ _ _ => (fg_nm (i := 4) sc_all_pay_less.nd rfl (.inl rfl))) (fun _ _ _ _ _ => ft_yes) (fun _ _ _ _ _ => (e_lt (e_call D_pay (fun σ => lets0 σ) hr (fa_cons (fd_var 0) (fa_cons (fd_var 3) (fa_cons (fd_var 4) fa_nil)))) (e_call D_pay (fun σ => lets0 σ) hr (fa_cons (fd_var 0) (fa_cons (fd_var 2) (fa_cons (fd_var 4) fa_nil))))))) fa_nil)))), hg, F.kp, hb⟩
abbrev s_is_step : Stmt := topS 26
theorem sc_is_step : FnScope ["game", "choice", "reached", "movers"] ["game", "choice", "reached"] (defScope s_is_step) := ⟨rfl, rfl, rfl, by decide +kernel, rfl, by decide +kernel, by decide +kernel⟩
theorem ok_is_step {a : Addr} {fd : FuncData} (F : Fun K "_is_step" "_is_step" s_is_step a fd) (D_movers : FnD P w K mg base Tb "_movers" 1 m_movers) (D_all_pay_less : FnD P w K mg base Tb "_all_pay_less" 5 m_all_pay_less) (hg : mg "_is_step" = some (.ref a)) (hb : Binds K fd ["game", "choice", "reached"] []) (B : Bi mg) : FnD P w K mg base Tb "_is_step" 6 m_is_step := ⟨a, fd, ["game", "choice", "reached"], fn_okD F sc_is_step fun cdv A outer s H E hr => 
  (fs_cons (fs_set (i := 3) sc_is_step.nd rfl (.inl rfl) (e_call D_movers (fun σ => lets_of (L2N.takes_of rfl rfl rfl rfl) σ) hr (fa_cons (fd_var 1) (fa_cons (fd_var 2) fa_nil)))) (fs_one (fs_ret (fd_and (e_eq hr (e_len B (fa_cons (fd_var 3) fa_nil)) fd_int) (fd_one (e_call D_all_pay_less (fun σ => lets_of (L2N.takes_of rfl rfl rfl rfl) σ) hr (fa_cons (fd_var 0) (fa_cons (fd_var 3) (fa_cons (fd_var 1) (fa_cons (fd_var 2) fa_nil)))))))))), hg, F.kp, hb⟩
abbrev s_is_ring : Stmt := topS 25
theorem sc_is_ring : FnScope ["game", "ring", "at"] ["game", "ring"] (defScope s_is_ring) := ⟨rfl, rfl, rfl, by decide +kernel, rfl, by decide +kernel, by decide +kernel⟩
theorem ok_is_ring {a : Addr} {fd : FuncData} (F : Fun K "is_ring" "is_ring" s_is_ring a fd) (D_is_step : FnD P w K mg base Tb "_is_step" 6 m_is_step) (hg : mg "is_ring" = some (.ref a)) (hb : Binds K fd ["game", "ring"] []) (B : Bi mg) : FnD P w K mg base Tb "is_ring" 7 m_is_ring := ⟨a, fd, ["game", "ring"], fn_okD F sc_is_ring fun cdv A outer s H E hr => 
  (fs_cons (fs_if (t_lt (e_len B (fa_cons (fd_var 1) fa_nil)) fd_int) (fs_one (fs_ret fd_bl)) fs_nil) (fs_one (fs_ret (e_all B (fa_cons (fd_lc rfl sc_is_ring.nd (fi_rng1 (by rfl) B.range (fa_cons (e_len B (fa_cons (fd_var 1) fa_nil)) fa_nil)) (own := [("at", 2)]) (blkOk_by (by rfl)) (fun _ _ _ _ _ => (fg_nm (i := 2) sc_is_ring.nd rfl (.inl rfl))) (fun _ _ _ _ _ => ft_yes) (fun _ _ _ _ _ => (e_call D_is_step (fun σ => lets0 σ) hr (fa_cons (fd_var 0) (fa_cons (e_ix (fd_var 1) (fd_sub (fd_var 2) fd_int)) (fa_cons (e_ix (fd_var 1) (fd_var 2)) fa_nil)))))) fa_nil))))), hg, F.kp, hb⟩
abbrev s_make_game : Stmt := topS 17
theorem sc_make_game : FnScope ["takers", "position", "offer", "costs", "size"] ["takers"] (defScope s_make_game) := ⟨rfl, rfl, rfl, by decide +kernel, rfl, by decide +kernel, by decide +kernel⟩
theorem ok_make_game {a : Addr} {fd : FuncData} (F : Fun K "make_game" "make_game" s_make_game a fd) (hg : mg "make_game" = some (.ref a)) (hb : Binds K fd ["takers"] []) (B : Bi mg) : FnD P w K mg base Tb "make_game" 1 m_make_game_k48 := ⟨a, fd, ["takers"], fn_okD F sc_make_game fun cdv A outer s H E hr => 
  (fs_cons (fs_for (passes_of rfl) rfl (fi_enum (by rfl) B.enumerate (fa_cons (fd_var 0) fa_nil)) (fg_tup rfl (fgs_cons (fg_nm (i := 1) sc_make_game.nd rfl (.inl rfl)) (fgs_cons (fg_tup rfl (fgs_cons (fg_nm (i := 2) sc_make_game.nd rfl (.inl rfl)) (fgs_cons (fg_nm (i := 3) sc_make_game.nd rfl (.inl rfl)) fgs_nil))) fgs_nil))) (fs_cons (fs_set (i := 4) sc_make_game.nd rfl (.inl rfl) (e_ix (fd_var 2) fd_int)) (fs_cons (fs_if (PW.pt (fw_or (t_ne hr (fd_var 4) (e_ix (e_ix (e_ix (fd_var 0) fd_int) fd_int) fd_int)) (fw_or1 (t_ne hr (fd_var 4) (e_len B (fa_cons (fd_var 3) fa_nil)))))) (fs_one fs_raiseBad) fs_nil) (fs_one (fs_if (PW.pt (fw_and (t_gt (fd_var 4) fd_int) (fw_and1 (t_lt (e_len B (fa_cons (e_ix (fd_var 3) fd_int) fa_nil)) (e_len B (fa_cons (fd_var 0) fa_nil)))))) (fs_one fs_raiseBad) fs_nil))))) (fs_one (fs_ret (e_tuple B (fa_cons (fd_var 0) fa_nil))))), hg, F.kp, hb⟩
abbrev s_subsets : Stmt := topS 6
theorem sc_subsets : FnScope ["things", "count", "row"] ["things", "count"] (defScope s_subsets) := ⟨rfl, rfl, rfl, by decide +kernel, rfl, by decide +kernel, by decide +kernel⟩
theorem ok_subsets {a : Addr} {fd : FuncData} (F : Fun K "subsets" "subsets" s_subsets a fd) (t_combinations : mg "combinations" = some (.type "itertools.combinations")) (hg : mg "subsets" = some (.ref a)) (hb : Binds K fd ["things", "count"] []) (B : Bi mg) : FnD P w K mg base Tb "subsets" 1 m_subsets := ⟨a, fd, ["things", "count"], fn_okD F sc_subsets fun cdv A outer s H E hr => 
  (fs_cons (fs_set (i := 2) sc_subsets.nd rfl (.inl rfl) (e_list B (fa_cons (fd_var 0) fa_nil))) (fs_one (fs_ret (fd_comb rfl (by rfl) B.list (by rfl) t_combinations (fa_cons (fd_var 2) (fa_cons (fd_var 1) fa_nil)))))), hg, F.kp, hb⟩
abbrev s_choose : Stmt := topS 8
theorem sc_choose : FnScope ["size", "count"] ["size", "count"] (defScope s_choose) := ⟨rfl, rfl, rfl, by decide +kernel, rfl, by decide +kernel, by decide +kernel⟩
theorem ok_choose {a : Addr} {fd : FuncData} (F : Fun K "choose" "choose" s_choose a fd) (D_subsets : FnD P w K mg base Tb "subsets" 1 m_subsets) (hg : mg "choose" = some (.ref a)) (hb : Binds K fd ["size", "count"] []) (B : Bi mg) : FnD P w K mg base Tb "choose" 2 m_choose := ⟨a, fd, ["size", "count"], fn_okD F sc_choose fun cdv A outer s H E hr => 
  (fs_one (fs_ret (fd_tup (fa_cons (fd_var 0) (fa_cons (e_tuple B (fa_cons (e_call D_subsets (fun σ => lets_of (L2N.takes_of rfl rfl rfl rfl) σ) hr (fa_cons (fd_lstR1 rfl (by rfl) B.list (by rfl) B.range (fd_var 0)) (fa_cons (fd_var 1) fa_nil))) fa_nil)) fa_nil))))), hg, F.kp, hb⟩
abbrev s_round_costs : Stmt := topS 23
theorem sc_round_costs : FnScope ["taker", "rows", "thing"] ["taker"] (defScope s_round_costs) := ⟨rfl, rfl, rfl, by decide +kernel, rfl, by decide +kernel, by decide +kernel⟩
theorem ok_round_costs {a : Addr} {fd : FuncData} (F : Fun K "_round_costs" "_round_costs" s_round_costs a fd) (hg : mg "_round_costs" = some (.ref a)) (hb : Binds K fd ["taker"] []) (B : Bi mg) : FnD P w K mg base Tb "_round_costs" 1 m_round_costs := ⟨a, fd, ["taker"], fn_okD F sc_round_costs fun cdv A outer s H E hr => 
  (fs_cons (fs_disp (i := 1) (ps := [((dVar 0), (dTup (dCons (dC (.int 2)) (dCons (dC (.int 3)) (dCons (dC (.int 3)) dNil))))), ((dTwo oMod (dTwo oAdd (dVar 0) (dC (.int 1))) (dC (.int 3))), (dTup (dCons (dC (.int 1)) (dCons (dC (.int 4)) (dCons (dC (.int 4)) dNil))))), ((dTwo oMod (dTwo oAdd (dVar 0) (dC (.int 2))) (dC (.int 3))), (dTup (dCons (dC (.int 5)) (dCons (dC (.int 5)) (dCons (dC (.int 5)) dNil)))))]) sc_round_costs.nd rfl (.inr rfl) (pps_cons (fd_var 0) (fd_tup (fa_cons fd_int (fa_cons fd_int (fa_cons fd_int fa_nil)))) (pps_cons (fd_mod (fd_add (fd_var 0) fd_int) fd_int) (fd_tup (fa_cons fd_int (fa_cons fd_int (fa_cons fd_int fa_nil)))) (pps_cons (fd_mod (fd_add (fd_var 0) fd_int) fd_int) (fd_tup (fa_cons fd_int (fa_cons fd_int (fa_cons fd_int fa_nil)))) pps_nil)))) (fs_one (fs_ret (e_tuple B (fa_cons (fd_lc rfl sc_round_costs.nd (fi_rng1 (by rfl) B.range (fa_cons fd_int fa_nil)) (own := [("thing", 2)]) (blkOk_by (by rfl)) (fun _ _ _ _ _ => (fg_nm (i := 2) sc_round_costs.nd rfl (.inl rfl))) (fun _ _ _ _ _ => ft_yes) (fun _ _ _ _ _ => (e_dkGet (i := 1) hr rfl (by first | exact Or.inl rfl | exact Or.inr (Or.inl rfl) | exact Or.inr (Or.inr rfl)) (fd_var 2)))) fa_nil))))), hg, F.kp, hb⟩
abbrev s_round_choice : Stmt := topS 24
theorem sc_round_choice : FnScope ["seconds", "taker", "second"] ["seconds"] (defScope s_round_choice) := ⟨rfl, rfl, rfl, by decide +kernel, rfl, by decide +kernel, by decide +kernel⟩
theorem ok_round_choice {a : Addr} {fd : FuncData} (F : Fun K "_round_choice" "_round_choice" s_round_choice a fd) (hg : mg "_round_choice" = some (.ref a)) (hb : Binds K fd ["seconds"] []) (B : Bi mg) : FnD P w K mg base Tb "_round_choice" 1 m_round_choice := ⟨a, fd, ["seconds"], fn_okD F sc_round_choice fun cdv A outer s H E hr => 
  (fs_one (fs_ret (e_tuple B (fa_cons (fd_lc rfl sc_round_choice.nd (fi_enum (by rfl) B.enumerate (fa_cons (fd_var 0) fa_nil)) (own := [("taker", 1), ("second", 2)]) (blkOk_by (by rfl)) (fun _ _ _ _ _ => (fg_tup rfl (fgs_cons (fg_nm (i := 1) sc_round_choice.nd rfl (.inl rfl)) (fgs_cons (fg_nm (i := 2) sc_round_choice.nd rfl (.inl rfl)) fgs_nil)))) (fun _ _ _ _ _ => ft_yes) (fun _ _ _ _ _ => (fd_tup (fa_cons (fd_mod (fd_add (fd_var 1) (fd_var 2)) fd_int) fa_nil)))) fa_nil)))), hg, F.kp, hb⟩
abbrev s_round_game : Stmt := topS 22
theorem sc_round_game : FnScope ["game", "firsts", "taker", "seconds"] [] (defScope s_round_game) := ⟨rfl, rfl, rfl, by decide +kernel, rfl, by decide +kernel, by decide +kernel⟩
theorem ok_round_game {a : Addr} {fd : FuncData} (F : Fun K "round_game" "round_game" s_round_game a fd) (D_make_game : FnD P w K mg base Tb "make_game" 1 m_make_game_k48) (D_choose : FnD P w K mg base Tb "choose" 2 m_choose) (D_round_costs : FnD P w K mg base Tb "_round_costs" 1 m_round_costs) (D_round_choice : FnD P w K mg base Tb "_round_choice" 1 m_round_choice) (hg : mg "round_game" = some (.ref a)) (hb : Binds K fd [] []) (B : Bi mg) : FnD P w K mg base Tb "round_game" 3 m_round_game := ⟨a, fd, [], fn_okD F sc_round_game fun cdv A outer s H E hr => 
  (fs_cons (fs_set (i := 0) sc_round_game.nd rfl (.inl rfl) (e_call D_make_game (fun σ => lets_of (L2N.takes_of rfl rfl rfl rfl) σ) hr (fa_cons (fd_lc rfl sc_round_game.nd (fi_rng1 (by rfl) B.range (fa_cons fd_int fa_nil)) (own := [("taker", 2)]) (blkOk_by (by rfl)) (fun _ _ _ _ _ => (fg_nm (i := 2) sc_round_game.nd rfl (.inl rfl))) (fun _ _ _ _ _ => ft_yes) (fun _ _ _ _ _ => (fd_tup (fa_cons (e_call D_choose (fun σ => lets0 σ) hr (fa_cons fd_int (fa_cons fd_int fa_nil))) (fa_cons (e_call D_round_costs (fun σ => lets0 σ) hr (fa_cons (fd_var 2) fa_nil)) fa_nil))))) fa_nil))) (fs_cons (fs_set (i := 1) sc_round_game.nd rfl (.inl rfl) (fd_lst (fa_cons (fd_tup (fa_cons fd_int (fa_cons fd_int (fa_cons fd_int fa_nil)))) (fa_cons (fd_tup (fa_cons fd_int (fa_cons fd_int (fa_cons fd_int fa_nil)))) (fa_cons (fd_tup (fa_cons fd_int (fa_cons fd_int (fa_cons fd_int fa_nil)))) (fa_cons (fd_tup (fa_cons fd_int (fa_cons fd_int (fa_cons fd_int fa_nil)))) (fa_cons (fd_tup (fa_cons fd_int (fa_cons fd_int (fa_cons fd_int fa_nil)))) (fa_cons (fd_tup (fa_cons fd_int (fa_cons fd_int (fa_cons fd_int fa_nil)))) fa_nil)))))))) (fs_one (fs_ret (fd_tup (fa_cons (fd_var 0) (fa_cons (e_tuple B (fa_cons (fd_lc rfl sc_round_game.nd (fi_seq (fd_var 1)) (own := [("seconds", 3)]) (blkOk_by (by rfl)) (fun _ _ _ _ _ => (fg_nm (i := 3) sc_round_game.nd rfl (.inl rfl))) (fun _ _ _ _ _ => ft_yes) (fun _ _ _ _ _ => (e_call D_round_choice (fun σ => lets0 σ) hr (fa_cons (fd_var 3) fa_nil)))) fa_nil)) fa_nil))))))), hg, F.kp, hb⟩
abbrev s_law_cell : Stmt := topS 30
theorem sc_law_cell : FnScope ["script", "k"] ["script", "k"] (defScope s_law_cell) := ⟨rfl, rfl, rfl, by decide +kernel, rfl, by decide +kernel, by decide +kernel⟩
theorem ok_law_cell {a : Addr} {fd : FuncData} (F : Fun K "_law_cell" "_law_cell" s_law_cell a fd) (hg : mg "_law_cell" = some (.ref a)) (hb : Binds K fd ["script", "k"] []) (B : Bi mg) : FnD P w K mg base Tb "_law_cell" 1 m_law_cell := ⟨a, fd, ["script", "k"], fn_okD F sc_law_cell fun cdv A outer s H E hr => 
  (fs_cons (fs_if (t_lt (fd_var 1) (e_len B (fa_cons (fd_var 0) fa_nil))) (fs_one (fs_ret (e_ix (fd_var 0) (fd_var 1)))) fs_nil) (fs_one (fs_ret (fd_add (fd_mul fd_int (fd_var 1)) fd_int)))), hg, F.kp, hb⟩
abbrev s_law_drawn_names : Stmt := topS 56
theorem sc_law_drawn_names : FnScope ["draws", "count", "wide", "left", "names", "k"] ["draws", "count", "wide"] (defScope s_law_drawn_names) := ⟨rfl, rfl, rfl, by decide +kernel, rfl, by decide +kernel, by decide +kernel⟩
theorem ok_law_drawn_names {a : Addr} {fd : FuncData} (F : Fun K "_law_drawn_names" "_law_drawn_names" s_law_drawn_names a fd) (hg : mg "_law_drawn_names" = some (.ref a)) (hb : Binds K fd ["draws", "count", "wide"] []) (B : Bi mg) : FnD P w K mg base Tb "_law_drawn_names" 1 m_law_drawn_names := ⟨a, fd, ["draws", "count", "wide"], fn_okD F sc_law_drawn_names fun cdv A outer s H E hr => 
  (fs_cons (fs_own (i := 3) sc_law_drawn_names.nd rfl (.inl rfl) (fn_lstR1 rfl (by rfl) B.list (by rfl) B.range (fd_var 2))) (fs_cons (fs_own (i := 4) sc_law_drawn_names.nd rfl (.inl rfl) (fn_lst fa_nil)) (fs_cons (fs_for (passes_of rfl) rfl (fi_rng1 (by rfl) B.range (fa_cons (fd_var 1) fa_nil)) (fg_nm (i := 5) sc_law_drawn_names.nd rfl (.inl rfl)) (fs_one (fs_appPop (i := 4) (j := 3) (by decide) rfl (.inl rfl) (by decide) (by decide) rfl (.inl rfl) (by decide) (by decide) (fd_thaw (fd_mod (e_int B (fa_cons (e_ix (fd_var 0) (fd_var 5)) fa_nil)) (e_len B (fa_cons (fd_var 3) fa_nil)))) rfl rfl rfl rfl rfl rfl rfl rfl rfl rfl rfl))) (fs_frz 4 (fs_one (fs_ret (e_tuple B (fa_cons (fd_var 4) fa_nil)))))))), hg, F.kp, hb⟩
abbrev s_law_named : Stmt := topS 54
theorem sc_law_named : FnScope ["lot", "names", "thing"] ["lot", "names"] (defScope s_law_named) := ⟨rfl, rfl, rfl, by decide +kernel, rfl, by decide +kernel, by decide +kernel⟩
theorem ok_law_named {a : Addr} {fd : FuncData} (F : Fun K "_law_named" "_law_named" s_law_named a fd) (hg : mg "_law_named" = some (.ref a)) (hb : Binds K fd ["lot", "names"] []) (B : Bi mg) : FnD P w K mg base Tb "_law_named" 1 m_law_named := ⟨a, fd, ["lot", "names"], fn_okD F sc_law_named fun cdv A outer s H E hr => 
  (fs_one (fs_ret (e_tuple B (fa_cons (e_sorted B hr (fa_cons (fd_lc rfl sc_law_named.nd (fi_seq (fd_var 0)) (own := [("thing", 2)]) (blkOk_by (by rfl)) (fun _ _ _ _ _ => (fg_nm (i := 2) sc_law_named.nd rfl (.inl rfl))) (fun _ _ _ _ _ => ft_yes) (fun _ _ _ _ _ => (e_ix (fd_var 1) (fd_var 2)))) fa_nil)) fa_nil)))), hg, F.kp, hb⟩
abbrev s_law_renamed : Stmt := topS 55
theorem sc_law_renamed : FnScope ["lots", "names", "lot"] ["lots", "names"] (defScope s_law_renamed) := ⟨rfl, rfl, rfl, by decide +kernel, rfl, by decide +kernel, by decide +kernel⟩
theorem ok_law_renamed {a : Addr} {fd : FuncData} (F : Fun K "_law_renamed" "_law_renamed" s_law_renamed a fd) (D_law_named : FnD P w K mg base Tb "_law_named" 1 m_law_named) (hg : mg "_law_renamed" = some (.ref a)) (hb : Binds K fd ["lots", "names"] []) (B : Bi mg) : FnD P w K mg base Tb "_law_renamed" 2 m_law_renamed := ⟨a, fd, ["lots", "names"], fn_okD F sc_law_renamed fun cdv A outer s H E hr => 
  (fs_one (fs_ret (e_tuple B (fa_cons (e_sorted B hr (fa_cons (fd_lc rfl sc_law_renamed.nd (fi_seq (fd_var 0)) (own := [("lot", 2)]) (blkOk_by (by rfl)) (fun _ _ _ _ _ => (fg_nm (i := 2) sc_law_renamed.nd rfl (.inl rfl))) (fun _ _ _ _ _ => ft_yes) (fun _ _ _ _ _ => (e_call D_law_named (fun σ => lets0 σ) hr (fa_cons (fd_var 2) (fa_cons (fd_var 1) fa_nil))))) fa_nil)) fa_nil)))), hg, F.kp, hb⟩
abbrev s_law_own_round : Stmt := topS 58
theorem sc_law_own_round : FnScope ["draws", "wide", "names", "offers", "rows", "takers", "k", "factor", "table", "thing", "ring", "things", "cost"] ["draws"] (defScope s_law_own_round) := ⟨rfl, rfl, rfl, by decide +kernel, rfl, by decide +kernel, by decide +kernel⟩
theorem ok_law_own_round {a : Addr} {fd : FuncData} (F : Fun K "_law_own_round" "_law_own_round" s_law_own_round a fd) (D_law_drawn_names : FnD P w K mg base Tb "_law_drawn_names" 1 m_law_drawn_names) (D_law_renamed : FnD P w K mg base Tb "_law_renamed" 2 m_law_renamed) (hg : mg "_law_own_round" = some (.ref a)) (hb : Binds K fd ["draws"] []) (B : Bi mg) : FnD P w K mg base Tb "_law_own_round" 3 m_law_own_round := ⟨a, fd, ["draws"], fn_okD F sc_law_own_round fun cdv A outer s H E hr => 
  (fs_cons (fs_set (i := 1) sc_law_own_round.nd rfl (.inl rfl) (fd_add fd_int (fd_mod (e_int B (fa_cons (e_ix (fd_var 0) fd_int) fa_nil)) fd_int))) (fs_cons (fs_set (i := 2) sc_law_own_round.nd rfl (.inr rfl) (e_call D_law_drawn_names (fun σ => lets_of (L2N.takes_of rfl rfl rfl rfl) σ) hr (fa_cons (fd_cut (fd_var 0) (fo_some fd_int) fo_none) (fa_cons fd_int (fa_cons (fd_var 1) fa_nil))))) (fs_cons (fs_set (i := 3) sc_law_own_round.nd rfl (.inl rfl) (fd_tup (fa_cons (fd_tup (fa_cons (fd_tup (fa_cons fd_int fa_nil)) (fa_cons (fd_tup (fa_cons fd_int fa_nil)) fa_nil))) (fa_cons (fd_tup (fa_cons (fd_tup (fa_cons fd_int fa_nil)) (fa_cons (fd_tup (fa_cons fd_int fa_nil)) fa_nil))) (fa_cons (fd_tup (fa_cons (fd_tup (fa_cons fd_int fa_nil)) (fa_cons (fd_tup (fa_cons fd_int fa_nil)) fa_nil))) fa_nil))))) (fs_cons (fs_set (i := 4) sc_law_own_round.nd rfl (.inl rfl) (fd_tup (fa_cons (fd_tup (fa_cons (fd_tup (fa_cons fd_int (fa_cons fd_int (fa_cons fd_int fa_nil)))) (fa_cons (fd_tup (fa_cons fd_int (fa_cons fd_int (fa_cons fd_int fa_nil)))) (fa_cons (fd_tup (fa_cons fd_int (fa_cons fd_int (fa_cons fd_int fa_nil)))) fa_nil)))) (fa_cons (fd_tup (fa_cons (fd_tup (fa_cons fd_int (fa_cons fd_int (fa_cons fd_int fa_nil)))) (fa_cons (fd_tup (fa_cons fd_int (fa_cons fd_int (fa_cons fd_int fa_nil)))) (fa_cons (fd_tup (fa_cons fd_int (fa_cons fd_int (fa_cons fd_int fa_nil)))) fa_nil)))) (fa_cons (fd_tup (fa_cons (fd_tup (fa_cons fd_int (fa_cons fd_int (fa_cons fd_int fa_nil)))) (fa_cons (fd_tup (fa_cons fd_int (fa_cons fd_int (fa_cons fd_int fa_nil)))) (fa_cons (fd_tup (fa_cons fd_int (fa_cons fd_int (fa_cons fd_int fa_nil)))) fa_nil)))) fa_nil))))) (fs_cons (fs_own (i := 5) sc_law_own_round.nd rfl (.inl rfl) (fn_lst fa_nil)) (fs_cons (fs_for (passes_of rfl) rfl (fi_rng1 (by rfl) B.range (fa_cons fd_int fa_nil)) (fg_nm (i := 6) sc_law_own_round.nd rfl (.inr rfl)) (fs_cons (fs_set (i := 7) sc_law_own_round.nd rfl (.inr rfl) (e_ix (fd_tup (fa_cons fd_int (fa_cons fd_int (fa_cons (fd_pow fd_int fd_int) fa_nil)))) (fd_mod (e_int B (fa_cons (e_ix (fd_var 0) fd_int) fa_nil)) fd_int))) (fs_cons (fs_ownLc (i := 8) rfl sc_law_own_round.nd rfl rfl (by rfl) (fi_rng1 (by rfl) B.range (fa_cons (fd_var 1) fa_nil)) (own := [("thing", 9)]) (blkOk_by (by rfl)) (fun _ _ _ _ _ => (fg_nm (i := 9) sc_law_own_round.nd rfl (.inl rfl))) (fun _ _ _ _ _ => ft_yes) (fun _ _ _ _ _ => (fd_tup (fa_cons fd_int (fa_cons fd_int (fa_cons fd_int fa_nil)))))) (fs_cons (fs_for (passes_of rfl) rfl (fi_rng1 (by rfl) B.range (fa_cons fd_int fa_nil)) (fg_nm (i := 9) sc_law_own_round.nd rfl (.inl rfl)) (fs_one (fs_setAt (i := 8) rfl (.inl rfl) (by decide) (by decide) (e_ix (fd_var 2) (fd_var 9)) (e_tuple B (fa_cons (fd_lc rfl sc_law_own_round.nd (fi_seq (e_ix (e_ix (fd_var 4) (fd_var 6)) (fd_var 9))) (own := [("cost", 12)]) (blkOk_by (by rfl)) (fun _ _ _ _ _ => (fg_nm (i := 12) sc_law_own_round.nd rfl (.inl rfl))) (fun _ _ _ _ _ => ft_yes) (fun _ _ _ _ _ => (fd_sub (fd_add (fd_mul (fd_var 12) (fd_var 7)) (fd_mod (e_int B (fa_cons (e_ix (fd_var 0) (fd_add fd_int (fd_var 6))) fa_nil)) fd_int)) fd_int))) fa_nil))))) (fs_frz 8 (fs_one (fs_app (i := 5) rfl (.inl rfl) (by decide) (by decide) (fd_tup (fa_cons (fd_tup (fa_cons (fd_var 1) (fa_cons (e_call D_law_renamed (fun σ => lets_of (L2N.takes_of rfl rfl rfl rfl) σ) hr (fa_cons (e_ix (fd_var 3) (fd_var 6)) (fa_cons (fd_var 2) fa_nil))) fa_nil))) (fa_cons (e_tuple B (fa_cons (fd_var 8) fa_nil)) fa_nil))) rfl rfl rfl rfl rfl rfl))))))) (fs_cons (fs_own (i := 10) sc_law_own_round.nd rfl (.inl rfl) (fn_lst fa_nil)) (fs_cons (fs_for (passes_of rfl) rfl (fi_seq (fd_tup (fa_cons (fd_tup (fa_cons fd_int (fa_cons fd_int (fa_cons fd_int fa_nil)))) (fa_cons (fd_tup (fa_cons fd_int (fa_cons fd_int (fa_cons fd_int fa_nil)))) (fa_cons (fd_tup (fa_cons fd_int (fa_cons fd_int (fa_cons fd_int fa_nil)))) (fa_cons (fd_tup (fa_cons fd_int (fa_cons fd_int (fa_cons fd_int fa_nil)))) (fa_cons (fd_tup (fa_cons fd_int (fa_cons fd_int (fa_cons fd_int fa_nil)))) (fa_cons (fd_tup (fa_cons fd_int (fa_cons fd_int (fa_cons fd_int fa_nil)))) fa_nil)))))))) (fg_nm (i := 11) sc_law_own_round.nd rfl (.inl rfl)) (fs_one (fs_app (i := 10) rfl (.inl rfl) (by decide) (by decide) (e_tuple B (fa_cons (fd_lc rfl sc_law_own_round.nd (fi_seq (fd_var 11)) (own := [("thing", 9)]) (blkOk_by (by rfl)) (fun _ _ _ _ _ => (fg_nm (i := 9) sc_law_own_round.nd rfl (.inl rfl))) (fun _ _ _ _ _ => ft_yes) (fun _ _ _ _ _ => (fd_tup (fa_cons (e_ix (fd_var 2) (fd_var 9)) fa_nil)))) fa_nil)) rfl rfl rfl rfl rfl rfl))) (fs_frz 10 (fs_frz 5 (fs_one (fs_ret (fd_tup (fa_cons (e_tuple B (fa_cons (fd_var 5) fa_nil)) (fa_cons (fd_var 10) fa_nil))))))))))))))), hg, F.kp, hb⟩
abbrev s_law_costs : Stmt := topS 48
theorem sc_law_costs : FnScope ["cell", "size", "room", "great", "draws", "rows", "thing", "cost", "extra", "row", "k"] ["cell", "size", "room", "great"] (defScope s_law_costs) := ⟨rfl, rfl, rfl, by decide +kernel, rfl, by decide +kernel, by decide +kernel⟩
theorem ok_law_costs {a : Addr} {fd : FuncData} (F : Fun K "_law_costs" "_law_costs" s_law_costs a fd) (D_law_draws : FnD P w K mg base Tb "_law_draws" 1 m_law_draws) (hg : mg "_law_costs" = some (.ref a)) (hb : Binds K fd ["cell", "size", "room", "great"] []) (B : Bi mg) : FnD P w K mg base Tb "_law_costs" 2 m_law_costs_k79 := ⟨a, fd, ["cell", "size", "room", "great"], fn_okD F sc_law_costs fun cdv A outer s H E hr => 
  (fs_cons (fs_set (i := 4) sc_law_costs.nd rfl (.inl rfl) (e_call D_law_draws (fun σ => lets_of (L2N.takes_of rfl rfl rfl rfl) σ) hr (fa_cons (fd_var 0) (fa_cons (fd_add (fd_mul (fd_var 1) (fd_var 2)) fd_int) fa_nil)))) (fs_cons (fs_own (i := 5) sc_law_costs.nd rfl (.inl rfl) (fn_lst fa_nil)) (fs_cons (fs_for (passes_of rfl) rfl (fi_rng1 (by rfl) B.range (fa_cons (fd_var 1) fa_nil)) (fg_nm (i := 6) sc_law_costs.nd rfl (.inl rfl)) (fs_cons (fs_set (i := 7) sc_law_costs.nd rfl (.inl rfl) (fd_sub (fd_mod (e_int B (fa_cons (e_ix (fd_var 4) (fd_mul (fd_var 6) (fd_var 2))) fa_nil)) fd_int) fd_int)) (fs_cons (fs_set (i := 8) sc_law_costs.nd rfl (.inl rfl) (fd_mod (fd_div (e_int B (fa_cons (e_ix (fd_var 4) (fd_mul (fd_var 6) (fd_var 2))) fa_nil)) fd_int) fd_int)) (fs_cons (fs_own (i := 9) sc_law_costs.nd rfl (.inl rfl) (fn_lst fa_nil)) (fs_cons (fs_for (passes_of rfl) rfl (fi_rng1 (by rfl) B.range (fa_cons (fd_var 2) fa_nil)) (fg_nm (i := 10) sc_law_costs.nd rfl (.inl rfl)) (fs_cons (fs_if (t_gt (fd_var 10) fd_int) (fs_one (fs_set (i := 7) sc_law_costs.nd rfl (.inl rfl) (fd_add (fd_var 7) (e_ix (fd_tup (fa_cons fd_int (fa_cons fd_int (fa_cons fd_int (fa_cons fd_int (fa_cons fd_int (fa_cons fd_int fa_nil))))))) (fd_mod (e_int B (fa_cons (e_ix (fd_var 4) (fd_add (fd_mul (fd_var 6) (fd_var 2)) (fd_var 10))) fa_nil)) fd_int))))) fs_nil) (fs_one (fs_if (ft_val (fd_var 3)) (fs_one (fs_app (i := 9) rfl (.inl rfl) (by decide) (by decide) (fd_add (fd_mul (fd_var 7) (fd_pow fd_int fd_int)) (fd_var 8)) rfl rfl rfl rfl rfl rfl)) (fs_one (fs_app (i := 9) rfl (.inl rfl) (by decide) (by decide) (fd_var 7) rfl rfl rfl rfl rfl rfl)))))) (fs_frz 9 (fs_one (fs_app (i := 5) rfl (.inl rfl) (by decide) (by decide) (e_tuple B (fa_cons (fd_var 9) fa_nil)) rfl rfl rfl rfl rfl rfl)))))))) (fs_frz 5 (fs_one (fs_ret (e_tuple B (fa_cons (fd_var 5) fa_nil)))))))), hg, F.kp, hb⟩
abbrev s_law_parts_of : Stmt := topS 35
theorem sc_law_parts_of : FnScope ["size", "rows", "thing", "row"] ["size"] (defScope s_law_parts_of) := ⟨rfl, rfl, rfl, by decide +kernel, rfl, by decide +kernel, by decide +kernel⟩
theorem ok_law_parts_of {a : Addr} {fd : FuncData} (F : Fun K "_law_parts_of" "_law_parts_of" s_law_parts_of a fd) (hg : mg "_law_parts_of" = some (.ref a)) (hb : Binds K fd ["size"] []) (B : Bi mg) : FnD P w K mg base Tb "_law_parts_of" 1 m_law_parts_of := ⟨a, fd, ["size"], fn_okD F sc_law_parts_of fun cdv A outer s H E hr => 
  (fs_cons (fs_set (i := 1) sc_law_parts_of.nd rfl (.inl rfl) (fd_lst (fa_cons (fd_tup fa_nil) fa_nil))) (fs_cons (fs_for (passes_of rfl) rfl (fi_rng1 (by rfl) B.range (fa_cons (fd_var 0) fa_nil)) (fg_nm (i := 2) sc_law_parts_of.nd rfl (.inr rfl)) (fs_one (fs_set (i := 1) sc_law_parts_of.nd rfl (.inl rfl) (fd_add (fd_var 1) (fd_lc rfl sc_law_parts_of.nd (fi_seq (fd_var 1)) (own := [("row", 3)]) (blkOk_by (by rfl)) (fun _ _ _ _ _ => (fg_nm (i := 3) sc_law_parts_of.nd rfl (.inl rfl))) (fun _ _ _ _ _ => ft_yes) (fun _ _ _ _ _ => (fd_add (fd_var 3) (fd_tup (fa_cons (fd_var 2) fa_nil))))))))) (fs_one (fs_ret (e_sorted B hr (fa_cons (fd_var 1) fa_nil)))))), hg, F.kp, hb⟩
abbrev s_law_count : Stmt := topS 41
theorem sc_law_count : FnScope ["row", "classes", "c", "thing"] ["row", "classes", "c"] (defScope s_law_count) := ⟨rfl, rfl, rfl, by decide +kernel, rfl, by decide +kernel, by decide +kernel⟩
theorem ok_law_count {a : Addr} {fd : FuncData} (F : Fun K "_law_count" "_law_count" s_law_count a fd) (hg : mg "_law_count" = some (.ref a)) (hb : Binds K fd ["row", "classes", "c"] []) (B : Bi mg) : FnD P w K mg base Tb "_law_count" 1 m_law_count := ⟨a, fd, ["row", "classes", "c"], fn_okD F sc_law_count fun cdv A outer s H E hr => 
  (fs_one (fs_ret (e_len B (fa_cons (fd_lc rfl sc_law_count.nd (fi_seq (fd_var 0)) (own := [("thing", 3)]) (blkOk_by (by rfl)) (fun _ _ _ _ _ => (fg_nm (i := 3) sc_law_count.nd rfl (.inl rfl))) (fun _ _ _ _ _ => (ft_one (t_eq hr (e_ix (fd_var 1) (fd_var 3)) (fd_var 2)))) (fun _ _ _ _ _ => (fd_var 3))) fa_nil)))), hg, F.kp, hb⟩
abbrev s_law_bounded_lots : Stmt := topS 42
theorem sc_law_bounded_lots : FnScope ["draws", "size", "classes", "bounds", "rows", "row", "most", "count", "thing", "c"] ["draws", "size"] (defScope s_law_bounded_lots) := ⟨rfl, rfl, rfl, by decide +kernel, rfl, by decide +kernel, by decide +kernel⟩
theorem ok_law_bounded_lots {a : Addr} {fd : FuncData} (F : Fun K "_law_bounded_lots" "_law_bounded_lots" s_law_bounded_lots a fd) (D_law_parts_of : FnD P w K mg base Tb "_law_parts_of" 1 m_law_parts_of) (D_law_count : FnD P w K mg base Tb "_law_count" 1 m_law_count) (hg : mg "_law_bounded_lots" = some (.ref a)) (hb : Binds K fd ["draws", "size"] []) (B : Bi mg) : FnD P w K mg base Tb "_law_bounded_lots" 2 m_law_bounded_lots := ⟨a, fd, ["draws", "size"], fn_okD F sc_law_bounded_lots fun cdv A outer s H E hr => 
  (fs_cons (fs_set (i := 2) sc_law_bounded_lots.nd rfl (.inr rfl) (fd_lc rfl sc_law_bounded_lots.nd (fi_rng1 (by rfl) B.range (fa_cons (fd_var 1) fa_nil)) (own := [("thing", 8)]) (blkOk_by (by rfl)) (fun _ _ _ _ _ => (fg_nm (i := 8) sc_law_bounded_lots.nd rfl (.inl rfl))) (fun _ _ _ _ _ => ft_yes) (fun _ _ _ _ _ => (fd_mod (e_int B (fa_cons (e_ix (fd_var 0) (fd_add fd_int (fd_var 8))) fa_nil)) fd_int)))) (fs_cons (fs_set (i := 3) sc_law_bounded_lots.nd rfl (.inr rfl) (fd_lst (fa_cons (fd_add fd_int (fd_mod (e_int B (fa_cons (e_ix (fd_var 0) fd_int) fa_nil)) fd_int)) (fa_cons (fd_add fd_int (fd_mod (fd_div (e_int B (fa_cons (e_ix (fd_var 0) fd_int) fa_nil)) fd_int) fd_int)) (fa_cons (fd_mod (fd_div (e_int B (fa_cons (e_ix (fd_var 0) fd_int) fa_nil)) fd_int) fd_int) fa_nil))))) (fs_cons (fs_own (i := 4) sc_law_bounded_lots.nd rfl (.inl rfl) (fn_lst fa_nil)) (fs_cons (fs_for (passes_of rfl) rfl (fi_seq (e_call D_law_parts_of (fun σ => lets_of (L2N.takes_of rfl rfl rfl rfl) σ) hr (fa_cons (fd_var 1) fa_nil))) (fg_nm (i := 5) sc_law_bounded_lots.nd rfl (.inr rfl)) (fs_one (fs_if (ft_val (e_all B (fa_cons (fd_lc rfl sc_law_bounded_lots.nd (fi_rng1 (by rfl) B.range (fa_cons fd_int fa_nil)) (own := [("c", 9)]) (blkOk_by (by rfl)) (fun _ _ _ _ _ => (fg_nm (i := 9) sc_law_bounded_lots.nd rfl (.inl rfl))) (fun _ _ _ _ _ => ft_yes) (fun _ _ _ _ _ => (e_le (e_call D_law_count (fun σ => lets0 σ) hr (fa_cons (fd_var 5) (fa_cons (fd_var 2) (fa_cons (fd_var 9) fa_nil)))) (e_ix (fd_var 3) (fd_var 9))))) fa_nil))) (fs_one (fs_app (i := 4) rfl (.inl rfl) (by decide) (by decide) (fd_var 5) rfl rfl rfl rfl rfl rfl)) fs_nil))) (fs_frz 4 (fs_cons (fs_set (i := 6) sc_law_bounded_lots.nd rfl (.inl rfl) (e_max B (fa_cons (fd_lc rfl sc_law_bounded_lots.nd (fi_seq (fd_var 4)) (own := [("row", 5)]) (blkOk_by (by rfl)) (fun _ _ _ _ _ => (fg_nm (i := 5) sc_law_bounded_lots.nd rfl (.inl rfl))) (fun _ _ _ _ _ => ft_yes) (fun _ _ _ _ _ => (e_len B (fa_cons (fd_var 5) fa_nil)))) fa_nil))) (fs_cons (fs_set (i := 7) sc_law_bounded_lots.nd rfl (.inr rfl) (e_min2 B (fa_cons (fd_var 6) (fa_cons (e_ix (fd_tup (fa_cons fd_int (fa_cons fd_int (fa_cons fd_int (fa_cons fd_int (fa_cons fd_int (fa_cons fd_int (fa_cons fd_int (fa_cons fd_int fa_nil))))))))) (fd_mod (e_int B (fa_cons (e_ix (fd_var 0) fd_int) fa_nil)) fd_int)) fa_nil)))) (fs_one (fs_ret (e_tuple B (fa_cons (fd_lc rfl sc_law_bounded_lots.nd (fi_seq (fd_var 4)) (own := [("row", 5)]) (blkOk_by (by rfl)) (fun _ _ _ _ _ => (fg_nm (i := 5) sc_law_bounded_lots.nd rfl (.inl rfl))) (fun _ _ _ _ _ => (ft_one (t_eq hr (e_len B (fa_cons (fd_var 5) fa_nil)) (fd_var 7)))) (fun _ _ _ _ _ => (fd_var 5))) fa_nil))))))))))), hg, F.kp, hb⟩
abbrev s_law_is_forest : Stmt := topS 43
theorem sc_law_is_forest : FnScope ["row", "roads", "points", "labels", "thing", "u", "v", "label"] ["row", "roads", "points"] (defScope s_law_is_forest) := ⟨rfl, rfl, rfl, by decide +kernel, rfl, by decide +kernel, by decide +kernel⟩
theorem ok_law_is_forest {a : Addr} {fd : FuncData} (F : Fun K "_law_is_forest" "_law_is_forest" s_law_is_forest a fd) (hg : mg "_law_is_forest" = some (.ref a)) (hb : Binds K fd ["row", "roads", "points"] []) (B : Bi mg) : FnD P w K mg base Tb "_law_is_forest" 1 m_law_is_forest := ⟨a, fd, ["row", "roads", "points"], fn_okD F sc_law_is_forest fun cdv A outer s H E hr => 
  (fs_cons (fs_set (i := 3) sc_law_is_forest.nd rfl (.inl rfl) (fd_lstR1 rfl (by rfl) B.list (by rfl) B.range (fd_var 2))) (fs_cons (fs_for (passes_of rfl) rfl (fi_seq (fd_var 0)) (fg_nm (i := 4) sc_law_is_forest.nd rfl (.inl rfl)) (fs_cons (fs_set (i := 5) sc_law_is_forest.nd rfl (.inr rfl) (e_ix (fd_var 3) (e_ix (e_ix (fd_var 1) (fd_var 4)) fd_int))) (fs_cons (fs_set (i := 6) sc_law_is_forest.nd rfl (.inr rfl) (e_ix (fd_var 3) (e_ix (e_ix (fd_var 1) (fd_var 4)) fd_int))) (fs_cons (fs_if (t_eq hr (fd_var 5) (fd_var 6)) (fs_one (fs_ret fd_bl)) fs_nil) (fs_one (fs_setLc (i := 3) rfl sc_law_is_forest.nd rfl rfl (by rfl) (fi_seq (fd_var 3)) (own := [("label", 7)]) (blkOk_by (by rfl)) (fun _ _ _ _ _ => (fg_nm (i := 7) sc_law_is_forest.nd rfl (.inl rfl))) (fun _ _ _ _ _ => ft_yes) (fun _ _ _ _ _ => (fd_if (t_eq hr (fd_var 7) (fd_var 5)) (fd_var 6) (fd_var 7))))))))) (fs_one (fs_ret fd_bl)))), hg, F.kp, hb⟩
abbrev s_law_forest_lots : Stmt := topS 44
theorem sc_law_forest_lots : FnScope ["draws", "size", "points", "roads", "thing", "draw", "rows", "most", "row"] ["draws", "size"] (defScope s_law_forest_lots) := ⟨rfl, rfl, rfl, by decide +kernel, rfl, by decide +kernel, by decide +kernel⟩
theorem ok_law_forest_lots {a : Addr} {fd : FuncData} (F : Fun K "_law_forest_lots" "_law_forest_lots" s_law_forest_lots a fd) (D_law_parts_of : FnD P w K mg base Tb "_law_parts_of" 1 m_law_parts_of) (D_law_is_forest : FnD P w K mg base Tb "_law_is_forest" 1 m_law_is_forest) (hg : mg "_law_forest_lots" = some (.ref a)) (hb : Binds K fd ["draws", "size"] []) (B : Bi mg) : FnD P w K mg base Tb "_law_forest_lots" 2 m_law_forest_lots := ⟨a, fd, ["draws", "size"], fn_okD F sc_law_forest_lots fun cdv A outer s H E hr => 
  (fs_cons (fs_set (i := 2) sc_law_forest_lots.nd rfl (.inr rfl) (fd_add fd_int (fd_mod (e_int B (fa_cons (e_ix (fd_var 0) fd_int) fa_nil)) fd_int))) (fs_cons (fs_own (i := 3) sc_law_forest_lots.nd rfl (.inr rfl) (fn_lst fa_nil)) (fs_cons (fs_for (passes_of rfl) rfl (fi_rng1 (by rfl) B.range (fa_cons (fd_var 1) fa_nil)) (fg_nm (i := 4) sc_law_forest_lots.nd rfl (.inl rfl)) (fs_cons (fs_set (i := 5) sc_law_forest_lots.nd rfl (.inl rfl) (e_int B (fa_cons (e_ix (fd_var 0) (fd_add fd_int (fd_var 4))) fa_nil))) (fs_one (fs_app (i := 3) rfl (.inr (.inl rfl)) (by decide) (by decide) (fd_tup (fa_cons (fd_mod (fd_var 5) (fd_var 2)) (fa_cons (fd_mod (fd_div (fd_var 5) (fd_var 2)) (fd_var 2)) fa_nil))) rfl rfl rfl rfl rfl rfl)))) (fs_frz 3 (fs_cons (fs_setLc (i := 6) rfl sc_law_forest_lots.nd rfl rfl (by rfl) (fi_seq (e_call D_law_parts_of (fun σ => lets_of (L2N.takes_of rfl rfl rfl rfl) σ) hr (fa_cons (fd_var 1) fa_nil))) (own := [("row", 8)]) (blkOk_by (by rfl)) (fun _ _ _ _ _ => (fg_nm (i := 8) sc_law_forest_lots.nd rfl (.inl rfl))) (fun _ _ _ _ _ => (ft_one (ft_val (e_call D_law_is_forest (fun σ => lets0 σ) hr (fa_cons (fd_var 8) (fa_cons (fd_var 3) (fa_cons (fd_var 2) fa_nil))))))) (fun _ _ _ _ _ => (fd_var 8))) (fs_cons (fs_set (i := 7) sc_law_forest_lots.nd rfl (.inr rfl) (e_max B (fa_cons (fd_lc rfl sc_law_forest_lots.nd (fi_seq (fd_var 6)) (own := [("row", 8)]) (blkOk_by (by rfl)) (fun _ _ _ _ _ => (fg_nm (i := 8) sc_law_forest_lots.nd rfl (.inl rfl))) (fun _ _ _ _ _ => ft_yes) (fun _ _ _ _ _ => (e_len B (fa_cons (fd_var 8) fa_nil)))) fa_nil))) (fs_one (fs_ret (e_tuple B (fa_cons (fd_lc rfl sc_law_forest_lots.nd (fi_seq (fd_var 6)) (own := [("row", 8)]) (blkOk_by (by rfl)) (fun _ _ _ _ _ => (fg_nm (i := 8) sc_law_forest_lots.nd rfl (.inl rfl))) (fun _ _ _ _ _ => (ft_one (t_eq hr (e_len B (fa_cons (fd_var 8) fa_nil)) (fd_var 7)))) (fun _ _ _ _ _ => (fd_var 8))) fa_nil)))))))))), hg, F.kp, hb⟩
abbrev s_law_rest_of : Stmt := topS 45
theorem sc_law_rest_of : FnScope ["lot", "size", "thing"] ["lot", "size"] (defScope s_law_rest_of) := ⟨rfl, rfl, rfl, by decide +kernel, rfl, by decide +kernel, by decide +kernel⟩
theorem ok_law_rest_of {a : Addr} {fd : FuncData} (F : Fun K "_law_rest_of" "_law_rest_of" s_law_rest_of a fd) (hg : mg "_law_rest_of" = some (.ref a)) (hb : Binds K fd ["lot", "size"] []) (B : Bi mg) : FnD P w K mg base Tb "_law_rest_of" 1 m_law_rest_of := ⟨a, fd, ["lot", "size"], fn_okD F sc_law_rest_of fun cdv A outer s H E hr => 
  (fs_one (fs_ret (e_tuple B (fa_cons (fd_lc rfl sc_law_rest_of.nd (fi_rng1 (by rfl) B.range (fa_cons (fd_var 1) fa_nil)) (own := [("thing", 2)]) (blkOk_by (by rfl)) (fun _ _ _ _ _ => (fg_nm (i := 2) sc_law_rest_of.nd rfl (.inl rfl))) (fun _ _ _ _ _ => (ft_one (t_notin hr (fd_var 2) (fd_var 0)))) (fun _ _ _ _ _ => (fd_var 2))) fa_nil)))), hg, F.kp, hb⟩
abbrev s_law_smooth_lots : Stmt := topS 46
theorem sc_law_smooth_lots : FnScope ["cell", "size", "draws", "kind", "lots", "lot"] ["cell", "size"] (defScope s_law_smooth_lots) := ⟨rfl, rfl, rfl, by decide +kernel, rfl, by decide +kernel, by decide +kernel⟩
theorem ok_law_smooth_lots {a : Addr} {fd : FuncData} (F : Fun K "_law_smooth_lots" "_law_smooth_lots" s_law_smooth_lots a fd) (D_law_draws : FnD P w K mg base Tb "_law_draws" 1 m_law_draws) (D_law_bounded_lots : FnD P w K mg base Tb "_law_bounded_lots" 2 m_law_bounded_lots) (D_law_forest_lots : FnD P w K mg base Tb "_law_forest_lots" 2 m_law_forest_lots) (D_law_rest_of : FnD P w K mg base Tb "_law_rest_of" 1 m_law_rest_of) (hg : mg "_law_smooth_lots" = some (.ref a)) (hb : Binds K fd ["cell", "size"] []) (B : Bi mg) : FnD P w K mg base Tb "_law_smooth_lots" 3 m_law_smooth_lots_k03 := ⟨a, fd, ["cell", "size"], fn_okD F sc_law_smooth_lots fun cdv A outer s H E hr => 
  (fs_cons (fs_set (i := 2) sc_law_smooth_lots.nd rfl (.inl rfl) (e_call D_law_draws (fun σ => lets_of (L2N.takes_of rfl rfl rfl rfl) σ) hr (fa_cons (fd_var 0) (fa_cons (fd_add fd_int (fd_var 1)) fa_nil)))) (fs_cons (fs_set (i := 3) sc_law_smooth_lots.nd rfl (.inl rfl) (fd_mod (e_int B (fa_cons (e_ix (fd_var 2) fd_int) fa_nil)) fd_int)) (fs_cons (fs_if (t_lt (fd_var 3) fd_int) (fs_one (fs_set (i := 4) sc_law_smooth_lots.nd rfl (.inl rfl) (e_call D_law_bounded_lots (fun σ => lets_of (L2N.takes_of rfl rfl rfl rfl) σ) hr (fa_cons (fd_var 2) (fa_cons (fd_var 1) fa_nil))))) (fs_one (fs_set (i := 4) sc_law_smooth_lots.nd rfl (.inl rfl) (e_call D_law_forest_lots (fun σ => lets_of (L2N.takes_of rfl rfl rfl rfl) σ) hr (fa_cons (fd_var 2) (fa_cons (fd_var 1) fa_nil)))))) (fs_cons (fs_if (PW.pt (fw_or (t_eq hr (fd_var 3) fd_int) (fw_or1 (t_eq hr (fd_var 3) fd_int)))) (fs_one (fs_set (i := 4) sc_law_smooth_lots.nd rfl (.inl rfl) (e_tuple B (fa_cons (e_sorted B hr (fa_cons (fd_lc rfl sc_law_smooth_lots.nd (fi_seq (fd_var 4)) (own := [("lot", 5)]) (blkOk_by (by rfl)) (fun _ _ _ _ _ => (fg_nm (i := 5) sc_law_smooth_lots.nd rfl (.inl rfl))) (fun _ _ _ _ _ => ft_yes) (fun _ _ _ _ _ => (e_call D_law_rest_of (fun σ => lets0 σ) hr (fa_cons (fd_var 5) (fa_cons (fd_var 1) fa_nil))))) fa_nil)) fa_nil)))) fs_nil) (fs_one (fs_ret (fd_var 4))))))), hg, F.kp, hb⟩
abbrev s_law_within : Stmt := topS 36
theorem sc_law_within : FnScope ["inner", "outer", "thing"] ["inner", "outer"] (defScope s_law_within) := ⟨rfl, rfl, rfl, by decide +kernel, rfl, by decide +kernel, by decide +kernel⟩
theorem ok_law_within {a : Addr} {fd : FuncData} (F : Fun K "_law_within" "_law_within" s_law_within a fd) (hg : mg "_law_within" = some (.ref a)) (hb : Binds K fd ["inner", "outer"] []) (B : Bi mg) : FnD P w K mg base Tb "_law_within" 1 m_law_within := ⟨a, fd, ["inner", "outer"], fn_okD F sc_law_within fun cdv A outer s H E hr => 
  (fs_one (fs_ret (e_all B (fa_cons (fd_lc rfl sc_law_within.nd (fi_seq (fd_var 0)) (own := [("thing", 2)]) (blkOk_by (by rfl)) (fun _ _ _ _ _ => (fg_nm (i := 2) sc_law_within.nd rfl (.inl rfl))) (fun _ _ _ _ _ => ft_yes) (fun _ _ _ _ _ => (e_in hr (fd_var 2) (fd_var 1)))) fa_nil)))), hg, F.kp, hb⟩
abbrev s_law_antichain : Stmt := topS 37
theorem sc_law_antichain : FnScope ["rows", "kept", "row", "other"] ["rows"] (defScope s_law_antichain) := ⟨rfl, rfl, rfl, by decide +kernel, rfl, by decide +kernel, by decide +kernel⟩
theorem ok_law_antichain {a : Addr} {fd : FuncData} (F : Fun K "_law_antichain" "_law_antichain" s_law_antichain a fd) (D_law_within : FnD P w K mg base Tb "_law_within" 1 m_law_within) (hg : mg "_law_antichain" = some (.ref a)) (hb : Binds K fd ["rows"] []) (B : Bi mg) : FnD P w K mg base Tb "_law_antichain" 2 m_law_antichain := ⟨a, fd, ["rows"], fn_okD F sc_law_antichain fun cdv A outer s H E hr => 
  (fs_cons (fs_own (i := 1) sc_law_antichain.nd rfl (.inl rfl) (fn_lst fa_nil)) (fs_cons (fs_for (passes_of rfl) rfl (fi_seq (e_sorted B hr (fa_cons (fd_var 0) fa_nil))) (fg_nm (i := 2) sc_law_antichain.nd rfl (.inr rfl)) (fs_one (fs_if (ft_thaw (PW.pt (fw_and (t_notin hr (fd_var 2) (fd_var 1)) (fw_and1 (ft_not (ft_val (e_any B (fa_cons (fd_lc rfl sc_law_antichain.nd (fi_seq (fd_var 0)) (own := [("other", 3)]) (blkOk_by (by rfl)) (fun _ _ _ _ _ => (fg_nm (i := 3) sc_law_antichain.nd rfl (.inl rfl))) (fun _ _ _ _ _ => ft_yes) (fun _ _ _ _ _ => (fd_and (e_ne hr (fd_var 2) (fd_var 3)) (fd_one (e_call D_law_within (fun σ => lets0 σ) hr (fa_cons (fd_var 2) (fa_cons (fd_var 3) fa_nil))))))) fa_nil)))))))) (fs_one (fs_app (i := 1) rfl (.inl rfl) (by decide) (by decide) (fd_var 2) rfl rfl rfl rfl rfl rfl)) fs_nil))) (fs_frz 1 (fs_one (fs_ret (e_tuple B (fa_cons (fd_var 1) fa_nil))))))), hg, F.kp, hb⟩
abbrev s_law_any_lots : Stmt := topS 40
theorem sc_law_any_lots : FnScope ["cell", "size", "draws", "parts", "rows", "k"] ["cell", "size"] (defScope s_law_any_lots) := ⟨rfl, rfl, rfl, by decide +kernel, rfl, by decide +kernel, by decide +kernel⟩
theorem ok_law_any_lots {a : Addr} {fd : FuncData} (F : Fun K "_law_any_lots" "_law_any_lots" s_law_any_lots a fd) (D_law_draws : FnD P w K mg base Tb "_law_draws" 1 m_law_draws) (D_law_parts_of : FnD P w K mg base Tb "_law_parts_of" 1 m_law_parts_of) (D_law_antichain : FnD P w K mg base Tb "_law_antichain" 2 m_law_antichain) (hg : mg "_law_any_lots" = some (.ref a)) (hb : Binds K fd ["cell", "size"] []) (B : Bi mg) : FnD P w K mg base Tb "_law_any_lots" 3 m_law_any_lots_k79 := ⟨a, fd, ["cell", "size"], fn_okD F sc_law_any_lots fun cdv A outer s H E hr => 
  (fs_cons (fs_set (i := 2) sc_law_any_lots.nd rfl (.inr rfl) (e_call D_law_draws (fun σ => lets_of (L2N.takes_of rfl rfl rfl rfl) σ) hr (fa_cons (fd_var 0) (fa_cons fd_int fa_nil)))) (fs_cons (fs_set (i := 3) sc_law_any_lots.nd rfl (.inr rfl) (e_call D_law_parts_of (fun σ => lets_of (L2N.takes_of rfl rfl rfl rfl) σ) hr (fa_cons (fd_var 1) fa_nil))) (fs_cons (fs_setLc (i := 4) rfl sc_law_any_lots.nd rfl rfl (by rfl) (fi_rng1 (by rfl) B.range (fa_cons (fd_add fd_int (fd_mod (e_int B (fa_cons (e_ix (fd_var 2) fd_int) fa_nil)) fd_int)) fa_nil)) (own := [("k", 5)]) (blkOk_by (by rfl)) (fun _ _ _ _ _ => (fg_nm (i := 5) sc_law_any_lots.nd rfl (.inl rfl))) (fun _ _ _ _ _ => ft_yes) (fun _ _ _ _ _ => (e_ix (fd_var 3) (fd_mod (e_int B (fa_cons (e_ix (fd_var 2) (fd_add fd_int (fd_var 5))) fa_nil)) (e_len B (fa_cons (fd_var 3) fa_nil)))))) (fs_one (fs_ret (e_call D_law_antichain (fun σ => lets_of (L2N.takes_of rfl rfl rfl rfl) σ) hr (fa_cons (fd_var 4) fa_nil))))))), hg, F.kp, hb⟩
abbrev s_law_lots : Stmt := topS 47
theorem sc_law_lots : FnScope ["cell", "size", "draws"] ["cell", "size"] (defScope s_law_lots) := ⟨rfl, rfl, rfl, by decide +kernel, rfl, by decide +kernel, by decide +kernel⟩
theorem ok_law_lots {a : Addr} {fd : FuncData} (F : Fun K "_law_lots" "_law_lots" s_law_lots a fd) (D_law_draws : FnD P w K mg base Tb "_law_draws" 1 m_law_draws) (D_law_any_lots : FnD P w K mg base Tb "_law_any_lots" 3 m_law_any_lots_k79) (D_law_smooth_lots : FnD P w K mg base Tb "_law_smooth_lots" 3 m_law_smooth_lots_k03) (hg : mg "_law_lots" = some (.ref a)) (hb : Binds K fd ["cell", "size"] []) (B : Bi mg) : FnD P w K mg base Tb "_law_lots" 4 m_law_lots_k79 := ⟨a, fd, ["cell", "size"], fn_okD F sc_law_lots fun cdv A outer s H E hr => 
  (fs_cons (fs_set (i := 2) sc_law_lots.nd rfl (.inl rfl) (e_call D_law_draws (fun σ => lets_of (L2N.takes_of rfl rfl rfl rfl) σ) hr (fa_cons (fd_var 0) (fa_cons fd_int fa_nil)))) (fs_cons (fs_if (t_eq hr (fd_mod (fd_div (e_int B (fa_cons (e_ix (fd_var 2) fd_int) fa_nil)) fd_int) fd_int) fd_int) (fs_one (fs_ret (e_call D_law_smooth_lots (fun σ => lets_of (L2N.takes_of rfl rfl rfl rfl) σ) hr (fa_cons (fd_var 0) (fa_cons (fd_var 1) fa_nil))))) fs_nil) (fs_one (fs_ret (e_call D_law_any_lots (fun σ => lets_of (L2N.takes_of rfl rfl rfl rfl) σ) hr (fa_cons (fd_var 0) (fa_cons (fd_var 1) fa_nil))))))), hg, F.kp, hb⟩
abbrev s_law_game : Stmt := topS 49
theorem sc_law_game : FnScope ["script", "first", "smooth", "draws", "count", "size", "takers", "k", "cell", "lots", "room", "costs"] ["script", "first", "smooth"] (defScope s_law_game) := ⟨rfl, rfl, rfl, by decide +kernel, rfl, by decide +kernel, by decide +kernel⟩
theorem ok_law_game {a : Addr} {fd : FuncData} (F : Fun K "_law_game" "_law_game" s_law_game a fd) (D_law_draws : FnD P w K mg base Tb "_law_draws" 1 m_law_draws) (D_law_cell : FnD P w K mg base Tb "_law_cell" 1 m_law_cell) (D_law_costs : FnD P w K mg base Tb "_law_costs" 2 m_law_costs_k79) (D_law_smooth_lots : FnD P w K mg base Tb "_law_smooth_lots" 3 m_law_smooth_lots_k03) (D_law_lots : FnD P w K mg base Tb "_law_lots" 4 m_law_lots_k79) (hg : mg "_law_game" = some (.ref a)) (hb : Binds K fd ["script", "first", "smooth"] []) (B : Bi mg) : FnD P w K mg base Tb "_law_game" 5 m_law_game_k86 := ⟨a, fd, ["script", "first", "smooth"], fn_okD F sc_law_game fun cdv A outer s H E hr => 
  (fs_cons (fs_set (i := 3) sc_law_game.nd rfl (.inl rfl) (e_call D_law_draws (fun σ => lets_of (L2N.takes_of rfl rfl rfl rfl) σ) hr (fa_cons (e_call D_law_cell (fun σ => lets_of (L2N.takes_of rfl rfl rfl rfl) σ) hr (fa_cons (fd_var 0) (fa_cons (fd_var 1) fa_nil))) (fa_cons fd_int fa_nil)))) (fs_cons (fs_set (i := 4) sc_law_game.nd rfl (.inl rfl) (e_ix (fd_tup (fa_cons fd_int (fa_cons fd_int (fa_cons fd_int (fa_cons fd_int (fa_cons fd_int (fa_cons fd_int (fa_cons fd_int (fa_cons fd_int fa_nil))))))))) (fd_mod (e_int B (fa_cons (e_ix (fd_var 3) fd_int) fa_nil)) fd_int))) (fs_cons (fs_set (i := 5) sc_law_game.nd rfl (.inl rfl) (e_ix (fd_tup (fa_cons fd_int (fa_cons fd_int (fa_cons fd_int (fa_cons fd_int (fa_cons fd_int (fa_cons fd_int (fa_cons fd_int (fa_cons fd_int fa_nil))))))))) (fd_mod (e_int B (fa_cons (e_ix (fd_var 3) fd_int) fa_nil)) fd_int))) (fs_cons (fs_own (i := 6) sc_law_game.nd rfl (.inl rfl) (fn_lst fa_nil)) (fs_cons (fs_for (passes_of rfl) rfl (fi_rng1 (by rfl) B.range (fa_cons (fd_var 4) fa_nil)) (fg_nm (i := 7) sc_law_game.nd rfl (.inl rfl)) (fs_cons (fs_set (i := 8) sc_law_game.nd rfl (.inl rfl) (e_call D_law_cell (fun σ => lets_of (L2N.takes_of rfl rfl rfl rfl) σ) hr (fa_cons (fd_var 0) (fa_cons (fd_add (fd_add (fd_var 1) fd_int) (fd_mul fd_int (fd_var 7))) fa_nil)))) (fs_cons (fs_if (ft_val (fd_var 2)) (fs_one (fs_set (i := 9) sc_law_game.nd rfl (.inl rfl) (e_call D_law_smooth_lots (fun σ => lets_of (L2N.takes_of rfl rfl rfl rfl) σ) hr (fa_cons (fd_var 8) (fa_cons (fd_var 5) fa_nil))))) (fs_one (fs_set (i := 9) sc_law_game.nd rfl (.inl rfl) (e_call D_law_lots (fun σ => lets_of (L2N.takes_of rfl rfl rfl rfl) σ) hr (fa_cons (fd_var 8) (fa_cons (fd_var 5) fa_nil)))))) (fs_cons (fs_set (i := 10) sc_law_game.nd rfl (.inl rfl) (fd_add (fd_var 4) (fd_mod (e_int B (fa_cons (e_ix (fd_var 3) fd_int) fa_nil)) fd_int))) (fs_cons (fs_set (i := 11) sc_law_game.nd rfl (.inl rfl) (e_call D_law_costs (fun σ => lets_of (L2N.takes_of rfl rfl rfl rfl) σ) hr (fa_cons (e_call D_law_cell (fun σ => lets_of (L2N.takes_of rfl rfl rfl rfl) σ) hr (fa_cons (fd_var 0) (fa_cons (fd_add (fd_add (fd_var 1) fd_int) (fd_mul fd_int (fd_var 7))) fa_nil))) (fa_cons (fd_var 5) (fa_cons (fd_var 10) (fa_cons (e_eq hr (fd_mod (e_int B (fa_cons (e_ix (fd_var 3) fd_int) fa_nil)) fd_int) fd_int) fa_nil)))))) (fs_one (fs_app (i := 6) rfl (.inl rfl) (by decide) (by decide) (fd_tup (fa_cons (fd_tup (fa_cons (fd_var 5) (fa_cons (fd_var 9) fa_nil))) (fa_cons (fd_var 11) fa_nil))) rfl rfl rfl rfl rfl rfl))))))) (fs_frz 6 (fs_one (fs_ret (e_tuple B (fa_cons (fd_var 6) fa_nil)))))))))), hg, F.kp, hb⟩
abbrev s_law_loads : Stmt := topS 51
theorem sc_law_loads : FnScope ["choice", "size", "thing", "lot"] ["choice", "size"] (defScope s_law_loads) := ⟨rfl, rfl, rfl, by decide +kernel, rfl, by decide +kernel, by decide +kernel⟩
theorem ok_law_loads {a : Addr} {fd : FuncData} (F : Fun K "_law_loads" "_law_loads" s_law_loads a fd) (hg : mg "_law_loads" = some (.ref a)) (hb : Binds K fd ["choice", "size"] []) (B : Bi mg) : FnD P w K mg base Tb "_law_loads" 1 m_law_loads := ⟨a, fd, ["choice", "size"], fn_okD F sc_law_loads fun cdv A outer s H E hr => 
  (fs_one (fs_ret (fd_lc rfl sc_law_loads.nd (fi_rng1 (by rfl) B.range (fa_cons (fd_var 1) fa_nil)) (own := [("thing", 2)]) (blkOk_by (by rfl)) (fun _ _ _ _ _ => (fg_nm (i := 2) sc_law_loads.nd rfl (.inr rfl))) (fun _ _ _ _ _ => ft_yes) (fun _ _ _ _ _ => (e_len B (fa_cons (fd_lc rfl sc_law_loads.nd (fi_seq (fd_var 0)) (own := [("lot", 3)]) (blkOk_by (by rfl)) (fun _ _ _ _ _ => (fg_nm (i := 3) sc_law_loads.nd rfl (.inl rfl))) (fun _ _ _ _ _ => (ft_one (t_in hr (fd_var 2) (fd_var 3)))) (fun _ _ _ _ _ => (fd_var 3))) fa_nil)))))), hg, F.kp, hb⟩
abbrev s_law_pay : Stmt := topS 52
theorem sc_law_pay : FnScope ["game", "choice", "taker", "costs", "numbers", "thing"] ["game", "choice", "taker"] (defScope s_law_pay) := ⟨rfl, rfl, rfl, by decide +kernel, rfl, by decide +kernel, by decide +kernel⟩
theorem ok_law_pay {a : Addr} {fd : FuncData} (F : Fun K "_law_pay" "_law_pay" s_law_pay a fd) (D_law_loads : FnD P w K mg base Tb "_law_loads" 1 m_law_loads) (hg : mg "_law_pay" = some (.ref a)) (hb : Binds K fd ["game", "choice", "taker"] []) (B : Bi mg) : FnD P w K mg base Tb "_law_pay" 2 m_law_pay := ⟨a, fd, ["game", "choice", "taker"], fn_okD F sc_law_pay fun cdv A outer s H E hr => 
  (fs_cons (fs_set (i := 3) sc_law_pay.nd rfl (.inr rfl) (e_ix (e_ix (fd_var 0) (fd_var 2)) fd_int)) (fs_cons (fs_set (i := 4) sc_law_pay.nd rfl (.inr rfl) (e_call D_law_loads (fun σ => lets_of (L2N.takes_of rfl rfl rfl rfl) σ) hr (fa_cons (fd_var 1) (fa_cons (e_len B (fa_cons (fd_var 3) fa_nil)) fa_nil)))) (fs_one (fs_ret (e_sum B (fa_cons (fd_lc rfl sc_law_pay.nd (fi_seq (e_ix (fd_var 1) (fd_var 2))) (own := [("thing", 5)]) (blkOk_by (by rfl)) (fun _ _ _ _ _ => (fg_nm (i := 5) sc_law_pay.nd rfl (.inl rfl))) (fun _ _ _ _ _ => ft_yes) (fun _ _ _ _ _ => (e_ix (e_ix (fd_var 3) (fd_var 5)) (fd_sub (e_ix (fd_var 4) (fd_var 5)) fd_int)))) fa_nil)))))), hg, F.kp, hb⟩
abbrev s_law_is_ring : Stmt := topS 57
theorem sc_law_is_ring : FnScope ["game", "ring", "k", "before", "after", "changed", "taker"] ["game", "ring"] (defScope s_law_is_ring) := ⟨rfl, rfl, rfl, by decide +kernel, rfl, by decide +kernel, by decide +kernel⟩
theorem ok_law_is_ring {a : Addr} {fd : FuncData} (F : Fun K "_law_is_ring" "_law_is_ring" s_law_is_ring a fd) (D_law_pay : FnD P w K mg base Tb "_law_pay" 2 m_law_pay) (hg : mg "_law_is_ring" = some (.ref a)) (hb : Binds K fd ["game", "ring"] []) (B : Bi mg) : FnD P w K mg base Tb "_law_is_ring" 3 m_law_is_ring := ⟨a, fd, ["game", "ring"], fn_okD F sc_law_is_ring fun cdv A outer s H E hr => 
  (fs_cons (fs_if (t_lt (e_len B (fa_cons (fd_var 1) fa_nil)) fd_int) (fs_one (fs_ret fd_bl)) fs_nil) (fs_cons (fs_for (passes_of rfl) rfl (fi_rng1 (by rfl) B.range (fa_cons (e_len B (fa_cons (fd_var 1) fa_nil)) fa_nil)) (fg_nm (i := 2) sc_law_is_ring.nd rfl (.inl rfl)) (fs_cons (fs_set (i := 3) sc_law_is_ring.nd rfl (.inr rfl) (e_ix (fd_var 1) (fd_sub (fd_var 2) fd_int))) (fs_cons (fs_set (i := 4) sc_law_is_ring.nd rfl (.inr rfl) (e_ix (fd_var 1) (fd_var 2))) (fs_cons (fs_setLc (i := 5) rfl sc_law_is_ring.nd rfl rfl (by rfl) (fi_rng1 (by rfl) B.range (fa_cons (e_len B (fa_cons (fd_var 0) fa_nil)) fa_nil)) (own := [("taker", 6)]) (blkOk_by (by rfl)) (fun _ _ _ _ _ => (fg_nm (i := 6) sc_law_is_ring.nd rfl (.inl rfl))) (fun _ _ _ _ _ => (ft_one (t_ne hr (e_ix (fd_var 3) (fd_var 6)) (e_ix (fd_var 4) (fd_var 6))))) (fun _ _ _ _ _ => (fd_var 6))) (fs_cons (fs_if (t_ne hr (e_len B (fa_cons (fd_var 5) fa_nil)) fd_int) (fs_one (fs_ret fd_bl)) fs_nil) (fs_one (fs_if (t_ge (e_call D_law_pay (fun σ => lets_of (L2N.takes_of rfl rfl rfl rfl) σ) hr (fa_cons (fd_var 0) (fa_cons (fd_var 4) (fa_cons (e_ix (fd_var 5) fd_int) fa_nil)))) (e_call D_law_pay (fun σ => lets_of (L2N.takes_of rfl rfl rfl rfl) σ) hr (fa_cons (fd_var 0) (fa_cons (fd_var 3) (fa_cons (e_ix (fd_var 5) fd_int) fa_nil))))) (fs_one (fs_ret fd_bl)) fs_nil))))))) (fs_one (fs_ret fd_bl)))), hg, F.kp, hb⟩
abbrev s_law_are_two : Stmt := topS 62
theorem sc_law_are_two : FnScope ["value"] ["value"] (defScope s_law_are_two) := ⟨rfl, rfl, rfl, by decide +kernel, rfl, by decide +kernel, by decide +kernel⟩
theorem ok_law_are_two {a : Addr} {fd : FuncData} (F : Fun K "_law_are_two" "_law_are_two" s_law_are_two a fd) (hg : mg "_law_are_two" = some (.ref a)) (hb : Binds K fd ["value"] []) (B : Bi mg) : FnD P w K mg base Tb "_law_are_two" 1 m_law_are_two := ⟨a, fd, ["value"], fn_okD F sc_law_are_two fun cdv A outer s H E hr => 
  (fs_one (fs_ret (fd_and (e_isTuple B (fd_var 0)) (fd_one (e_eq hr (e_len B (fa_cons (fd_var 0) fa_nil)) fd_int))))), hg, F.kp, hb⟩
abbrev s_law_is_integer : Stmt := topS 32
theorem sc_law_is_integer : FnScope ["value"] ["value"] (defScope s_law_is_integer) := ⟨rfl, rfl, rfl, by decide +kernel, rfl, by decide +kernel, by decide +kernel⟩
theorem ok_law_is_integer {a : Addr} {fd : FuncData} (F : Fun K "_law_is_integer" "_law_is_integer" s_law_is_integer a fd) (hg : mg "_law_is_integer" = some (.ref a)) (hb : Binds K fd ["value"] []) (B : Bi mg) : FnD P w K mg base Tb "_law_is_integer" 1 m_law_is_integer := ⟨a, fd, ["value"], fn_okD F sc_law_is_integer fun cdv A outer s H E hr => 
  (fs_one (fs_ret (fd_and (e_isInt B (fd_var 0)) (fd_one (fd_not (e_isBool B (fd_var 0))))))), hg, F.kp, hb⟩
abbrev s_law_is_set : Stmt := topS 33
theorem sc_law_is_set : FnScope ["value", "size", "k"] ["value", "size"] (defScope s_law_is_set) := ⟨rfl, rfl, rfl, by decide +kernel, rfl, by decide +kernel, by decide +kernel⟩
theorem ok_law_is_set {a : Addr} {fd : FuncData} (F : Fun K "_law_is_set" "_law_is_set" s_law_is_set a fd) (D_law_is_integer : FnD P w K mg base Tb "_law_is_integer" 1 m_law_is_integer) (hg : mg "_law_is_set" = some (.ref a)) (hb : Binds K fd ["value", "size"] []) (B : Bi mg) : FnD P w K mg base Tb "_law_is_set" 2 m_law_is_set := ⟨a, fd, ["value", "size"], fn_okD F sc_law_is_set fun cdv A outer s H E hr => 
  (fs_cons (fs_if (ft_not (ft_val (e_isTuple B (fd_var 0)))) (fs_one (fs_ret fd_bl)) fs_nil) (fs_cons (fs_for (passes_of rfl) rfl (fi_rng1 (by rfl) B.range (fa_cons (e_len B (fa_cons (fd_var 0) fa_nil)) fa_nil)) (fg_nm (i := 2) sc_law_is_set.nd rfl (.inl rfl)) (fs_cons (fs_if (PW.pt (fw_or (ft_not (ft_val (e_call D_law_is_integer (fun σ => lets_of (L2N.takes_of rfl rfl rfl rfl) σ) hr (fa_cons (e_ix (fd_var 0) (fd_var 2)) fa_nil)))) (fw_or (t_lt (e_ix (fd_var 0) (fd_var 2)) fd_int) (fw_or1 (t_ge (e_ix (fd_var 0) (fd_var 2)) (fd_var 1)))))) (fs_one (fs_ret fd_bl)) fs_nil) (fs_one (fs_if (PW.pt (fw_and (t_gt (fd_var 2) fd_int) (fw_and1 (t_le (e_ix (fd_var 0) (fd_var 2)) (e_ix (fd_var 0) (fd_sub (fd_var 2) fd_int)))))) (fs_one (fs_ret fd_bl)) fs_nil)))) (fs_one (fs_ret fd_bl)))), hg, F.kp, hb⟩
abbrev s_law_are_lots : Stmt := topS 34
theorem sc_law_are_lots : FnScope ["told", "game", "k"] ["told", "game"] (defScope s_law_are_lots) := ⟨rfl, rfl, rfl, by decide +kernel, rfl, by decide +kernel, by decide +kernel⟩
theorem ok_law_are_lots {a : Addr} {fd : FuncData} (F : Fun K "_law_are_lots" "_law_are_lots" s_law_are_lots a fd) (D_law_is_set : FnD P w K mg base Tb "_law_is_set" 2 m_law_is_set) (hg : mg "_law_are_lots" = some (.ref a)) (hb : Binds K fd ["told", "game"] []) (B : Bi mg) : FnD P w K mg base Tb "_law_are_lots" 3 m_law_are_lots := ⟨a, fd, ["told", "game"], fn_okD F sc_law_are_lots fun cdv A outer s H E hr => 
  (fs_cons (fs_if (PW.pt (fw_or (ft_not (ft_val (e_isTuple B (fd_var 0)))) (fw_or1 (t_ne hr (e_len B (fa_cons (fd_var 0) fa_nil)) (e_len B (fa_cons (fd_var 1) fa_nil)))))) (fs_one (fs_ret fd_bl)) fs_nil) (fs_cons (fs_for (passes_of rfl) rfl (fi_rng1 (by rfl) B.range (fa_cons (e_len B (fa_cons (fd_var 1) fa_nil)) fa_nil)) (fg_nm (i := 2) sc_law_are_lots.nd rfl (.inl rfl)) (fs_one (fs_if (PW.pt (fw_or (ft_not (ft_val (e_call D_law_is_set (fun σ => lets_of (L2N.takes_of rfl rfl rfl rfl) σ) hr (fa_cons (e_ix (fd_var 0) (fd_var 2)) (fa_cons (e_ix (e_ix (e_ix (fd_var 1) (fd_var 2)) fd_int) fd_int) fa_nil))))) (fw_or1 (t_notin hr (e_ix (fd_var 0) (fd_var 2)) (e_ix (e_ix (e_ix (fd_var 1) (fd_var 2)) fd_int) fd_int))))) (fs_one (fs_ret fd_bl)) fs_nil))) (fs_one (fs_ret fd_bl)))), hg, F.kp, hb⟩
abbrev s_law_exchanged : Stmt := topS 38
theorem sc_law_exchanged : FnScope ["lot", "out", "put", "thing"] ["lot", "out", "put"] (defScope s_law_exchanged) := ⟨rfl, rfl, rfl, by decide +kernel, rfl, by decide +kernel, by decide +kernel⟩
theorem ok_law_exchanged {a : Addr} {fd : FuncData} (F : Fun K "_law_exchanged" "_law_exchanged" s_law_exchanged a fd) (hg : mg "_law_exchanged" = some (.ref a)) (hb : Binds K fd ["lot", "out", "put"] []) (B : Bi mg) : FnD P w K mg base Tb "_law_exchanged" 1 m_law_exchanged := ⟨a, fd, ["lot", "out", "put"], fn_okD F sc_law_exchanged fun cdv A outer s H E hr => 
  (fs_one (fs_ret (e_tuple B (fa_cons (e_sorted B hr (fa_cons (fd_add (fd_lc rfl sc_law_exchanged.nd (fi_seq (fd_var 0)) (own := [("thing", 3)]) (blkOk_by (by rfl)) (fun _ _ _ _ _ => (fg_nm (i := 3) sc_law_exchanged.nd rfl (.inl rfl))) (fun _ _ _ _ _ => (ft_one (t_ne hr (fd_var 3) (fd_var 1)))) (fun _ _ _ _ _ => (fd_var 3))) (fd_lst (fa_cons (fd_var 2) fa_nil))) fa_nil)) fa_nil)))), hg, F.kp, hb⟩
abbrev s_law_fault : Stmt := topS 39
theorem sc_law_fault : FnScope ["lots", "lot", "thing", "other", "puts", "put"] ["lots"] (defScope s_law_fault) := ⟨rfl, rfl, rfl, by decide +kernel, rfl, by decide +kernel, by decide +kernel⟩
theorem ok_law_fault {a : Addr} {fd : FuncData} (F : Fun K "_law_fault" "_law_fault" s_law_fault a fd) (D_law_exchanged : FnD P w K mg base Tb "_law_exchanged" 1 m_law_exchanged) (hg : mg "_law_fault" = some (.ref a)) (hb : Binds K fd ["lots"] []) (B : Bi mg) : FnD P w K mg base Tb "_law_fault" 2 m_law_fault := ⟨a, fd, ["lots"], fn_okD F sc_law_fault fun cdv A outer s H E hr => 
  (fs_cons (fs_for (passes_of rfl) rfl (fi_seq (fd_var 0)) (fg_nm (i := 1) sc_law_fault.nd rfl (.inr rfl)) (fs_one (fs_for (passes_of rfl) rfl (fi_seq (fd_var 1)) (fg_nm (i := 2) sc_law_fault.nd rfl (.inr rfl)) (fs_one (fs_for (passes_of rfl) rfl (fi_seq (fd_var 0)) (fg_nm (i := 3) sc_law_fault.nd rfl (.inl rfl)) (fs_one (fs_if (t_notin hr (fd_var 2) (fd_var 3)) (fs_cons (fs_setLc (i := 4) rfl sc_law_fault.nd rfl rfl (by rfl) (fi_seq (fd_var 3)) (own := [("put", 5)]) (blkOk_by (by rfl)) (fun _ _ _ _ _ => (fg_nm (i := 5) sc_law_fault.nd rfl (.inl rfl))) (fun _ _ _ _ _ => (ft_one (t_notin hr (fd_var 5) (fd_var 1)))) (fun _ _ _ _ _ => (fd_var 5))) (fs_one (fs_if (ft_not (ft_val (e_any B (fa_cons (fd_lc rfl sc_law_fault.nd (fi_seq (fd_var 4)) (own := [("put", 5)]) (blkOk_by (by rfl)) (fun _ _ _ _ _ => (fg_nm (i := 5) sc_law_fault.nd rfl (.inl rfl))) (fun _ _ _ _ _ => ft_yes) (fun _ _ _ _ _ => (e_in hr (e_call D_law_exchanged (fun σ => lets0 σ) hr (fa_cons (fd_var 1) (fa_cons (fd_var 2) (fa_cons (fd_var 5) fa_nil)))) (fd_var 0)))) fa_nil)))) (fs_one (fs_ret (fd_tup (fa_cons (fd_var 1) (fa_cons (fd_var 2) (fa_cons (fd_var 3) fa_nil)))))) fs_nil))) fs_nil))))))) (fs_one (fs_ret fd_non))), hg, F.kp, hb⟩
abbrev s_law_is_row : Stmt := topS 61
theorem sc_law_is_row : FnScope ["row", "least", "k"] ["row", "least"] (defScope s_law_is_row) := ⟨rfl, rfl, rfl, by decide +kernel, rfl, by decide +kernel, by decide +kernel⟩
theorem ok_law_is_row {a : Addr} {fd : FuncData} (F : Fun K "_law_is_row" "_law_is_row" s_law_is_row a fd) (D_law_is_integer : FnD P w K mg base Tb "_law_is_integer" 1 m_law_is_integer) (hg : mg "_law_is_row" = some (.ref a)) (hb : Binds K fd ["row", "least"] []) (B : Bi mg) : FnD P w K mg base Tb "_law_is_row" 2 m_law_is_row := ⟨a, fd, ["row", "least"], fn_okD F sc_law_is_row fun cdv A outer s H E hr => 
  (fs_cons (fs_if (PW.pt (fw_or (ft_not (ft_val (e_isTuple B (fd_var 0)))) (fw_or1 (t_lt (e_len B (fa_cons (fd_var 0) fa_nil)) (fd_var 1))))) (fs_one (fs_ret fd_bl)) fs_nil) (fs_cons (fs_for (passes_of rfl) rfl (fi_rng1 (by rfl) B.range (fa_cons (e_len B (fa_cons (fd_var 0) fa_nil)) fa_nil)) (fg_nm (i := 2) sc_law_is_row.nd rfl (.inl rfl)) (fs_one (fs_if (PW.pt (fw_or (ft_not (ft_val (e_call D_law_is_integer (fun σ => lets_of (L2N.takes_of rfl rfl rfl rfl) σ) hr (fa_cons (e_ix (fd_var 0) (fd_var 2)) fa_nil)))) (fw_or1 (PW.pt (fw_and (t_gt (fd_var 2) fd_int) (fw_and1 (t_lt (e_ix (fd_var 0) (fd_var 2)) (e_ix (fd_var 0) (fd_sub (fd_var 2) fd_int))))))))) (fs_one (fs_ret fd_bl)) fs_nil))) (fs_one (fs_ret fd_bl)))), hg, F.kp, hb⟩
abbrev s_law_is_smooth_taker : Stmt := topS 63
theorem sc_law_is_smooth_taker : FnScope ["taker", "size", "count", "lots", "costs", "lot", "row"] ["taker", "size", "count"] (defScope s_law_is_smooth_taker) := ⟨rfl, rfl, rfl, by decide +kernel, rfl, by decide +kernel, by decide +kernel⟩
theorem ok_law_is_smooth_taker {a : Addr} {fd : FuncData} (F : Fun K "_law_is_smooth_taker" "_law_is_smooth_taker" s_law_is_smooth_taker a fd) (D_law_are_two : FnD P w K mg base Tb "_law_are_two" 1 m_law_are_two) (D_law_is_integer : FnD P w K mg base Tb "_law_is_integer" 1 m_law_is_integer) (D_law_antichain : FnD P w K mg base Tb "_law_antichain" 2 m_law_antichain) (D_law_fault : FnD P w K mg base Tb "_law_fault" 2 m_law_fault) (D_law_is_set : FnD P w K mg base Tb "_law_is_set" 2 m_law_is_set) (D_law_is_row : FnD P w K mg base Tb "_law_is_row" 2 m_law_is_row) (hg : mg "_law_is_smooth_taker" = some (.ref a)) (hb : Binds K fd ["taker", "size", "count"] []) (B : Bi mg) : FnD P w K mg base Tb "_law_is_smooth_taker" 3 m_law_is_smooth_taker := ⟨a, fd, ["taker", "size", "count"], fn_okD F sc_law_is_smooth_taker fun cdv A outer s H E hr => 
  (fs_cons (fs_if (PW.pt (fw_or (ft_not (ft_val (e_call D_law_are_two (fun σ => lets_of (L2N.takes_of rfl rfl rfl rfl) σ) hr (fa_cons (fd_var 0) fa_nil)))) (fw_or1 (ft_not (ft_val (e_call D_law_are_two (fun σ => lets_of (L2N.takes_of rfl rfl rfl rfl) σ) hr (fa_cons (e_ix (fd_var 0) fd_int) fa_nil))))))) (fs_one (fs_ret fd_bl)) fs_nil) (fs_cons (fs_set (i := 3) sc_law_is_smooth_taker.nd rfl (.inl rfl) (e_ix (e_ix (fd_var 0) fd_int) fd_int)) (fs_cons (fs_set (i := 4) sc_law_is_smooth_taker.nd rfl (.inr rfl) (e_ix (fd_var 0) fd_int)) (fs_cons (fs_if (PW.pt (fw_or (ft_not (ft_val (e_call D_law_is_integer (fun σ => lets_of (L2N.takes_of rfl rfl rfl rfl) σ) hr (fa_cons (e_ix (e_ix (fd_var 0) fd_int) fd_int) fa_nil)))) (fw_or (t_ne hr (e_ix (e_ix (fd_var 0) fd_int) fd_int) (fd_var 1)) (fw_or (ft_not (ft_val (e_isTuple B (fd_var 3)))) (fw_or1 (t_eq hr (e_len B (fa_cons (fd_var 3) fa_nil)) fd_int)))))) (fs_one (fs_ret fd_bl)) fs_nil) (fs_cons (fs_if (PW.pt (fw_or (ft_not (ft_val (e_all B (fa_cons (fd_lc rfl sc_law_is_smooth_taker.nd (fi_seq (fd_var 3)) (own := [("lot", 5)]) (blkOk_by (by rfl)) (fun _ _ _ _ _ => (fg_nm (i := 5) sc_law_is_smooth_taker.nd rfl (.inl rfl))) (fun _ _ _ _ _ => ft_yes) (fun _ _ _ _ _ => (e_call D_law_is_set (fun σ => lets0 σ) hr (fa_cons (fd_var 5) (fa_cons (fd_var 1) fa_nil))))) fa_nil)))) (fw_or1 (t_ne hr (e_call D_law_antichain (fun σ => lets_of (L2N.takes_of rfl rfl rfl rfl) σ) hr (fa_cons (fd_var 3) fa_nil)) (fd_var 3))))) (fs_one (fs_ret fd_bl)) fs_nil) (fs_cons (fs_if (PW.pt (fw_or (ft_not (ft_val (e_isTuple B (fd_var 4)))) (fw_or (t_ne hr (e_len B (fa_cons (fd_var 4) fa_nil)) (fd_var 1)) (fw_or1 (ft_not (ft_val (e_all B (fa_cons (fd_lc rfl sc_law_is_smooth_taker.nd (fi_seq (fd_var 4)) (own := [("row", 6)]) (blkOk_by (by rfl)) (fun _ _ _ _ _ => (fg_nm (i := 6) sc_law_is_smooth_taker.nd rfl (.inl rfl))) (fun _ _ _ _ _ => ft_yes) (fun _ _ _ _ _ => (e_call D_law_is_row (fun σ => lets0 σ) hr (fa_cons (fd_var 6) (fa_cons (fd_var 2) fa_nil))))) fa_nil)))))))) (fs_one (fs_ret fd_bl)) fs_nil) (fs_one (fs_ret (fd_and (e_all B (fa_cons (fd_lc rfl sc_law_is_smooth_taker.nd (fi_seq (fd_var 4)) (own := [("row", 6)]) (blkOk_by (by rfl)) (fun _ _ _ _ _ => (fg_nm (i := 6) sc_law_is_smooth_taker.nd rfl (.inl rfl))) (fun _ _ _ _ _ => ft_yes) (fun _ _ _ _ _ => (e_eq hr (e_len B (fa_cons (fd_var 6) fa_nil)) (e_len B (fa_cons (e_ix (fd_var 4) fd_int) fa_nil))))) fa_nil)) (fd_one (fd_isN (e_call D_law_fault (fun σ => lets_of (L2N.takes_of rfl rfl rfl rfl) σ) hr (fa_cons (fd_var 3) fa_nil))))))))))))), hg, F.kp, hb⟩
abbrev s_law_is_round : Stmt := topS 64
theorem sc_law_is_round : FnScope ["told", "game", "size", "taker", "choice"] ["told"] (defScope s_law_is_round) := ⟨rfl, rfl, rfl, by decide +kernel, rfl, by decide +kernel, by decide +kernel⟩
theorem ok_law_is_round {a : Addr} {fd : FuncData} (F : Fun K "_law_is_round" "_law_is_round" s_law_is_round a fd) (D_law_is_ring : FnD P w K mg base Tb "_law_is_ring" 3 m_law_is_ring) (D_law_are_two : FnD P w K mg base Tb "_law_are_two" 1 m_law_are_two) (D_law_is_integer : FnD P w K mg base Tb "_law_is_integer" 1 m_law_is_integer) (D_law_are_lots : FnD P w K mg base Tb "_law_are_lots" 3 m_law_are_lots) (D_law_is_smooth_taker : FnD P w K mg base Tb "_law_is_smooth_taker" 3 m_law_is_smooth_taker) (hg : mg "_law_is_round" = some (.ref a)) (hb : Binds K fd ["told"] []) (B : Bi mg) : FnD P w K mg base Tb "_law_is_round" 4 m_law_is_round := ⟨a, fd, ["told"], fn_okD F sc_law_is_round fun cdv A outer s H E hr => 
  (fs_cons (fs_if (PW.pt (fw_or (ft_not (ft_val (e_call D_law_are_two (fun σ => lets_of (L2N.takes_of rfl rfl rfl rfl) σ) hr (fa_cons (fd_var 0) fa_nil)))) (fw_or (ft_not (ft_val (e_isTuple B (e_ix (fd_var 0) fd_int)))) (fw_or1 (ft_not (ft_val (e_isTuple B (e_ix (fd_var 0) fd_int)))))))) (fs_one (fs_ret fd_bl)) fs_nil) (fs_cons (fs_set (i := 1) sc_law_is_round.nd rfl (.inr rfl) (e_ix (fd_var 0) fd_int)) (fs_cons (fs_if (PW.pt (fw_or (t_lt (e_len B (fa_cons (fd_var 1) fa_nil)) fd_int) (fw_or (t_gt (e_len B (fa_cons (fd_var 1) fa_nil)) fd_int) (fw_or (t_lt (e_len B (fa_cons (e_ix (fd_var 0) fd_int) fa_nil)) fd_int) (fw_or1 (t_gt (e_len B (fa_cons (e_ix (fd_var 0) fd_int) fa_nil)) fd_int)))))) (fs_one (fs_ret fd_bl)) fs_nil) (fs_cons (fs_if (PW.pt (fw_or (ft_not (ft_val (e_call D_law_are_two (fun σ => lets_of (L2N.takes_of rfl rfl rfl rfl) σ) hr (fa_cons (e_ix (fd_var 1) fd_int) fa_nil)))) (fw_or (ft_not (ft_val (e_call D_law_are_two (fun σ => lets_of (L2N.takes_of rfl rfl rfl rfl) σ) hr (fa_cons (e_ix (e_ix (fd_var 1) fd_int) fd_int) fa_nil)))) (fw_or1 (ft_not (ft_val (e_call D_law_is_integer (fun σ => lets_of (L2N.takes_of rfl rfl rfl rfl) σ) hr (fa_cons (e_ix (e_ix (e_ix (fd_var 1) fd_int) fd_int) fd_int) fa_nil)))))))) (fs_one (fs_ret fd_bl)) fs_nil) (fs_cons (fs_set (i := 2) sc_law_is_round.nd rfl (.inr rfl) (e_ix (e_ix (e_ix (fd_var 1) fd_int) fd_int) fd_int)) (fs_cons (fs_if (PW.pt (fw_or (t_lt (fd_var 2) fd_int) (fw_or (t_gt (fd_var 2) fd_int) (fw_or1 (ft_not (ft_val (e_all B (fa_cons (fd_lc rfl sc_law_is_round.nd (fi_seq (fd_var 1)) (own := [("taker", 3)]) (blkOk_by (by rfl)) (fun _ _ _ _ _ => (fg_nm (i := 3) sc_law_is_round.nd rfl (.inl rfl))) (fun _ _ _ _ _ => ft_yes) (fun _ _ _ _ _ => (e_call D_law_is_smooth_taker (fun σ => lets0 σ) hr (fa_cons (fd_var 3) (fa_cons (fd_var 2) (fa_cons (e_len B (fa_cons (fd_var 1) fa_nil)) fa_nil)))))) fa_nil)))))))) (fs_one (fs_ret fd_bl)) fs_nil) (fs_one (fs_ret (fd_and (e_all B (fa_cons (fd_lc rfl sc_law_is_round.nd (fi_seq (e_ix (fd_var 0) fd_int)) (own := [("choice", 4)]) (blkOk_by (by rfl)) (fun _ _ _ _ _ => (fg_nm (i := 4) sc_law_is_round.nd rfl (.inl rfl))) (fun _ _ _ _ _ => ft_yes) (fun _ _ _ _ _ => (e_call D_law_are_lots (fun σ => lets0 σ) hr (fa_cons (fd_var 4) (fa_cons (fd_var 1) fa_nil))))) fa_nil)) (fd_one (e_call D_law_is_ring (fun σ => lets_of (L2N.takes_of rfl rfl rfl rfl) σ) hr (fa_cons (fd_var 1) (fa_cons (e_ix (fd_var 0) fd_int) fa_nil))))))))))))), hg, F.kp, hb⟩
abbrev s_law_walk : Stmt := topS 59
theorem sc_law_walk : FnScope ["cell", "game", "draws", "choice", "ring", "k", "taker", "lots"] ["cell", "game"] (defScope s_law_walk) := ⟨rfl, rfl, rfl, by decide +kernel, rfl, by decide +kernel, by decide +kernel⟩
theorem ok_law_walk {a : Addr} {fd : FuncData} (F : Fun K "_law_walk" "_law_walk" s_law_walk a fd) (D_law_draws : FnD P w K mg base Tb "_law_draws" 1 m_law_draws) (D_law_choice : FnD P w K mg base Tb "_law_choice" 2 m_law_choice) (D_law_with : FnD P w K mg base Tb "_law_with" 1 m_law_with) (hg : mg "_law_walk" = some (.ref a)) (hb : Binds K fd ["cell", "game"] []) (B : Bi mg) : FnD P w K mg base Tb "_law_walk" 3 m_law_walk := ⟨a, fd, ["cell", "game"], fn_okD F sc_law_walk fun cdv A outer s H E hr => 
  (fs_cons (fs_set (i := 2) sc_law_walk.nd rfl (.inl rfl) (e_call D_law_draws (fun σ => lets_of (L2N.takes_of rfl rfl rfl rfl) σ) hr (fa_cons (fd_var 0) (fa_cons fd_int fa_nil)))) (fs_cons (fs_set (i := 3) sc_law_walk.nd rfl (.inl rfl) (e_call D_law_choice (fun σ => lets_of (L2N.takes_of rfl rfl rfl rfl) σ) hr (fa_cons (e_ix (fd_var 2) fd_int) (fa_cons (fd_var 1) fa_nil)))) (fs_cons (fs_own (i := 4) sc_law_walk.nd rfl (.inl rfl) (fn_lst fa_nil)) (fs_cons (fs_for (passes_of rfl) rfl (fi_rng1 (by rfl) B.range (fa_cons (fd_mod (e_int B (fa_cons (e_ix (fd_var 2) fd_int) fa_nil)) fd_int) fa_nil)) (fg_nm (i := 5) sc_law_walk.nd rfl (.inl rfl)) (fs_cons (fs_app (i := 4) rfl (.inl rfl) (by decide) (by decide) (fd_var 3) rfl rfl rfl rfl rfl rfl) (fs_one (fs_if (t_gt (e_len B (fa_cons (fd_var 1) fa_nil)) fd_int) (fs_cons (fs_set (i := 6) sc_law_walk.nd rfl (.inl rfl) (fd_mod (e_int B (fa_cons (e_ix (fd_var 2) (fd_add fd_int (fd_mul fd_int (fd_var 5)))) fa_nil)) (e_len B (fa_cons (fd_var 1) fa_nil)))) (fs_cons (fs_set (i := 7) sc_law_walk.nd rfl (.inl rfl) (e_ix (e_ix (e_ix (fd_var 1) (fd_var 6)) fd_int) fd_int)) (fs_one (fs_set (i := 3) sc_law_walk.nd rfl (.inl rfl) (e_call D_law_with (fun σ => lets_of (L2N.takes_of rfl rfl rfl rfl) σ) hr (fa_cons (fd_var 3) (fa_cons (fd_var 6) (fa_cons (e_ix (fd_var 7) (fd_mod (e_int B (fa_cons (e_ix (fd_var 2) (fd_add fd_int (fd_mul fd_int (fd_var 5)))) fa_nil)) (e_len B (fa_cons (fd_var 7) fa_nil)))) fa_nil)))))))) fs_nil)))) (fs_frz 4 (fs_one (fs_ret (fd_var 4)))))))), hg, F.kp, hb⟩
abbrev s_law : Stmt := topS 65
theorem sc_law : FnScope ["script", "draws", "built", "game", "asked", "told"] ["script"] (defScope s_law) := ⟨rfl, rfl, rfl, by decide +kernel, rfl, by decide +kernel, by decide +kernel⟩
theorem okF_law {a : Addr} {fd : FuncData} (F : Fun K "law" "law" s_law a fd) (D_law_draws : FnD P w K mg base Tb "_law_draws" 1 m_law_draws) (D_law_changed : FnD P w K mg base Tb "_law_changed" 3 m_law_changed_k85) (D_is_ring : FnD P w K mg base Tb "is_ring" 7 m_is_ring) (D_round_game : FnD P w K mg base Tb "round_game" 3 m_round_game) (D_law_cell : FnD P w K mg base Tb "_law_cell" 1 m_law_cell) (D_law_own_round : FnD P w K mg base Tb "_law_own_round" 3 m_law_own_round) (D_law_game : FnD P w K mg base Tb "_law_game" 5 m_law_game_k86) (D_law_is_round : FnD P w K mg base Tb "_law_is_round" 4 m_law_is_round) (D_law_walk : FnD P w K mg base Tb "_law_walk" 3 m_law_walk) (D_law_is_ring : FnD P w K mg base Tb "_law_is_ring" 3 m_law_is_ring) (B : Bi mg) : FnOk P w K mg base (L2N.CX P w) 8 a fd ["script"] (spD K Tb m_law_k85) := fn_okD F sc_law fun cdv A outer s H E hr => 
  (fs_cons (fs_set (i := 1) sc_law.nd rfl (.inl rfl) (e_call D_law_draws (fun σ => lets_of (L2N.takes_of rfl rfl rfl rfl) σ) hr (fa_cons (e_call D_law_cell (fun σ => lets_of (L2N.takes_of rfl rfl rfl rfl) σ) hr (fa_cons (fd_var 0) (fa_cons fd_int fa_nil))) (fa_cons fd_int fa_nil)))) (fs_cons (fs_if (t_eq hr (fd_mod (e_int B (fa_cons (e_ix (fd_var 1) fd_int) fa_nil)) fd_int) fd_int) (fs_one (fs_set (i := 2) sc_law.nd rfl (.inl rfl) (e_call D_law_own_round (fun σ => lets_of (L2N.takes_of rfl rfl rfl rfl) σ) hr (fa_cons (fd_var 1) fa_nil)))) (fs_cons (fs_set (i := 3) sc_law.nd rfl (.inl rfl) (e_call D_law_game (fun σ => lets_of (L2N.takes_of rfl rfl rfl rfl) σ) hr (fa_cons (fd_var 0) (fa_cons fd_int (fa_cons fd_bl fa_nil))))) (fs_one (fs_set (i := 2) sc_law.nd rfl (.inl rfl) (fd_tup (fa_cons (fd_var 3) (fa_cons (e_call D_law_walk (fun σ => lets_of (L2N.takes_of rfl rfl rfl rfl) σ) hr (fa_cons (e_call D_law_cell (fun σ => lets_of (L2N.takes_of rfl rfl rfl rfl) σ) hr (fa_cons (fd_var 0) (fa_cons fd_int fa_nil))) (fa_cons (fd_var 3) fa_nil))) fa_nil))))))) (fs_cons (fs_set (i := 4) sc_law.nd rfl (.inl rfl) (e_call D_law_changed (fun σ => lets_of (L2N.takes_of rfl rfl rfl rfl) σ) hr (fa_cons (e_ix (fd_var 2) fd_int) (fa_cons (e_ix (fd_var 2) fd_int) (fa_cons (e_call D_law_draws (fun σ => lets_of (L2N.takes_of rfl rfl rfl rfl) σ) hr (fa_cons (e_call D_law_cell (fun σ => lets_of (L2N.takes_of rfl rfl rfl rfl) σ) hr (fa_cons (fd_var 0) (fa_cons fd_int fa_nil))) (fa_cons fd_int fa_nil))) fa_nil))))) (fs_cons (fs_set (i := 5) sc_law.nd rfl (.inl rfl) (e_call D_is_ring (fun σ => lets_of (L2N.takes_of rfl rfl rfl rfl) σ) hr (fa_cons (e_ix (fd_var 4) fd_int) (fa_cons (e_ix (fd_var 4) fd_int) fa_nil)))) (fs_cons (fs_if (PW.pt (fw_or (ft_not (ft_val (e_isBool B (fd_var 5)))) (fw_or1 (t_ne hr (fd_var 5) (e_call D_law_is_ring (fun σ => lets_of (L2N.takes_of rfl rfl rfl rfl) σ) hr (fa_cons (e_ix (fd_var 4) fd_int) (fa_cons (e_ix (fd_var 4) fd_int) fa_nil))))))) (fs_one (fs_ret fd_bl)) fs_nil) (fs_cons (fs_set (i := 5) sc_law.nd rfl (.inl rfl) (e_call0 D_round_game (fun σ => lets_of (L2N.takes_of rfl rfl rfl rfl) σ) hr)) (fs_one (fs_ret (fd_and (e_call D_law_is_round (fun σ => lets_of (L2N.takes_of rfl rfl rfl rfl) σ) hr (fa_cons (fd_var 5) fa_nil)) (fd_one (e_isB (e_call D_is_ring (fun σ => lets_of (L2N.takes_of rfl rfl rfl rfl) σ) hr (fa_cons (e_ix (fd_var 5) fd_int) (fa_cons (e_ix (fd_var 5) fd_int) fa_nil))) fd_bl)))))))))))
end
end LW
set_option Elab.async false
set_option maxRecDepth 100000
set_option linter.all false
set_option maxHeartbeats 2000000
namespace LW
open PySem PySem.Spec PyProof.Rows L2 PD
theorem v_within (a b : List Int) : m_law_within [tu a, tu b] = .ok (.bool (a.all fun x => decide (x ∈ b))) := by
  show endR (g_law_within [some (.d (tu a)), some (.d (tu b)), none]) = _
  simp [g_law_within]
theorem v_cell (ns : List Int) (k : Int) (h : 0 ≤ k) : ∃ c : Int, m_law_cell [li ns, .int k] = .ok (.int c) := by
  show ∃ c : Int, endR (g_law_cell [some (.d (li ns)), some (.d (.int k))]) = _
  by_cases hk : k < (ns.length : Int)
  · have hl : k.toNat < ns.length := by omega
    refine ⟨ns[k.toNat], ?_⟩
    simp [g_law_cell, hk, oIx_li h (List.getElem?_eq_getElem hl)]
  · refine ⟨5 * k + 3, ?_⟩
    simp [g_law_cell, hk, oMul_l]
theorem v_draws (c n : Int) (h0 : 0 ≤ n) (h1 : n ≤ 1000) : ∃ L : List Int, m_law_draws [.int c, .int n] = .ok (li L) ∧ L.length = n.toNat ∧ ∀ x ∈ L, 0 ≤ x ∧ x < 5040 := by
  show ∃ L : List Int, endR (g_law_draws [some (.d (.int c)), some (.d (.int n)), none, none, none, none, none, none]) = _ ∧ _
  have key := forGo_inv (i := 6) (g := b_law_draws_1) (enc := PyData.int) (fun xs ρ => ∃ (rest seed : Int) (dg : Bool) (L : List Int) (o6 o7 : Option Sl),
    ρ = [some (.d (.int c)), some (.d (.int n)), some (.d (.int rest)), some (.d (.bool dg)), some (.d (.int seed)), some (.own (L.map .int)), o6, o7] ∧ L.length + xs.length = n.toNat ∧ ∀ x ∈ L, 0 ≤ x ∧ x < 5040) (by
    rintro k xs ρ ⟨rest, seed, dg, L, o6, o7, rfl, hl, hL⟩
    have hl' : L.length + (xs.length + 1) = n.toNat := by simpa using hl
    have hs : L.length < sizeLine := line_lt (by omega)
    have app : ∀ y : Int, 0 ≤ y → y < 5040 → ∀ x ∈ L ++ [y], 0 ≤ x ∧ x < 5040 := fun y a b x hx => by
      rcases List.mem_append.mp hx with hx | hx
      · exact hL x hx
      · rw [List.mem_singleton.mp hx]; exact ⟨a, b⟩
    by_cases hb : dg = true ∧ 0 < rest
    · obtain ⟨rfl, hr⟩ := hb
      refine ⟨[some (.d (.int c)), some (.d (.int n)), some (.d (.int (rest.fdiv 5040))), some (.d (.bool true)), some (.d (.int seed)), some (.own ((L ++ [rest.fmod 5040]).map .int)), some (.d (.int k)), o7], ?_, rest.fdiv 5040, seed, true, L ++ [rest.fmod 5040], _, _, rfl, by simp; omega, app _ (fmod_lo _ (by decide)) (fmod_hi _ (by decide))⟩
      simp [b_law_draws_1, hr, oMod_int, oDiv_lit, hs]
    · have hc : (if dg = true then decide (0 < rest) else false) = false := by
        cases dg <;> simp_all
      have m1 := fmod_lo (seed * 48271 + (k + 1) * 69621 + 11) (b := 2147483647) (by decide)
      have m2 := fmod_hi (seed * 48271 + (k + 1) * 69621 + 11) (b := 2147483647) (by decide)
      generalize hm : (seed * 48271 + (k + 1) * 69621 + 11).fmod 2147483647 = mx at m1 m2
      refine ⟨[some (.d (.int c)), some (.d (.int n)), some (.d (.int rest)), some (.d (.bool dg)), some (.d (.int seed)), some (.own ((L ++ [(((mx * mx + 40692 * (k + 3)).fmod 2147483399).fdiv 64).fmod 5040]).map .int)), some (.d (.int k)), some (.d (.int ((mx * mx + 40692 * (k + 3)).fmod 2147483399)))], ?_,
        rest, seed, dg, L ++ [(((mx * mx + 40692 * (k + 3)).fmod 2147483399).fdiv 64).fmod 5040], _, _, rfl, by simp; omega, app _ (fmod_lo _ (by decide)) (fmod_hi _ (by decide))⟩
      have e1 : oMul (.int mx) (.int mx) = .ok (.int (mx * mx)) := oMul_l (by omega) (by omega)
      simp [b_law_draws_1, hc, oMod_int, oDiv_lit, hs, oMul_r, oMul_l, hm, e1]
      exact fun a b => absurd ⟨a, b⟩ hb)
  obtain ⟨ρ', e, rest, seed, dg, L, o6, o7, rfl, hl, hL⟩ := key (rangeI 0 n) [some (.d (.int c)), some (.d (.int n)), some (.d (.int (if c < 0 then -c else c))), some (.d (.bool (decide (1000000000000000000 ≤ (if c < 0 then -c else c))))), some (.d (.int (if c < 0 then -c else c))), some (.own []), none, none]
    ⟨_, _, _, [], none, none, rfl, by rw [rangeI_len]; simp, by simp⟩
  refine ⟨L, ?_, by simpa using hl, hL⟩
  simp [g_law_draws, rngA1_ok (show n ≤ 100000 by omega) (show -1000 ≤ n by omega), e]
def Asc (n : Int) (l : List Int) : Prop := l.Pairwise (· < ·) ∧ ∀ x ∈ l, 0 ≤ x ∧ x < n
theorem asc_len' : ∀ (l : List Int) (lo n : Int), l.Pairwise (· < ·) → (∀ x ∈ l, lo ≤ x ∧ x < n) → l.length ≤ (n - lo).toNat
  | [], _, _, _, _ => Nat.zero_le _
  | x :: xs, lo, n, h, b => by
    obtain ⟨h1, h2⟩ := List.pairwise_cons.mp h
    obtain ⟨b1, b2⟩ := b x List.mem_cons_self
    have ih := asc_len' xs (x + 1) n h2 fun y hy => ⟨by have := h1 y hy; omega, (b y (List.mem_cons_of_mem _ hy)).2⟩
    rw [List.length_cons]; omega
theorem Asc.len {n : Int} {l : List Int} (h : Asc n l) : l.length ≤ n.toNat := by
  have := asc_len' l 0 n h.1 h.2
  rwa [Int.sub_zero] at this
theorem Asc.nil (n : Int) : Asc n [] := ⟨.nil, by simp⟩
theorem asc_succ {k : Int} (hk : 0 ≤ k) {r : List Int} : Asc (k + 1) r ↔ Asc k r ∨ ∃ r', Asc k r' ∧ r' ++ [k] = r := by
  constructor
  · intro ⟨h1, h2⟩
    rcases List.eq_nil_or_concat r with rfl | ⟨r', z, rfl⟩
    · exact .inl (Asc.nil _)
    · rw [List.concat_eq_append] at h1 h2 ⊢
      obtain ⟨p1, _, p3⟩ := List.pairwise_append.mp h1
      have hz := h2 z (by simp)
      have hr : ∀ x ∈ r', x < z := fun x hx => p3 x hx z (by simp)
      by_cases e : z = k
      · subst e
        exact .inr ⟨r', ⟨p1, fun x hx => ⟨(h2 x (by simp [hx])).1, hr x hx⟩⟩, rfl⟩
      · refine .inl ⟨h1, fun x hx => ⟨(h2 x hx).1, ?_⟩⟩
        rcases List.mem_append.mp hx with hx | hx
        · have := hr x hx; omega
        · rw [List.mem_singleton.mp hx]; omega
  · rintro (⟨h1, h2⟩ | ⟨r', ⟨h1, h2⟩, rfl⟩)
    · exact ⟨h1, fun x hx => ⟨(h2 x hx).1, by have := (h2 x hx).2; omega⟩⟩
    · refine ⟨List.pairwise_append.mpr ⟨h1, List.pairwise_singleton _ _, fun a ha b hb => ?_⟩, fun x hx => ?_⟩
      · rw [List.mem_singleton.mp hb]; exact (h2 a ha).2
      · rcases List.mem_append.mp hx with hx | hx
        · have := h2 x hx; omega
        · rw [List.mem_singleton.mp hx]; omega
theorem rangeI_cons {k n : Int} (h : k < n) : rangeI k n = k :: rangeI (k + 1) n := by
  unfold rangeI
  have e : (n - k).toNat = (n - (k + 1)).toNat + 1 := by omega
  rw [e, List.range_succ_eq_map, List.map_cons, List.map_map]
  congr 1
  · simp
  · refine List.map_congr_left fun i _ => ?_
    show k + ((i + 1 : Nat) : Int) = k + 1 + (i : Int)
    omega
theorem rangeI_nil {k n : Int} (h : n ≤ k) : rangeI k n = [] := by
  unfold rangeI
  rw [show (n - k).toNat = 0 by omega]; rfl
theorem rangeI_inv {k n : Int} {x : Int} {xs : List Int} (h : x :: xs = rangeI k n) : k < n ∧ x = k ∧ xs = rangeI (k + 1) n := by
  by_cases hk : k < n
  · rw [rangeI_cons hk] at h
    exact ⟨hk, (List.cons.inj h).1, (List.cons.inj h).2⟩
  · rw [rangeI_nil (by omega)] at h; cases h
theorem lcR_mem {α β : Type} {f : α → R β} {g : α → β} {xs : List α} (h : ∀ x ∈ xs, f x = .ok (g x)) : lcR (fun _ => .ok true) f xs = .ok (xs.map g) := by
  have := lcR_of (p := fun _ => .ok true) (q := fun _ => true) (g := g) (xs := xs) fun x hx => ⟨rfl, fun _ => h x hx⟩
  rw [this, List.filter_eq_self.mpr (fun _ _ => rfl)]
/-- x lies strictly within none of the rows -/
def Top (rows : List (List Int)) (x : List Int) : Prop := ∀ o ∈ rows, x ≠ o → ¬ ∀ y ∈ x, y ∈ o
theorem top_iff {rows : List (List Int)} {x : List Int} : Top rows x ↔ ∀ o ∈ rows, ¬ x = o → ∃ y, y ∈ x ∧ ¬ y ∈ o := by
  constructor
  · intro h o ho e
    refine Classical.byContradiction fun hc => h o ho e fun y hy => Classical.byContradiction fun hn => hc ⟨y, hy, hn⟩
  · intro h o ho e hall
    obtain ⟨y, h1, h2⟩ := h o ho e
    exact h2 (hall y h1)
end LW
set_option Elab.async false
set_option maxRecDepth 100000
set_option linter.all false
set_option maxHeartbeats 2000000
namespace LW
open PySem PySem.Spec PyProof.Rows L2 PD
def ixv (L : List Int) (i : Int) : Int := (L[i.toNat]?).getD 0
def ixr (L : List (List Int)) (i : Int) : List Int := (L[i.toNat]?).getD []
theorem ix_li {L : List Int} {i : Int} (h0 : 0 ≤ i) (h1 : i < (L.length : Int)) : oIx (li L) (.int i) = .ok (.int (ixv L i)) := by
  have hl : i.toNat < L.length := by omega
  unfold ixv
  rw [oIx_li h0 (List.getElem?_eq_getElem hl), List.getElem?_eq_getElem hl]; rfl
theorem ix_tu {L : List Int} {i : Int} (h0 : 0 ≤ i) (h1 : i < (L.length : Int)) : oIx (tu L) (.int i) = .ok (.int (ixv L i)) := by
  have hl : i.toNat < L.length := by omega
  unfold ixv
  rw [oIx_tu h0 (List.getElem?_eq_getElem hl), List.getElem?_eq_getElem hl]; rfl
theorem ix_lt {L : List (List Int)} {i : Int} (h0 : 0 ≤ i) (h1 : i < (L.length : Int)) : oIx (lt L) (.int i) = .ok (tu (ixr L i)) := by
  have hl : i.toNat < L.length := by omega
  unfold ixr
  rw [oIx_lt h0 (List.getElem?_eq_getElem hl), List.getElem?_eq_getElem hl]; rfl
theorem ixv_mem {L : List Int} {i : Int} (h0 : 0 ≤ i) (h1 : i < (L.length : Int)) : ixv L i ∈ L := by
  have hl : i.toNat < L.length := by omega
  unfold ixv
  rw [List.getElem?_eq_getElem hl]; exact List.getElem_mem hl
theorem ixr_mem {L : List (List Int)} {i : Int} (h0 : 0 ≤ i) (h1 : i < (L.length : Int)) : ixr L i ∈ L := by
  have hl : i.toNat < L.length := by omega
  unfold ixr
  rw [List.getElem?_eq_getElem hl]; exact List.getElem_mem hl
theorem v_count (row cl : List Int) (c : Int) (h : ∀ x ∈ row, 0 ≤ x ∧ x < (cl.length : Int)) : m_law_count [tu row, li cl, .int c] = .ok (.int (row.filter fun x => ixv cl x == c).length) := by
  show endR (g_law_count [some (.d (tu row)), some (.d (li cl)), some (.d (.int c)), none]) = _
  simp [g_law_count]
  rw [lcR_of (q := fun x => ixv cl x == c) (g := fun x => PyData.int x)]
  · simp
  · intro x hx
    simp [ix_li (h x hx).1 (h x hx).2]
def gone (x : Int) (l : List Int) : List Int := (l.filter (fun y => !(y == x))).map fun y => if x < y then y - 1 else y
end LW
set_option Elab.async false
set_option maxRecDepth 100000
set_option linter.all false
set_option maxHeartbeats 2000000
namespace LW
open PySem PySem.Spec PyProof.Rows L2 PD
theorem asc_rest (n : Int) (p : Int → Bool) : Asc n ((rangeI 0 n).filter p) := ⟨(rangeI_asc 0 n).filter p, fun x hx => mem_rangeI.mp (List.mem_filter.mp hx).1⟩
end LW
set_option Elab.async false
set_option maxRecDepth 100000
set_option linter.all false
set_option maxHeartbeats 2000000
namespace LW
open PySem PySem.Spec PyProof.Rows L2 PD
def exch (l : List Int) (x t : Int) : List Int := sortI (l.filter (fun y => !(y == x)) ++ [t])
theorem v_law_exch (l : List Int) (x t : Int) (h : l.length ≤ 1000) : m_law_exchanged [tu l, .int x, .int t] = .ok (tu (exch l x t)) := by
  show endR (g_law_exchanged [some (.d (tu l)), some (.d (.int x)), some (.d (.int t)), none]) = _
  have hl := List.length_filter_le (fun y => !(y == x)) l
  have e1 : PyData.list [.int t] = li [t] := rfl
  have e2 := oAdd_li (a := l.filter (fun y => !(y == x))) (b := [t]) (by simp; omega)
  simp [g_law_exchanged, e1, e2, exch]
def Bad (ls : List (List Int)) (l : List Int) (x : Int) (o : List Int) : Prop := ¬ x ∈ o ∧ ∀ t, t ∈ o → ¬ t ∈ l → ¬ exch l x t ∈ ls
instance (ls : List (List Int)) (l : List Int) (x : Int) (o : List Int) : Decidable (Bad ls l x o) := by unfold Bad; infer_instance
def trip (l : List Int) (x : Int) (o : List Int) : PyData := .tuple [tu l, .int x, tu o]
def findO (ls : List (List Int)) (l : List Int) (x : Int) (o : List Int) : Option PyData := if Bad ls l x o then some (trip l x o) else none
def findX (ls : List (List Int)) (l : List Int) (x : Int) : Option PyData := ls.findSome? (findO ls l x)
def findL (ls : List (List Int)) (l : List Int) : Option PyData := l.findSome? (findX ls l)
def faultD (ls : List (List Int)) : PyData := (ls.findSome? (findL ls)).getD .none
theorem v_law_fault (ls : List (List Int)) (h : ∀ l ∈ ls, l.length ≤ 1000) : m_law_fault [tt ls] = .ok (faultD ls) := by
  show endR (g_law_fault [some (.d (tt ls)), none, none, none, none, none]) = _
  have k3 := forGo_find (i := 1) (g := b_law_fault_3) (enc := tu) (fun ρ => ∃ o1 o2 o3 o4, ρ = [some (.d (tt ls)), o1, o2, o3, o4, none]) (findL ls) (xs := ls) (by
    rintro l hl ρ ⟨o1, o2, o3, o4, rfl⟩
    have k2 := forGo_find (i := 2) (g := b_law_fault_2) (enc := PyData.int) (fun ρ => ∃ o2 o3 o4, ρ = [some (.d (tt ls)), some (.d (tu l)), o2, o3, o4, none]) (findX ls l) (xs := l) (by
      rintro x hx ρ ⟨o2, o3, o4, rfl⟩
      have k1 := forGo_find (i := 3) (g := b_law_fault_1) (enc := tu) (fun ρ => ∃ o3 o4, ρ = [some (.d (tt ls)), some (.d (tu l)), some (.d (.int x)), o3, o4, none]) (findO ls l x) (xs := ls) (by
        rintro o ho ρ ⟨o3, o4, rfl⟩
        have ee := fun t => v_law_exch l x t (h l hl)
        unfold findO
        by_cases hb : Bad ls l x o
        · simp only [hb, if_true]
          obtain ⟨h1, h2⟩ := hb
          simp [b_law_fault_1, h1, ee, trip]
          exact h2
        · simp only [hb, if_false]
          by_cases hx : x ∈ o
          · exact ⟨[some (.d (tt ls)), some (.d (tu l)), some (.d (.int x)), some (.d (tu o)), o4, none], by simp [b_law_fault_1, hx], _, _, rfl⟩
          · have h2 : ¬ ∀ t, t ∈ o → ¬ t ∈ l → ¬ exch l x t ∈ ls := fun z => hb ⟨hx, z⟩
            refine ⟨[some (.d (tt ls)), some (.d (tu l)), some (.d (.int x)), some (.d (tu o)), some (.d (li (o.filter fun t => !decide (t ∈ l)))), none], ?_, _, _, rfl⟩
            simp [b_law_fault_1, hx, ee, h2])
      have r := k1 [some (.d (tt ls)), some (.d (tu l)), some (.d (.int x)), o3, o4, none] ⟨o3, o4, rfl⟩
      unfold findX
      cases e : ls.findSome? (findO ls l x) with
      | some d => rw [e] at r; simp only; simp [b_law_fault_2]; exact r
      | none =>
        rw [e] at r
        obtain ⟨ρ', r1, o3', o4', rfl⟩ := r
        refine ⟨[some (.d (tt ls)), some (.d (tu l)), some (.d (.int x)), o3', o4', none], ?_, _, _, _, rfl⟩
        simp [b_law_fault_2]; exact r1)
    have r := k2 [some (.d (tt ls)), some (.d (tu l)), o2, o3, o4, none] ⟨o2, o3, o4, rfl⟩
    unfold findL
    cases e : l.findSome? (findX ls l) with
    | some d => rw [e] at r; simp only; simp [b_law_fault_3]; exact r
    | none =>
      rw [e] at r
      obtain ⟨ρ', r1, o2', o3', o4', rfl⟩ := r
      refine ⟨[some (.d (tt ls)), some (.d (tu l)), o2', o3', o4', none], ?_, _, _, _, _, rfl⟩
      simp [b_law_fault_3]; exact r1)
  have r := k3 [some (.d (tt ls)), none, none, none, none, none] ⟨none, none, none, none, rfl⟩
  unfold faultD
  cases e : ls.findSome? (findL ls) with
  | some d => rw [e] at r; simp [g_law_fault]; rw [r]; rfl
  | none =>
    rw [e] at r
    obtain ⟨ρ', r1, o1, o2, o3, o4, rfl⟩ := r
    simp [g_law_fault]; rw [r1]; rfl
theorem faultD_is (ls : List (List Int)) : faultD ls = .none ∨ ∃ l x o, l ∈ ls ∧ o ∈ ls ∧ faultD ls = trip l x o := by
  unfold faultD
  cases e : ls.findSome? (findL ls) with
  | none => exact .inl rfl
  | some d =>
    refine .inr ?_
    obtain ⟨l, hl, e1⟩ := List.exists_of_findSome?_eq_some e
    obtain ⟨x, hx, e2⟩ := List.exists_of_findSome?_eq_some e1
    obtain ⟨o, ho, e3⟩ := List.exists_of_findSome?_eq_some e2
    unfold findO at e3
    split at e3
    · cases e3
      exact ⟨l, x, o, hl, ho, rfl⟩
    · cases e3
end LW
set_option Elab.async false
set_option maxRecDepth 100000
set_option linter.all false
set_option maxHeartbeats 2000000
namespace LW
open PySem PySem.Spec PyProof.Rows L2 PD
theorem ix_tt {L : List (List Int)} {i : Int} (h0 : 0 ≤ i) (h1 : i < (L.length : Int)) : oIx (tt L) (.int i) = .ok (tu (ixr L i)) := ix_lt (L := L) h0 h1
theorem bLen_tt (ls : List (List Int)) : bLen [tt ls] = .ok (.int ls.length) := by
  show R.ok (PyData.int ((ls.map tu).length : Int)) = _
  rw [List.length_map]
/-- what a lot does not have -/
def rest (n : Int) (l : List Int) : List Int := (rangeI 0 n).filter fun x => !decide (x ∈ l)
end LW
set_option Elab.async false
set_option maxRecDepth 100000
set_option linter.all false
set_option maxHeartbeats 2000000
namespace LW
open PySem PySem.Spec PyProof.Rows L2 PD
theorem asc_sub : ∀ {x o : List Int}, x.Pairwise (· < ·) → o.Pairwise (· < ·) → (∀ y ∈ x, y ∈ o) → x.Sublist o
  | [], o, _, _, _ => List.nil_sublist o
  | a :: x, [], _, _, h => absurd (h a List.mem_cons_self) (by simp)
  | a :: x, b :: o, hx, ho, h => by
    obtain ⟨x1, x2⟩ := List.pairwise_cons.mp hx
    obtain ⟨o1, o2⟩ := List.pairwise_cons.mp ho
    by_cases e : a = b
    · subst e
      refine (asc_sub x2 o2 fun y hy => ?_).cons_cons a
      rcases List.mem_cons.mp (h y (List.mem_cons_of_mem _ hy)) with z | z
      · have := x1 y hy; omega
      · exact z
    · have ha : a ∈ o := (List.mem_cons.mp (h a List.mem_cons_self)).resolve_left e
      have hb := o1 a ha
      refine (asc_sub hx o2 fun y hy => ?_).cons b
      rcases List.mem_cons.mp (h y hy) with z | z
      · rcases List.mem_cons.mp hy with q | q
        · omega
        · have := x1 y q; omega
      · exact z
theorem asc_ext {x o : List Int} (hx : x.Pairwise (· < ·)) (ho : o.Pairwise (· < ·)) (h : ∀ y, y ∈ x ↔ y ∈ o) : x = o :=
  let a := asc_sub hx ho fun y hy => (h y).mp hy
  a.eq_of_length (Nat.le_antisymm a.length_le (asc_sub ho hx fun y hy => (h y).mpr hy).length_le)
theorem mem_rest {n y : Int} {l : List Int} : y ∈ rest n l ↔ (0 ≤ y ∧ y < n) ∧ ¬ y ∈ l := by
  unfold rest
  rw [List.mem_filter, mem_rangeI]
  simp
theorem rest_asc (n : Int) (l : List Int) : Asc n (rest n l) := asc_rest n _
theorem rest_rest {n : Int} {l : List Int} (h : Asc n l) : rest n (rest n l) = l := by
  refine asc_ext (rest_asc n _).1 h.1 fun y => ?_
  rw [mem_rest, mem_rest]
  constructor
  · rintro ⟨a, b⟩
    exact Classical.byContradiction fun c => b ⟨a, c⟩
  · intro c
    exact ⟨h.2 y c, fun z => z.2 c⟩
/-- what the lots do not have -/
def opp (n : Int) (ls : List (List Int)) : List (List Int) := sortT (ls.map (rest n))
def has (x : Int) (l : List Int) : Bool := decide (x ∈ l)
end LW
set_option Elab.async false
set_option maxRecDepth 100000
set_option linter.all false
set_option maxHeartbeats 2000000
namespace LW
open PySem PySem.Spec PyProof.Rows L2 PD
/-- an offer as data -/
def ofr (n : Int) (ls : List (List Int)) : PyData := .tuple [.int n, tt ls]
/-- rows that an offer can have -/
structure Good (n : Int) (ls : List (List Int)) : Prop where
  asc : ∀ l ∈ ls, Asc n l
  asd : Asd ls
  ne : ls ≠ []
  len : ls.length ≤ 1000
theorem Good.opp {n : Int} {ls : List (List Int)} (g : Good n ls) : Good n (opp n ls) := by
  refine ⟨fun l hl => ?_, asd_sortT ?_, fun z => ?_, ?_⟩
  · obtain ⟨k, _, rfl⟩ := List.mem_map.mp (mem_sortT.mp hl)
    exact rest_asc n k
  · refine List.pairwise_map.mpr (g.asd.nodup.imp_of_mem fun {a b} ha hb ne e => ne ?_)
    rw [← rest_rest (g.asc a ha), ← rest_rest (g.asc b hb), e]
  · have : (LW.opp n ls).length = 0 := by rw [z]; rfl
    unfold LW.opp at this
    rw [(sortT_perm _).length_eq, List.length_map] at this
    exact g.ne (List.eq_nil_of_length_eq_zero this)
  · unfold LW.opp
    rw [(sortT_perm _).length_eq, List.length_map]
    exact g.len
end LW
set_option Elab.async false
set_option maxRecDepth 100000
set_option linter.all false
set_option maxHeartbeats 2000000
namespace LW
open PySem PySem.Spec PyProof.Rows L2 PD
theorem sortI_eq (l : List Int) : sortI l = l.mergeSort fun a b => decide (a ≤ b) := by
  have h : sortD (l.map PyData.int) = (l.mergeSort fun a b => decide (a ≤ b)).map PyData.int := by
    unfold sortD
    refine (List.map_mergeSort (f := PyData.int) (r := fun a b => decide (a ≤ b)) (s := PySem.W.dataLe false id) (l := l) fun a _ b _ => ?_).symm
    show decide (a ≤ b) = !(PySem.W.dataLt (.int b) (.int a))
    rw [PySem.W.dataLt_int, PySem.W.not_lt_int]
  have e := (sortD_ints l).1
  rw [h] at e
  have inj : ∀ {a b : List Int}, a.map PyData.int = b.map PyData.int → a = b := fun {a b} z => by
    induction a generalizing b with
    | nil => cases b with
      | nil => rfl
      | cons y b => cases z
    | cons x a ih => cases b with
      | nil => cases z
      | cons y b =>
        rw [List.map_cons, List.map_cons] at z
        obtain ⟨z1, z2⟩ := List.cons.inj z
        rw [PyData.int.inj z1, ih z2]
  exact (inj e).symm
theorem sortI_le (l : List Int) : (sortI l).Pairwise (· ≤ ·) := by
  rw [sortI_eq]
  exact (List.pairwise_mergeSort (le := fun a b : Int => decide (a ≤ b)) (fun a b c h1 h2 => by simp only [decide_eq_true_eq] at *; omega) (fun a b => by simp only [Bool.or_eq_true, decide_eq_true_eq]; omega) l).imp fun h => of_decide_eq_true h
theorem sortI_asc {n : Int} {l : List Int} (nd : l.Nodup) (h : ∀ x ∈ l, 0 ≤ x ∧ x < n) : Asc n (sortI l) := by
  refine ⟨((sortI_le l).and ((sortD_ints l).2.nodup_iff.mpr nd)).imp fun {a b} ⟨h1, h2⟩ => by omega, fun x hx => h x (mem_sortI.mp hx)⟩
theorem Asc.nodup {n : Int} {l : List Int} (h : Asc n l) : l.Nodup := h.1.imp fun {a b} z e => by omega
theorem mem_exch {l : List Int} {x t y : Int} : y ∈ exch l x t ↔ (y ∈ l ∧ ¬ y = x) ∨ y = t := by
  unfold exch
  rw [mem_sortI, List.mem_append, List.mem_filter, List.mem_singleton]
  simp
theorem exch_asc {n x t : Int} {l : List Int} (h : Asc n l) (ht : ¬ t ∈ l) (b : 0 ≤ t ∧ t < n) : Asc n (exch l x t) := by
  unfold exch
  refine sortI_asc ?_ fun y hy => ?_
  · rw [List.nodup_append]
    refine ⟨h.nodup.filter _, by simp, fun a ha c hc e => ?_⟩
    rw [List.mem_singleton.mp hc] at e
    exact ht (e ▸ (List.mem_filter.mp ha).1)
  · rcases List.mem_append.mp hy with z | z
    · exact h.2 y (List.mem_filter.mp z).1
    · rw [List.mem_singleton.mp z]; exact b
/-- all exchanges are there -/
def Exc (ls : List (List Int)) : Prop := ∀ l ∈ ls, ∀ x ∈ l, ∀ o ∈ ls, ¬ x ∈ o → ∃ t ∈ o, ¬ t ∈ l ∧ exch l x t ∈ ls
theorem faultD_none {ls : List (List Int)} (h : Exc ls) : faultD ls = .none := by
  rcases faultD_is ls with e | ⟨l, x, o, hl, ho, e⟩
  · exact e
  · exfalso
    unfold faultD at e
    cases q : ls.findSome? (findL ls) with
    | none => rw [q] at e; cases e
    | some d =>
      obtain ⟨l, hl, e1⟩ := List.exists_of_findSome?_eq_some q
      obtain ⟨x, hx, e2⟩ := List.exists_of_findSome?_eq_some e1
      obtain ⟨o, ho, e3⟩ := List.exists_of_findSome?_eq_some e2
      unfold findO at e3
      split at e3
      · rename_i b
        obtain ⟨t, ht, hn, hi⟩ := h l hl x hx o ho b.1
        exact b.2 t ht hn hi
      · cases e3
end LW
set_option Elab.async false
set_option maxRecDepth 100000
set_option linter.all false
set_option maxHeartbeats 2000000
namespace LW
open PySem PySem.Spec PyProof.Rows L2 PD
theorem gone_len {x : Int} : ∀ {l : List Int}, l.Nodup → (gone x l).length = if x ∈ l then l.length - 1 else l.length := by
  intro l nd
  unfold gone
  rw [List.length_map]
  induction l with
  | nil => rfl
  | cons y l ih =>
    obtain ⟨h1, h2⟩ := List.nodup_cons.mp nd
    by_cases c : y = x
    · subst c
      rw [List.filter_cons_of_neg (by simp), ih h2, if_neg h1, if_pos List.mem_cons_self]
      rfl
    · rw [List.filter_cons_of_pos (by simpa using c), List.length_cons, ih h2]
      by_cases d : x ∈ l
      · rw [if_pos d, if_pos (List.mem_cons_of_mem _ d), List.length_cons]
        have := List.length_pos_of_mem d
        omega
      · rw [if_neg d, if_neg fun z => by
          rcases List.mem_cons.mp z with z | z
          · exact c z.symm
          · exact d z]
        rfl
/-- all rows have the same number of things -/
def Eqs (ls : List (List Int)) : Prop := ∀ l ∈ ls, ∀ k ∈ ls, l.length = k.length
/-- lots of which all exchanges are there, all of one size -/
structure Smooth (n : Int) (ls : List (List Int)) : Prop where
  good : Good n ls
  exc : Exc ls
  eqs : Eqs ls
end LW
set_option Elab.async false
set_option maxRecDepth 100000
set_option linter.all false
set_option maxHeartbeats 2000000
namespace LW
open PySem PySem.Spec PyProof.Rows L2 PD
/-- how many of these things a lot has -/
def cnt (A l : List Int) : Nat := (l.filter fun y => decide (y ∈ A)).length
theorem sub_len {l k : List Int} (h : l.Pairwise (· < ·)) (h' : k.Pairwise (· < ·)) (s : ∀ y ∈ l, y ∈ k) : l.length ≤ k.length := (asc_sub h h' s).length_le
end LW
set_option Elab.async false
set_option maxRecDepth 100000
set_option linter.all false
set_option maxHeartbeats 2000000
set_option Elab.async false
set_option maxRecDepth 100000
set_option linter.all false
set_option maxHeartbeats 2000000
set_option Elab.async false
set_option maxRecDepth 100000
set_option linter.all false
set_option maxHeartbeats 2000000
set_option Elab.async false
set_option maxRecDepth 100000
set_option linter.all false
set_option maxHeartbeats 2000000
set_option Elab.async false
set_option maxRecDepth 100000
set_option linter.all false
set_option maxHeartbeats 4000000
set_option Elab.async false
set_option maxRecDepth 100000
set_option linter.all false
set_option maxHeartbeats 2000000
namespace LW
open PySem PySem.Spec PyProof.Rows L2 PD
/-- `near`, and what the first lot shares with l stays -/
theorem near_keep {n x : Int} {ls : List (List Int)} {l : List Int} (s : Smooth n ls) (hl : l ∈ ls) (hxl : ¬ x ∈ l) : ∀ (m : Nat) (k : List Int), k ∈ ls → x ∈ k → (k.filter fun y => !decide (y ∈ l)).length ≤ m → ∃ k' ∈ ls, x ∈ k' ∧ (∀ y ∈ k', ¬ y = x → y ∈ l) ∧ ∀ y ∈ k, y ∈ l → y ∈ k'
  | 0, k, hk, hxk, hm => by
    have e := List.eq_nil_of_length_eq_zero (Nat.le_zero.mp hm)
    have : x ∈ k.filter fun y => !decide (y ∈ l) := List.mem_filter.mpr ⟨hxk, by simpa using hxl⟩
    rw [e] at this
    cases this
  | m + 1, k, hk, hxk, hm => by
    by_cases c : ∀ y ∈ k, ¬ y = x → y ∈ l
    · exact ⟨k, hk, hxk, c, fun y hy _ => hy⟩
    · obtain ⟨z, hz⟩ := Classical.not_forall.mp c
      obtain ⟨z1, hz⟩ := Classical.not_imp.mp hz
      obtain ⟨z2, z3⟩ := Classical.not_imp.mp hz
      obtain ⟨t, t1, t2, t3⟩ := s.exc k hk z z1 l hl z3
      have ka := s.good.asc k hk
      have ea := s.good.asc _ t3
      have sub : ((exch k z t).filter fun y => !decide (y ∈ l)).length ≤ ((k.filter fun y => !decide (y ∈ l)).filter fun y => !(y == z)).length := by
        refine sub_len (ea.1.filter _) ((ka.1.filter _).filter _) fun y hy => ?_
        obtain ⟨y1, y2⟩ := List.mem_filter.mp hy
        have y3 : ¬ y ∈ l := by simpa using y2
        rcases mem_exch.mp y1 with q | q
        · exact List.mem_filter.mpr ⟨List.mem_filter.mpr ⟨q.1, y2⟩, by simpa using q.2⟩
        · exact absurd (q ▸ t1) y3
      have one := gone_len (x := z) (l := k.filter fun y => !decide (y ∈ l)) (ka.nodup.filter _)
      unfold gone at one
      rw [List.length_map, if_pos (List.mem_filter.mpr ⟨z1, by simpa using z3⟩)] at one
      obtain ⟨k', k1, k2, k3, k4⟩ := near_keep s hl hxl m (exch k z t) t3 (mem_exch.mpr (.inl ⟨hxk, fun e => z2 e.symm⟩)) (by omega)
      exact ⟨k', k1, k2, k3, fun y hy hyl => k4 y (mem_exch.mpr (.inl ⟨hy, fun e => z3 (e ▸ hyl)⟩)) hyl⟩
/-- the exchange from the other side: x comes in, a thing of l alone goes -/
theorem exc_in {n x : Int} {ls : List (List Int)} {l o : List Int} (s : Smooth n ls) (hl : l ∈ ls) (hxl : ¬ x ∈ l) (ho : o ∈ ls) (hxo : x ∈ o) : ∃ t ∈ l, ¬ t ∈ o ∧ exch l t x ∈ ls := by
  obtain ⟨k, k1, k2, k3, k4⟩ := near_keep s hl hxl _ o ho hxo (Nat.le_refl _)
  have la := s.good.asc l hl
  have ka := s.good.asc k k1
  have e := s.eqs k k1 l hl
  have e1 := gone_len (x := x) ka.nodup
  unfold gone at e1
  rw [List.length_map, if_pos k2] at e1
  have pos := List.length_pos_of_mem k2
  -- some thing of l is not in k
  have out : ∃ t, t ∈ l ∧ ¬ t ∈ k := Classical.byContradiction fun no => by
    have a : ∀ t ∈ l, t ∈ k.filter fun y => !(y == x) := fun t ht => List.mem_filter.mpr ⟨Classical.byContradiction fun z => no ⟨t, ht, z⟩, by simpa using fun z : t = x => hxl (z ▸ ht)⟩
    have := sub_len la.1 (ka.1.filter _) a
    omega
  obtain ⟨t, t1, t2⟩ := out
  have e2 := gone_len (x := t) la.nodup
  unfold gone at e2
  rw [List.length_map, if_pos t1] at e2
  have sub : (k.filter fun y => !(y == x)).Sublist (l.filter fun y => !(y == t)) := asc_sub (ka.1.filter _) (la.1.filter _) fun y hy => by
    obtain ⟨y1, y2⟩ := List.mem_filter.mp hy
    exact List.mem_filter.mpr ⟨k3 y y1 (by simpa using y2), by simpa using fun z : y = t => t2 (z ▸ y1)⟩
  have same := sub.eq_of_length (by rw [e1, e2, e])
  refine ⟨t, t1, fun z => t2 (k4 t z t1), ?_⟩
  have : exch l t x = k := asc_ext (exch_asc la hxl (ka.2 x k2)).1 ka.1 fun y => by
    rw [mem_exch]
    constructor
    · rintro (⟨a, b⟩ | a)
      · have : y ∈ l.filter fun y => !(y == t) := List.mem_filter.mpr ⟨a, by simpa using b⟩
        rw [← same] at this
        exact (List.mem_filter.mp this).1
      · exact a ▸ k2
    · intro h
      by_cases c : y = x
      · exact .inr c
      · exact .inl ⟨k3 y h c, fun z => t2 (z ▸ h)⟩
  rw [this]
  exact k1
theorem rest_exch {n t x : Int} {l : List Int} (h : Asc n l) (hx : ¬ x ∈ l) (hb : 0 ≤ x ∧ x < n) (ht : t ∈ l) : exch (rest n l) x t = rest n (exch l t x) := by
  have htx : ¬ t = x := fun z => hx (z ▸ ht)
  refine asc_ext (exch_asc (rest_asc n l) (fun z => (mem_rest.mp z).2 ht) (h.2 t ht)).1 (rest_asc _ _).1 fun y => ?_
  rw [mem_exch, mem_rest, mem_rest, mem_exch]
  constructor
  · rintro (⟨⟨a, b⟩, c⟩ | a)
    · exact ⟨a, fun z => z.elim (fun z => b z.1) c⟩
    · rw [a]
      exact ⟨h.2 t ht, fun z => z.elim (fun z => z.2 rfl) htx⟩
  · rintro ⟨a, b⟩
    by_cases c : y = t
    · exact .inr c
    · exact .inl ⟨⟨a, fun z => b (.inl ⟨z, c⟩)⟩, fun z => b (.inr z)⟩
theorem mem_opp {n : Int} {ls : List (List Int)} {l : List Int} : l ∈ opp n ls ↔ ∃ k ∈ ls, rest n k = l := by
  unfold opp
  rw [mem_sortT, List.mem_map]
theorem rest_len {n : Int} {l : List Int} (h : Asc n l) : (rest n l).length + l.length = (rangeI 0 n).length := by
  have e : l = (rangeI 0 n).filter fun x => decide (x ∈ l) := asc_ext h.1 ((rangeI_asc 0 n).filter _) fun y => by
    rw [List.mem_filter, mem_rangeI]
    exact ⟨fun z => ⟨h.2 y z, decide_eq_true z⟩, fun z => of_decide_eq_true z.2⟩
  have sp : ∀ (m : List Int) (p : Int → Bool), (m.filter fun y => !p y).length + (m.filter p).length = m.length := fun m p => by
    induction m with
    | nil => rfl
    | cons y m ih =>
      cases q : p y with
      | true => rw [List.filter_cons_of_neg (p := fun y => !p y) (by simp [q]), List.filter_cons_of_pos (p := p) q, List.length_cons, List.length_cons]; omega
      | false => rw [List.filter_cons_of_pos (p := fun y => !p y) (by simp [q]), List.filter_cons_of_neg (p := p) (by simp [q]), List.length_cons, List.length_cons]; omega
  have := sp (rangeI 0 n) fun x => decide (x ∈ l)
  rw [← e] at this
  exact this
theorem Smooth.opp {n : Int} {ls : List (List Int)} (s : Smooth n ls) : Smooth n (opp n ls) := by
  refine ⟨s.good.opp, ?_, ?_⟩
  · intro l' hl' x hx o' ho' nx
    obtain ⟨l, hl, rfl⟩ := mem_opp.mp hl'
    obtain ⟨o, ho, rfl⟩ := mem_opp.mp ho'
    obtain ⟨xb, xl⟩ := mem_rest.mp hx
    have xo : x ∈ o := Classical.byContradiction fun z => nx (mem_rest.mpr ⟨xb, z⟩)
    obtain ⟨t, t1, t2, t3⟩ := exc_in s hl xl ho xo
    refine ⟨t, mem_rest.mpr ⟨(s.good.asc l hl).2 t t1, t2⟩, fun z => (mem_rest.mp z).2 t1, ?_⟩
    rw [rest_exch (s.good.asc l hl) xl xb t1]
    exact mem_opp.mpr ⟨_, t3, rfl⟩
  · intro l' hl' k' hk'
    obtain ⟨l, hl, rfl⟩ := mem_opp.mp hl'
    obtain ⟨k, hk, rfl⟩ := mem_opp.mp hk'
    have a := rest_len (s.good.asc l hl)
    have b := rest_len (s.good.asc k hk)
    have c := s.eqs l hl k hk
    omega
end LW
set_option Elab.async false
set_option maxRecDepth 100000
set_option linter.all false
set_option maxHeartbeats 2000000
namespace LW
open PySem PySem.Spec PyProof.Rows L2 PD
/-- the things of a row in one class -/
def cls (cf : Int → Int) (k : Int) (l : List Int) : Nat := (l.filter fun x => cf x == k).length
def Fit (cf bf : Int → Int) (l : List Int) : Prop := ∀ k, 0 ≤ k → k < 3 → (cls cf k l : Int) ≤ bf k
theorem cls_sum {cf : Int → Int} : ∀ {l : List Int}, (∀ x ∈ l, 0 ≤ cf x ∧ cf x < 3) → l.length = cls cf 0 l + cls cf 1 l + cls cf 2 l
  | [], _ => rfl
  | x :: l, h => by
    have ih := cls_sum (cf := cf) (l := l) fun y hy => h y (List.mem_cons_of_mem _ hy)
    have hx := h x List.mem_cons_self
    have one : ∀ k, cls cf k (x :: l) = cls cf k l + if cf x = k then 1 else 0 := fun k => by
      unfold cls
      by_cases c : cf x = k
      · rw [List.filter_cons_of_pos (by simpa using c), if_pos c, List.length_cons]
      · rw [List.filter_cons_of_neg (by simpa using c), if_neg c]
        rfl
    rw [one, one, one, List.length_cons, ih]
    have : cf x = 0 ∨ cf x = 1 ∨ cf x = 2 := by omega
    rcases this with e | e | e <;> rw [e] <;> simp <;> omega
theorem cls_perm {cf : Int → Int} {k : Int} {l m : List Int} (p : l.Perm m) : cls cf k l = cls cf k m := (p.filter _).length_eq
theorem cls_exch {cf : Int → Int} {k x t : Int} {l : List Int} : cls cf k (exch l x t) = cls cf k (l.filter fun y => !(y == x)) + if cf t = k then 1 else 0 := by
  have p : (exch l x t).Perm (l.filter (fun y => !(y == x)) ++ [t]) := (sortD_ints _).2
  rw [cls_perm p]
  unfold cls
  rw [List.filter_append, List.length_append]
  congr 1
  by_cases c : cf t = k
  · rw [if_pos c, List.filter_cons_of_pos (by simpa using c)]
    rfl
  · rw [if_neg c, List.filter_cons_of_neg (by simpa using c)]
    rfl
theorem exch_len {x t : Int} {l : List Int} (nd : l.Nodup) (hx : x ∈ l) : (exch l x t).length = l.length := by
  have p : (exch l x t).Perm (l.filter (fun y => !(y == x)) ++ [t]) := (sortD_ints _).2
  have e := gone_len (x := x) nd
  unfold gone at e
  rw [List.length_map, if_pos hx] at e
  have pos := List.length_pos_of_mem hx
  rw [p.length_eq, List.length_append, e]
  show l.length - 1 + 1 = l.length
  omega
theorem fit_exc {n x : Int} {cf bf : Int → Int} {l o : List Int} (hc : ∀ x, 0 ≤ x → x < n → 0 ≤ cf x ∧ cf x < 3) (la : Asc n l) (oa : Asc n o) (lf : Fit cf bf l) (of : Fit cf bf o) (e : l.length = o.length) (hx : x ∈ l) (nx : ¬ x ∈ o) :
    ∃ t ∈ o, ¬ t ∈ l ∧ Asc n (exch l x t) ∧ Fit cf bf (exch l x t) ∧ (exch l x t).length = l.length := by
  have cr : ∀ {m : List Int}, Asc n m → ∀ y ∈ m, 0 ≤ cf y ∧ cf y < 3 := fun {m} ma y hy => hc y (ma.2 y hy).1 (ma.2 y hy).2
  have g := gone_len (x := x) la.nodup
  unfold gone at g
  rw [List.length_map, if_pos hx] at g
  have pos := List.length_pos_of_mem hx
  have s1 := cls_sum (cf := cf) (cr oa)
  have s2 := cls_sum (cf := cf) (l := l.filter fun y => !(y == x)) fun y hy => cr la y (List.mem_filter.mp hy).1
  have more : ∃ k, (0 ≤ k ∧ k < 3) ∧ cls cf k (l.filter fun y => !(y == x)) < cls cf k o := by
    by_cases a : cls cf 0 (l.filter fun y => !(y == x)) < cls cf 0 o
    · exact ⟨0, by omega, a⟩
    · by_cases b : cls cf 1 (l.filter fun y => !(y == x)) < cls cf 1 o
      · exact ⟨1, by omega, b⟩
      · exact ⟨2, by omega, by omega⟩
  obtain ⟨k, hk, lt⟩ := more
  have new : ∃ t ∈ o, cf t = k ∧ ¬ t ∈ l.filter fun y => !(y == x) := Classical.byContradiction fun no => by
    have : cls cf k o ≤ cls cf k (l.filter fun y => !(y == x)) := sub_len (oa.1.filter _) ((la.1.filter _).filter _) fun y hy => by
      obtain ⟨y1, y2⟩ := List.mem_filter.mp hy
      exact List.mem_filter.mpr ⟨Classical.byContradiction fun z => no ⟨y, y1, by simpa using y2, z⟩, y2⟩
    omega
  obtain ⟨t, t1, t2, t3⟩ := new
  have tl : ¬ t ∈ l := fun z => t3 (List.mem_filter.mpr ⟨z, by simpa using fun e : t = x => nx (e ▸ t1)⟩)
  refine ⟨t, t1, tl, exch_asc la tl (oa.2 t t1), fun j j0 j1 => ?_, exch_len la.nodup hx⟩
  rw [cls_exch]
  by_cases c : cf t = j
  · rw [if_pos c]
    have := of j j0 j1
    rw [← c, t2] at this ⊢
    omega
  · rw [if_neg c]
    have a := lf j j0 j1
    have : cls cf j (l.filter fun y => !(y == x)) ≤ cls cf j l := sub_len ((la.1.filter _).filter _) (la.1.filter _) fun y hy => by
      obtain ⟨y1, y2⟩ := List.mem_filter.mp hy
      exact List.mem_filter.mpr ⟨(List.mem_filter.mp y1).1, y2⟩
    omega
/-- a part of a row that fits does -/
theorem fit_take {cf bf : Int → Int} {l : List Int} (h : Fit cf bf l) (m : Nat) : Fit cf bf (l.take m) := fun k k0 k1 => by
  have a := h k k0 k1
  have b : cls cf k (l.take m) ≤ cls cf k l := ((List.take_sublist m l).filter _).length_le
  omega
theorem asc_take {n : Int} {l : List Int} (h : Asc n l) (m : Nat) : Asc n (l.take m) := ⟨h.1.sublist (List.take_sublist m l), fun x hx => h.2 x (List.mem_of_mem_take hx)⟩
end LW
set_option Elab.async false
set_option maxRecDepth 100000
set_option linter.all false
set_option maxHeartbeats 2000000
namespace LW
open PySem PySem.Spec PyProof.Rows L2 PD
/-- what is kept and what is still to come stand in order -/
def Run (R : List Int → List Int → Prop) (kept xs : List (List Int)) : Prop := kept.Pairwise R ∧ xs.Pairwise R ∧ ∀ a ∈ kept, ∀ b ∈ xs, R a b
theorem Run.keep {R : List Int → List Int → Prop} {x : List Int} {kept xs : List (List Int)} (h : Run R kept (x :: xs)) : Run R (kept ++ [x]) xs := by
  obtain ⟨h1, h2, h3⟩ := h
  obtain ⟨h4, h5⟩ := List.pairwise_cons.mp h2
  refine ⟨List.pairwise_append.mpr ⟨h1, List.pairwise_singleton _ _, fun a ha b hb => ?_⟩, h5, fun a ha b hb => ?_⟩
  · rw [List.mem_singleton.mp hb]
    exact h3 a ha x List.mem_cons_self
  · rcases List.mem_append.mp ha with z | z
    · exact h3 a z b (List.mem_cons_of_mem _ hb)
    · rw [List.mem_singleton.mp z]
      exact h4 b hb
theorem Run.skip {R : List Int → List Int → Prop} {x : List Int} {kept xs : List (List Int)} (h : Run R kept (x :: xs)) : Run R kept xs := ⟨h.1, (List.pairwise_cons.mp h.2.1).2, fun a ha b hb => h.2.2 a ha b (List.mem_cons_of_mem _ hb)⟩
theorem Run.start {R : List Int → List Int → Prop} {xs : List (List Int)} (h : xs.Pairwise R) : Run R [] xs := ⟨.nil, h, fun a ha => by cases ha⟩
theorem v_parts2 (n : Int) (h0 : 0 ≤ n) (h1 : n ≤ 12) : ∃ rows : List (List Int), m_law_parts_of [.int n] = .ok (lt rows) ∧ (∀ r, r ∈ rows ↔ Asc n r) ∧ rows.length = 2 ^ n.toNat ∧ Asd rows := by
  show ∃ rows : List (List Int), endR (g_law_parts_of [some (.d (.int n)), none, none, none]) = _ ∧ _
  have key := forGo_inv (i := 2) (g := b_law_parts_of_1) (enc := PyData.int) (fun xs ρ => ∃ (k : Int) (rows : List (List Int)) (o2 : Option Sl),
    xs = rangeI k n ∧ 0 ≤ k ∧ k ≤ n ∧ ρ = [some (.d (.int n)), some (.d (lt rows)), o2, none] ∧ (∀ r, r ∈ rows ↔ Asc k r) ∧ rows.length = 2 ^ k.toNat ∧ rows.Nodup) (by
    rintro x xs ρ ⟨k, rows, o2, hx, hk, hkn, rfl, hr, hz, hd⟩
    obtain ⟨hk1, rfl, rfl⟩ := rangeI_inv hx
    have hp : 2 ^ x.toNat ≤ 2 ^ 12 := Nat.pow_le_pow_right (by decide) (by omega)
    have e1 : lcR (fun _ => R.ok true) (fun r : List Int => oAdd (tu r) (tu [x])) rows = .ok (rows.map fun r => tu (r ++ [x])) := lcR_mem fun r hm => oAdd_tu (by have := ((hr r).mp hm).len; simp; omega)
    have e2 : oAdd (lt rows) (lt (rows.map fun r => r ++ [x])) = .ok (lt (rows ++ rows.map fun r => r ++ [x])) := oAdd_lt (by rw [List.length_map, hz]; omega)
    refine ⟨[some (.d (.int n)), some (.d (lt (rows ++ rows.map fun r => r ++ [x]))), some (.d (.int x)), none], ?_, x + 1, _, _, rfl, by omega, by omega, rfl, fun r => ?_, ?_, ?_⟩
    · simp [b_law_parts_of_1, e1, e2]
    · rw [List.mem_append, List.mem_map, asc_succ hk, hr r]
      constructor
      · rintro (h | ⟨a, ha, rfl⟩)
        · exact .inl h
        · exact .inr ⟨a, (hr a).mp ha, rfl⟩
      · rintro (h | ⟨a, ha, rfl⟩)
        · exact .inl h
        · exact .inr ⟨a, (hr a).mpr ha, rfl⟩
    · rw [List.length_append, List.length_map, hz, show (x + 1).toNat = x.toNat + 1 by omega, Nat.pow_succ]; omega
    · rw [List.nodup_append]
      refine ⟨hd, List.pairwise_map.mpr (hd.imp fun {a b} ne e => ne (List.append_cancel_right e)), fun a ha b hb e => ?_⟩
      obtain ⟨c, _, rfl⟩ := List.mem_map.mp hb
      have := ((hr a).mp ha).2 x (by rw [e]; simp)
      omega)
  have hi : ∀ r : List Int, r ∈ [[]] ↔ Asc 0 r := fun r => by
    constructor
    · intro h
      rw [List.mem_singleton.mp h]; exact Asc.nil _
    · intro h
      have := h.len
      have : r.length = 0 := by simpa using this
      rw [List.length_eq_zero_iff.mp this]; simp
  obtain ⟨ρ', e, k, rows, o2, hx, hk, hkn, rfl, hr, hz, hd⟩ := key (rangeI 0 n) [some (.d (.int n)), some (.d (lt [[]])), none, none] ⟨0, [[]], none, rfl, by omega, h0, rfl, hi, rfl, by simp⟩
  · have ek : k = n := by
      by_cases h : k < n
      · rw [rangeI_cons h] at hx; cases hx
      · omega
    subst ek
    have hp : 2 ^ k.toNat ≤ 2 ^ 12 := Nat.pow_le_pow_right (by decide) (by omega)
    refine ⟨sortT rows, ?_, fun r => mem_sortT.trans (hr r), ?_, asd_sortT hd⟩
    · simp [g_law_parts_of, rngA1_ok (show k ≤ 100000 by omega) (show -1000 ≤ k by omega), e]
    · rw [(sortT_perm rows).length_eq, hz]
theorem v_antichain2 (rows : List (List Int)) (hz : rows.length ≤ 5000) : ∃ ks : List (List Int), m_law_antichain [lt rows] = .ok (tt ks) ∧ (∀ x, x ∈ ks ↔ x ∈ rows ∧ Top rows x) ∧ Asd ks ∧ ks.length ≤ rows.length := by
  show ∃ ks : List (List Int), endR (g_law_antichain [some (.d (lt rows)), none, none, none]) = _ ∧ _
  have key := forGo_inv (i := 2) (g := b_law_antichain_1) (enc := tu) (fun xs ρ => ∃ (kept : List (List Int)) (o2 : Option Sl),
    ρ = [some (.d (lt rows)), some (.own (kept.map tu)), o2, none] ∧ (∀ x ∈ xs, x ∈ rows) ∧ kept.length + xs.length ≤ rows.length ∧ (∀ x ∈ kept, x ∈ rows ∧ Top rows x) ∧ (∀ x ∈ rows, Top rows x → x ∈ kept ∨ x ∈ xs) ∧ Run (fun a b => leT a b = true) kept xs ∧ kept.Nodup) (by
    rintro x xs ρ ⟨kept, o2, rfl, hx, hl, h1, h2, hR, hN⟩
    have hl' : kept.length + (xs.length + 1) ≤ rows.length := by simpa using hl
    have hs : kept.length < sizeLine := line_lt (by omega)
    by_cases hb : x ∉ kept ∧ Top rows x
    · refine ⟨[some (.d (lt rows)), some (.own ((kept ++ [x]).map tu)), some (.d (tu x)), none], ?_, kept ++ [x], _, rfl, fun y hy => hx y (List.mem_cons_of_mem _ hy), by simp; omega, fun y hy => ?_, fun y hy ht => ?_, hR.keep, List.nodup_append.mpr ⟨hN, by simp, fun a ha b hb2 e => hb.1 (by rw [← List.mem_singleton.mp hb2, ← e]; exact ha)⟩⟩
      · obtain ⟨hb1, hb2⟩ := hb
        simp [b_law_antichain_1, v_within, hb1, hs]
        exact top_iff.mp hb2
      · rcases List.mem_append.mp hy with hy | hy
        · exact h1 y hy
        · rw [List.mem_singleton.mp hy]; exact ⟨hx x List.mem_cons_self, hb.2⟩
      · rcases h2 y hy ht with h | h
        · exact .inl (List.mem_append_left _ h)
        · rcases List.mem_cons.mp h with rfl | h
          · exact .inl (by simp)
          · exact .inr h
    · refine ⟨[some (.d (lt rows)), some (.own (kept.map tu)), some (.d (tu x)), none], ?_, kept, _, rfl, fun y hy => hx y (List.mem_cons_of_mem _ hy), by omega, h1, fun y hy ht => ?_, hR.skip, hN⟩
      · by_cases hm : x ∈ kept
        · simp [b_law_antichain_1, v_within, hm]
        · have hn : ¬ Top rows x := fun h => hb ⟨hm, h⟩
          simp [b_law_antichain_1, v_within, hm]
          exact fun h => absurd (top_iff.mpr h) hn
      · rcases h2 y hy ht with h | h
        · exact .inl h
        · rcases List.mem_cons.mp h with rfl | h
          · by_cases hm : y ∈ kept
            · exact .inl hm
            · exact absurd ⟨hm, ht⟩ hb
          · exact .inr h)
  obtain ⟨ρ', e, kept, o2, rfl, _, hl, h1, h2, hR, hN⟩ := key (sortT rows) [some (.d (lt rows)), some (.own []), none, none] ⟨[], none, rfl, fun x hx => mem_sortT.mp hx, by rw [(sortT_perm rows).length_eq]; simp, by simp, fun x hx _ => .inr (mem_sortT.mpr hx), Run.start (sortT_le rows), by simp⟩
  refine ⟨kept, ?_, fun x => ⟨h1 x, fun ⟨a, b⟩ => (h2 x a b).elim (fun h => h) (fun h => by simp at h)⟩, asd_of hR.1 hN, by simpa using hl⟩
  simp [g_law_antichain, e]
end LW
set_option Elab.async false
set_option maxRecDepth 100000
set_option linter.all false
set_option maxHeartbeats 2000000
namespace LW
open PySem PySem.Spec PyProof.Rows L2 PD
theorem longest : ∀ {rows : List (List Int)}, rows ≠ [] → ∃ x ∈ rows, ∀ o ∈ rows, o.length ≤ x.length
  | [], h => absurd rfl h
  | [r], _ => ⟨r, by simp, fun o ho => by rw [List.mem_singleton.mp ho]; exact Nat.le_refl _⟩
  | r :: s :: t, _ => by
    obtain ⟨x, h1, h2⟩ := longest (rows := s :: t) (by simp)
    by_cases e : r.length ≤ x.length
    · exact ⟨x, List.mem_cons_of_mem _ h1, fun o ho => (List.mem_cons.mp ho).elim (fun z => by rw [z]; exact e) (h2 o)⟩
    · exact ⟨r, List.mem_cons_self, fun o ho => (List.mem_cons.mp ho).elim (fun z => by rw [z]; exact Nat.le_refl _) fun z => by have := h2 o z; omega⟩
theorem top_some {n : Int} {rows : List (List Int)} (hr : ∀ r ∈ rows, Asc n r) (h : rows ≠ []) : ∃ x ∈ rows, Top rows x := by
  obtain ⟨x, h1, h2⟩ := longest h
  refine ⟨x, h1, fun o ho e hall => e ?_⟩
  have s := asc_sub (hr x h1).1 (hr o ho).1 hall
  exact s.eq_of_length (Nat.le_antisymm s.length_le (h2 o ho))
end LW
set_option Elab.async false
set_option maxRecDepth 100000
set_option linter.all false
set_option maxHeartbeats 2000000
namespace LW
open PySem PySem.Spec PyProof.Rows L2 PD
def Road (p : Int) (r : List Int) : Prop := ∃ a b : Int, r = [a, b] ∧ (0 ≤ a ∧ a < p) ∧ (0 ≤ b ∧ b < p)
theorem nodup_sub_len {α : Type} [DecidableEq α] : ∀ {l k : List α}, l.Nodup → (∀ x ∈ l, x ∈ k) → l.length ≤ k.length
  | [], k, _, _ => Nat.zero_le _
  | a :: l, k, nd, h => by
    obtain ⟨n1, n2⟩ := List.nodup_cons.mp nd
    have ha := h a List.mem_cons_self
    have ih := nodup_sub_len (k := k.erase a) n2 fun x hx => (List.mem_erase_of_ne (fun e => n1 (by rw [← e]; exact hx))).mpr (h x (List.mem_cons_of_mem _ hx))
    rw [List.length_erase_of_mem ha] at ih
    have := List.length_pos_of_mem ha
    rw [List.length_cons]; omega
/-- one more road: what had the first end's label gets the second end's -/
def joinL (lab : List Int) (r : List Int) : List Int := lab.map fun x => if x = ixv lab (ixv r 0) then ixv lab (ixv r 1) else x
def labs (roads : List (List Int)) (p : Int) (row : List Int) : List Int := row.foldl (fun lab t => joinL lab (ixr roads t)) (rangeI 0 p)
structure Lab (p : Int) (lab : List Int) : Prop where
  len : (lab.length : Int) = p
  bnd : ∀ v ∈ lab, 0 ≤ v ∧ v < p
def nlab (p : Int) (lab : List Int) : Nat := ((rangeI 0 p).filter fun v => decide (v ∈ lab)).length
theorem ixv_map {lab : List Int} {f : Int → Int} {i : Int} (h0 : 0 ≤ i) (h1 : i < (lab.length : Int)) : ixv (lab.map f) i = f (ixv lab i) := by
  have hl : i.toNat < lab.length := by omega
  unfold ixv
  rw [List.getElem?_map, List.getElem?_eq_getElem hl]
  rfl
theorem ixv_range {p i : Int} (h0 : 0 ≤ i) (h1 : i < p) : ixv (rangeI 0 p) i = i := by
  unfold ixv rangeI
  rw [List.getElem?_map, List.getElem?_range (by omega)]
  show 0 + ((i.toNat : Nat) : Int) = i
  omega
theorem mem_ixv {l : List Int} {v : Int} (h : v ∈ l) : ∃ i, 0 ≤ i ∧ i < (l.length : Int) ∧ ixv l i = v := by
  obtain ⟨j, hj, e⟩ := List.getElem_of_mem h
  refine ⟨j, by omega, by omega, ?_⟩
  unfold ixv
  rw [show ((j : Int)).toNat = j by omega, List.getElem?_eq_getElem hj, e]
  rfl
theorem Lab.start {p : Int} (h : 0 ≤ p) : Lab p (rangeI 0 p) := ⟨by rw [rangeI_len]; omega, fun v hv => mem_rangeI.mp hv⟩
theorem Road.at {p : Int} {r : List Int} (h : Road p r) : (0 ≤ ixv r 0 ∧ ixv r 0 < p) ∧ (0 ≤ ixv r 1 ∧ ixv r 1 < p) := by
  obtain ⟨a, b, rfl, ha, hb⟩ := h
  exact ⟨ha, hb⟩
theorem Lab.join {p : Int} {lab r : List Int} (h : Lab p lab) (hr : Road p r) : Lab p (joinL lab r) := by
  refine ⟨by unfold joinL; rw [List.length_map]; exact h.len, fun v hv => ?_⟩
  obtain ⟨x, hx, rfl⟩ := List.mem_map.mp hv
  have hb := hr.at
  split
  · exact h.bnd _ (ixv_mem hb.2.1 (by rw [h.len]; exact hb.2.2))
  · exact h.bnd _ hx
theorem join_at {p : Int} {lab r : List Int} (h : Lab p lab) {i : Int} (h0 : 0 ≤ i) (h1 : i < p) : ixv (joinL lab r) i = if ixv lab i = ixv lab (ixv r 0) then ixv lab (ixv r 1) else ixv lab i := ixv_map h0 (by rw [h.len]; exact h1)
theorem join_ends {p : Int} {lab r : List Int} (h : Lab p lab) (hr : Road p r) : ixv (joinL lab r) (ixv r 0) = ixv (joinL lab r) (ixv r 1) := by
  obtain ⟨⟨a0, a1⟩, b0, b1⟩ := hr.at
  rw [join_at h a0 a1, join_at h b0 b1, if_pos rfl]
  split <;> rfl
theorem join_keep {p : Int} {lab r : List Int} (h : Lab p lab) {i j : Int} (h0 : 0 ≤ i) (h1 : i < p) (j0 : 0 ≤ j) (j1 : j < p) (e : ixv lab i = ixv lab j) : ixv (joinL lab r) i = ixv (joinL lab r) j := by
  rw [join_at h h0 h1, join_at h j0 j1, e]
/-- g tells two points apart that the labels tell apart -/
def Fine (p : Int) (lab g : List Int) : Prop := ∀ i j, 0 ≤ i → i < p → 0 ≤ j → j < p → ixv lab i = ixv lab j → ixv g i = ixv g j
theorem Fine.join {p : Int} {lab r g : List Int} (h : Lab p lab) (hr : Road p r) (f : Fine p lab g) (e : ixv g (ixv r 0) = ixv g (ixv r 1)) : Fine p (joinL lab r) g := by
  obtain ⟨⟨a0, a1⟩, b0, b1⟩ := hr.at
  intro i j i0 i1 j0 j1 q
  rw [join_at h i0 i1, join_at h j0 j1] at q
  by_cases hi : ixv lab i = ixv lab (ixv r 0)
  · rw [if_pos hi] at q
    by_cases hj : ixv lab j = ixv lab (ixv r 0)
    · exact f i j i0 i1 j0 j1 (hi.trans hj.symm)
    · rw [if_neg hj] at q
      exact (f i _ i0 i1 a0 a1 hi).trans (e.trans (f _ j b0 b1 j0 j1 q))
  · rw [if_neg hi] at q
    by_cases hj : ixv lab j = ixv lab (ixv r 0)
    · rw [if_pos hj] at q
      exact (f i _ i0 i1 b0 b1 q).trans (e.symm.trans (f _ j a0 a1 j0 j1 hj.symm))
    · rw [if_neg hj] at q
      exact f i j i0 i1 j0 j1 q
section
variable {roads : List (List Int)} {p : Int}
def RoadsOk (roads : List (List Int)) (p : Int) (row : List Int) : Prop := ∀ t ∈ row, Road p (ixr roads t)
theorem lab_from (hp : 0 ≤ p) : ∀ {row lab : List Int}, Lab p lab → RoadsOk roads p row → Lab p (row.foldl (fun lab t => joinL lab (ixr roads t)) lab)
  | [], lab, h, _ => h
  | t :: row, lab, h, hr => lab_from hp (row := row) (lab := joinL lab (ixr roads t)) (h.join (hr t List.mem_cons_self)) fun u hu => hr u (List.mem_cons_of_mem _ hu)
theorem fine_from {g : List Int} : ∀ {row lab : List Int}, Lab p lab → RoadsOk roads p row → Fine p lab g → (∀ t ∈ row, ixv g (ixv (ixr roads t) 0) = ixv g (ixv (ixr roads t) 1)) → Fine p (row.foldl (fun lab t => joinL lab (ixr roads t)) lab) g
  | [], lab, _, _, f, _ => f
  | t :: row, lab, h, hr, f, e => fine_from (row := row) (lab := joinL lab (ixr roads t)) (h.join (hr t List.mem_cons_self)) (fun u hu => hr u (List.mem_cons_of_mem _ hu)) (f.join h (hr t List.mem_cons_self) (e t List.mem_cons_self)) fun u hu => e u (List.mem_cons_of_mem _ hu)
theorem keep_from {i j : Int} (i0 : 0 ≤ i) (i1 : i < p) (j0 : 0 ≤ j) (j1 : j < p) : ∀ {row lab : List Int}, Lab p lab → RoadsOk roads p row → ixv lab i = ixv lab j → ixv (row.foldl (fun lab t => joinL lab (ixr roads t)) lab) i = ixv (row.foldl (fun lab t => joinL lab (ixr roads t)) lab) j
  | [], lab, _, _, e => e
  | t :: row, lab, h, hr, e => keep_from i0 i1 j0 j1 (row := row) (lab := joinL lab (ixr roads t)) (h.join (hr t List.mem_cons_self)) (fun u hu => hr u (List.mem_cons_of_mem _ hu)) (join_keep h i0 i1 j0 j1 e)
theorem ends_from : ∀ {row lab : List Int}, Lab p lab → RoadsOk roads p row → ∀ t ∈ row, ixv (row.foldl (fun lab t => joinL lab (ixr roads t)) lab) (ixv (ixr roads t) 0) = ixv (row.foldl (fun lab t => joinL lab (ixr roads t)) lab) (ixv (ixr roads t) 1)
  | [], lab, _, _, t, ht => by cases ht
  | s :: row, lab, h, hr, t, ht => by
    have hs := hr s List.mem_cons_self
    rcases List.mem_cons.mp ht with rfl | ht
    · obtain ⟨⟨a0, a1⟩, b0, b1⟩ := hs.at
      exact keep_from a0 a1 b0 b1 (row := row) (lab := joinL lab (ixr roads t)) (h.join hs) (fun u hu => hr u (List.mem_cons_of_mem _ hu)) (join_ends h hs)
    · exact ends_from (row := row) (lab := joinL lab (ixr roads s)) (h.join hs) (fun u hu => hr u (List.mem_cons_of_mem _ hu)) t ht
theorem labs_lab (hp : 0 ≤ p) {row : List Int} (hr : RoadsOk roads p row) : Lab p (labs roads p row) := lab_from hp (Lab.start hp) hr
theorem labs_ends (hp : 0 ≤ p) {row : List Int} (hr : RoadsOk roads p row) {t : Int} (ht : t ∈ row) : ixv (labs roads p row) (ixv (ixr roads t) 0) = ixv (labs roads p row) (ixv (ixr roads t) 1) := ends_from (Lab.start hp) hr t ht
theorem labs_fine (hp : 0 ≤ p) {row g : List Int} (hr : RoadsOk roads p row) (e : ∀ t ∈ row, ixv g (ixv (ixr roads t) 0) = ixv g (ixv (ixr roads t) 1)) : Fine p (labs roads p row) g :=
  fine_from (Lab.start hp) hr (fun i j i0 i1 j0 j1 q => by rw [ixv_range i0 i1, ixv_range j0 j1] at q; rw [q]) e
theorem nlab_le {lab g : List Int} (hg : Lab p g) (hl : Lab p lab) (f : Fine p lab g) : nlab p g ≤ nlab p lab := by
  -- each label of g at one of its points, and the other label there
  have pick : ∀ v : Int, ∃ i : Int, v ∈ g → 0 ≤ i ∧ i < p ∧ ixv g i = v := fun v => by
    by_cases h : v ∈ g
    · obtain ⟨i, a, b, c⟩ := mem_ixv h
      exact ⟨i, fun _ => ⟨a, by rw [← hg.len]; exact b, c⟩⟩
    · exact ⟨0, fun z => absurd z h⟩
  let at_ : Int → Int := fun v => Classical.choose (pick v)
  have hat : ∀ v, v ∈ g → 0 ≤ at_ v ∧ at_ v < p ∧ ixv g (at_ v) = v := fun v => Classical.choose_spec (pick v)
  have key := nodup_sub_len (l := ((rangeI 0 p).filter fun v => decide (v ∈ g)).map fun v => ixv lab (at_ v)) (k := (rangeI 0 p).filter fun v => decide (v ∈ lab)) ?_ ?_
  · rw [List.length_map] at key
    exact key
  · refine List.pairwise_map.mpr ?_
    have nd : ((rangeI 0 p).filter fun v => decide (v ∈ g)).Pairwise (· ≠ ·) := ((rangeI_asc 0 p).imp fun {a b} z e => by omega).filter _
    refine List.Pairwise.imp_of_mem (fun {a b} ha hb ne e => ne ?_) nd
    have ga := hat a (by simpa using (List.mem_filter.mp ha).2)
    have gb := hat b (by simpa using (List.mem_filter.mp hb).2)
    have := f _ _ ga.1 ga.2.1 gb.1 gb.2.1 e
    rw [ga.2.2, gb.2.2] at this
    exact this
  · intro x hx
    obtain ⟨v, hv, rfl⟩ := List.mem_map.mp hx
    have gv := hat v (by simpa using (List.mem_filter.mp hv).2)
    have m : ixv lab (at_ v) ∈ lab := ixv_mem gv.1 (by rw [hl.len]; exact gv.2.1)
    exact List.mem_filter.mpr ⟨mem_rangeI.mpr (hl.bnd _ m), by simpa using m⟩
theorem nlab_join {lab r : List Int} (h : Lab p lab) (hr : Road p r) : nlab p lab = nlab p (joinL lab r) + if ixv lab (ixv r 0) = ixv lab (ixv r 1) then 0 else 1 := by
  obtain ⟨⟨a0, a1⟩, b0, b1⟩ := hr.at
  have mu : ixv lab (ixv r 0) ∈ lab := ixv_mem a0 (by rw [h.len]; exact a1)
  have mv : ixv lab (ixv r 1) ∈ lab := ixv_mem b0 (by rw [h.len]; exact b1)
  have mem : ∀ x, x ∈ joinL lab r ↔ x = ixv lab (ixv r 1) ∨ (x ∈ lab ∧ ¬ x = ixv lab (ixv r 0)) := fun x => by
    unfold joinL
    rw [List.mem_map]
    constructor
    · rintro ⟨y, hy, rfl⟩
      by_cases e : y = ixv lab (ixv r 0)
      · rw [if_pos e]; exact .inl rfl
      · rw [if_neg e]; exact .inr ⟨hy, e⟩
    · rintro (rfl | ⟨hx, ne⟩)
      · exact ⟨_, mu, if_pos rfl⟩
      · exact ⟨x, hx, if_neg ne⟩
  generalize ixv lab (ixv r 0) = u at mu mem
  generalize ixv lab (ixv r 1) = v at mv mem
  unfold nlab
  by_cases e : u = v
  · rw [if_pos e]
    subst e
    have : (fun x => decide (x ∈ lab)) = fun x => decide (x ∈ joinL lab r) := by
      funext x
      refine decide_eq_decide.mpr ?_
      rw [mem]
      constructor
      · intro hx
        by_cases q : x = u
        · exact .inl q
        · exact .inr ⟨hx, q⟩
      · rintro (rfl | ⟨hx, _⟩)
        · exact mv
        · exact hx
    rw [this]; rfl
  · rw [if_neg e]
    -- u is lost
    have hu := h.bnd u mu
    have cnt : ∀ R : List Int, R.Nodup → (R.filter fun x => decide (x ∈ lab)).length = (R.filter fun x => decide (x ∈ joinL lab r)).length + if u ∈ R then 1 else 0 := by
      intro R
      induction R with
      | nil => intro _; rfl
      | cons a R ih =>
        intro nd
        obtain ⟨n1, n2⟩ := List.nodup_cons.mp nd
        have ih := ih n2
        by_cases ha : a = u
        · subst ha
          have c1 : a ∈ lab := mu
          have c2 : ¬ a ∈ joinL lab r := fun z => (mem a).mp z |>.elim e fun q => q.2 rfl
          rw [if_neg n1] at ih
          rw [List.filter_cons_of_pos (by simpa using c1), List.filter_cons_of_neg (by simpa using c2), List.length_cons, ih, if_pos List.mem_cons_self]
        · have c : (a ∈ lab) ↔ a ∈ joinL lab r := by
            rw [mem]
            exact ⟨fun z => .inr ⟨z, ha⟩, fun z => z.elim (fun q => by rw [q]; exact mv) fun q => q.1⟩
          have hm : (u ∈ a :: R) ↔ u ∈ R := ⟨fun z => (List.mem_cons.mp z).resolve_left fun q => ha q.symm, List.mem_cons_of_mem _⟩
          simp only [hm]
          by_cases ca : a ∈ lab
          · rw [List.filter_cons_of_pos (by simpa using ca), List.filter_cons_of_pos (by simpa using c.mp ca), List.length_cons, List.length_cons, ih]; omega
          · rw [List.filter_cons_of_neg (by simpa using ca), List.filter_cons_of_neg (by simpa using fun z => ca (c.mpr z)), ih]
    have := cnt (rangeI 0 p) ((rangeI_asc 0 p).imp fun {a b} z e => by omega)
    rw [if_pos (mem_rangeI.mpr hu)] at this
    exact this
/-- no road of the row joins what is joined already -/
def forB (roads : List (List Int)) : List Int → List Int → Bool
  | [], _ => true
  | t :: row, lab => !decide (ixv lab (ixv (ixr roads t) 0) = ixv lab (ixv (ixr roads t) 1)) && forB roads row (joinL lab (ixr roads t))
theorem forB_count : ∀ {row lab : List Int}, Lab p lab → RoadsOk roads p row → nlab p lab ≤ nlab p (row.foldl (fun lab t => joinL lab (ixr roads t)) lab) + row.length ∧ (forB roads row lab = true ↔ nlab p lab = nlab p (row.foldl (fun lab t => joinL lab (ixr roads t)) lab) + row.length)
  | [], lab, _, _ => ⟨Nat.le_refl _, by simp [forB]⟩
  | t :: row, lab, h, hr => by
    have ht := hr t List.mem_cons_self
    obtain ⟨i1, i2⟩ := forB_count (row := row) (lab := joinL lab (ixr roads t)) (h.join ht) fun u hu => hr u (List.mem_cons_of_mem _ hu)
    have e := nlab_join h ht
    unfold forB
    rw [List.foldl_cons, List.length_cons]
    generalize nlab p (row.foldl (fun lab t => joinL lab (ixr roads t)) (joinL lab (ixr roads t))) = N at i1 i2 ⊢
    by_cases q : ixv lab (ixv (ixr roads t) 0) = ixv lab (ixv (ixr roads t) 1)
    · rw [if_pos q] at e
      refine ⟨by omega, ?_⟩
      rw [decide_eq_true q]
      simp
      omega
    · rw [if_neg q] at e
      refine ⟨by omega, ?_⟩
      rw [decide_eq_false q]
      simp
      rw [i2]
      omega
def forest (roads : List (List Int)) (p : Int) (row : List Int) : Bool := forB roads row (rangeI 0 p)
theorem nlab_start (hp : 0 ≤ p) : nlab p (rangeI 0 p) = p.toNat := by
  unfold nlab
  rw [List.filter_eq_self.mpr (fun v hv => by simpa using hv), rangeI_len]
  simp
theorem forest_iff (hp : 0 ≤ p) {row : List Int} (hr : RoadsOk roads p row) : forest roads p row = true ↔ nlab p (labs roads p row) + row.length = p.toNat := by
  have := (forB_count (Lab.start hp) hr).2
  rw [nlab_start hp] at this
  exact this.trans eq_comm
theorem forest_le (hp : 0 ≤ p) {row : List Int} (hr : RoadsOk roads p row) : p.toNat ≤ nlab p (labs roads p row) + row.length := by
  have := (forB_count (Lab.start hp) hr).1
  rwa [nlab_start hp] at this
/-- the labels of a set of roads, whatever its order -/
theorem nlab_same (hp : 0 ≤ p) {row row' : List Int} (hr : RoadsOk roads p row) (hr' : RoadsOk roads p row') (h : ∀ t, t ∈ row ↔ t ∈ row') : nlab p (labs roads p row) = nlab p (labs roads p row') :=
  Nat.le_antisymm (nlab_le (labs_lab hp hr) (labs_lab hp hr') (labs_fine hp hr' fun t ht => labs_ends hp hr ((h t).mpr ht))) (nlab_le (labs_lab hp hr') (labs_lab hp hr) (labs_fine hp hr fun t ht => labs_ends hp hr' ((h t).mp ht)))
/-- of a greater forest some road goes between what the smaller one leaves apart -/
theorem forest_more (hp : 0 ≤ p) {l o : List Int} (hl : RoadsOk roads p l) (ho : RoadsOk roads p o) (fl : forest roads p l = true) (fo : forest roads p o = true) (h : l.length < o.length) : ∃ t ∈ o, ¬ ixv (labs roads p l) (ixv (ixr roads t) 0) = ixv (labs roads p l) (ixv (ixr roads t) 1) := by
  refine Classical.byContradiction fun z => ?_
  have e : ∀ t ∈ o, ixv (labs roads p l) (ixv (ixr roads t) 0) = ixv (labs roads p l) (ixv (ixr roads t) 1) := fun t ht => Classical.byContradiction fun q => z ⟨t, ht, q⟩
  have := nlab_le (labs_lab hp hl) (labs_lab hp ho) (labs_fine hp ho e)
  have a := (forest_iff hp hl).mp fl
  have b := (forest_iff hp ho).mp fo
  omega
theorem labs_snoc {row : List Int} {t : Int} : labs roads p (row ++ [t]) = joinL (labs roads p row) (ixr roads t) := by
  unfold labs
  rw [List.foldl_append]
  rfl
theorem forest_snoc (hp : 0 ≤ p) {row : List Int} {t : Int} (hr : RoadsOk roads p row) (ht : Road p (ixr roads t)) : forest roads p (row ++ [t]) = true ↔ forest roads p row = true ∧ ¬ ixv (labs roads p row) (ixv (ixr roads t) 0) = ixv (labs roads p row) (ixv (ixr roads t) 1) := by
  have hr2 : RoadsOk roads p (row ++ [t]) := fun u hu => (List.mem_append.mp hu).elim (hr u) fun z => by rw [List.mem_singleton.mp z]; exact ht
  rw [forest_iff hp hr2, forest_iff hp hr, labs_snoc, List.length_append, List.length_singleton]
  have e := nlab_join (labs_lab hp hr) ht
  have le := forest_le hp hr
  have le2 := forest_le hp hr2
  rw [labs_snoc, List.length_append, List.length_singleton] at le2
  by_cases q : ixv (labs roads p row) (ixv (ixr roads t) 0) = ixv (labs roads p row) (ixv (ixr roads t) 1)
  · rw [if_pos q] at e
    constructor
    · intro z; omega
    · exact fun z => absurd q z.2
  · rw [if_neg q] at e
    constructor
    · exact fun z => ⟨by omega, q⟩
    · intro z; omega
theorem forest_perm (hp : 0 ≤ p) {row row' : List Int} (hr : RoadsOk roads p row) (q : row.Perm row') : forest roads p row = forest roads p row' := by
  have hr' : RoadsOk roads p row' := fun t ht => hr t (q.mem_iff.mpr ht)
  rw [Bool.eq_iff_iff, forest_iff hp hr, forest_iff hp hr', nlab_same hp hr hr' fun t => q.mem_iff, q.length_eq]
/-- without a road a forest stays one -/
theorem forest_less (hp : 0 ≤ p) {row : List Int} {x : Int} (hr : RoadsOk roads p row) (nd : row.Nodup) (hx : x ∈ row) (f : forest roads p row = true) : forest roads p (row.filter fun y => !(y == x)) = true := by
  have q : row.Perm ((row.filter fun y => !(y == x)) ++ [x]) := by
    refine (List.perm_ext_iff_of_nodup nd ?_).mpr fun y => ?_
    · rw [List.nodup_append]
      refine ⟨nd.filter _, by simp, fun a ha b hb e => ?_⟩
      rw [List.mem_singleton.mp hb] at e
      have := (List.mem_filter.mp ha).2
      simp [e] at this
    · rw [List.mem_append, List.mem_filter, List.mem_singleton]
      constructor
      · intro hy
        by_cases e : y = x
        · exact .inr e
        · exact .inl ⟨hy, by simpa using e⟩
      · rintro (z | z)
        · exact z.1
        · rw [z]; exact hx
  rw [forest_perm hp hr q] at f
  have hr2 : RoadsOk roads p (row.filter fun y => !(y == x)) := fun t ht => hr t (List.mem_filter.mp ht).1
  exact ((forest_snoc hp hr2 (hr x hx)).mp f).1
/-- the exchange of roads between two forests of one size -/
theorem forest_exc (hp : 0 ≤ p) {n : Int} {l o : List Int} {x : Int} (la : Asc n l) (oa : Asc n o) (hl : RoadsOk roads p l) (ho : RoadsOk roads p o) (fl : forest roads p l = true) (fo : forest roads p o = true) (e : l.length = o.length) (hx : x ∈ l) (nx : ¬ x ∈ o) :
    ∃ t ∈ o, ¬ t ∈ l ∧ forest roads p (exch l x t) = true := by
  have nd := la.nodup
  have hr2 : RoadsOk roads p (l.filter fun y => !(y == x)) := fun t ht => hl t (List.mem_filter.mp ht).1
  have f2 := forest_less hp hl nd hx fl
  have lt : (l.filter fun y => !(y == x)).length < o.length := by
    have s : (l.filter fun y => !(y == x)).length < l.length := by
      refine Nat.lt_of_le_of_ne (List.length_filter_le _ _) fun z => ?_
      have := List.filter_sublist.eq_of_length z
      rw [List.filter_eq_self] at this
      have := this x hx
      simp at this
    omega
  obtain ⟨t, ht, ne⟩ := forest_more hp hr2 ho f2 fo lt
  have ntl : ¬ t ∈ l := fun z => by
    have tx : ¬ t = x := fun q => nx (by rw [← q]; exact ht)
    exact ne (labs_ends hp hr2 (List.mem_filter.mpr ⟨z, by simpa using tx⟩))
  refine ⟨t, ht, ntl, ?_⟩
  have q : (exch l x t).Perm ((l.filter fun y => !(y == x)) ++ [t]) := (sortD_ints _).2
  have hr3 : RoadsOk roads p ((l.filter fun y => !(y == x)) ++ [t]) := fun u hu => (List.mem_append.mp hu).elim (hr2 u) fun z => by rw [List.mem_singleton.mp z]; exact ho t ht
  rw [← forest_perm hp hr3 q.symm]
  exact (forest_snoc hp hr2 (ho t ht)).mpr ⟨f2, ne⟩
end
end LW
set_option Elab.async false
set_option maxRecDepth 100000
set_option linter.all false
set_option maxHeartbeats 2000000
namespace LW
open PySem PySem.Spec PyProof.Rows L2 PD
theorem v_rest_of (row : List Int) (n : Int) (h0 : 0 ≤ n) (h1 : n ≤ 1000) : m_law_rest_of [tu row, .int n] = .ok (tu ((rangeI 0 n).filter fun x => !decide (x ∈ row))) := by
  show endR (g_law_rest_of [some (.d (tu row)), some (.d (.int n)), none]) = _
  simp [g_law_rest_of, rngA1_ok (show n ≤ 100000 by omega) (show -1000 ≤ n by omega)]
theorem v_bounded3 (L : List Int) (n : Int) (h0 : 0 ≤ n) (h1 : n ≤ 9) (hL : (L.length : Int) = 3 + n) : ∃ ks : List (List Int), m_law_bounded_lots [li L, .int n] = .ok (tt ks) ∧ Smooth n ks := by
  show ∃ ks : List (List Int), endR (g_law_bounded_lots [some (.d (li L)), some (.d (.int n)), none, none, none, none, none, none, none, none]) = _ ∧ _
  obtain ⟨rows, e2, hr, hz2, hs⟩ := v_parts2 n h0 (by omega)
  have hz : rows.length ≤ 512 := by
    rw [hz2]
    have hp : 2 ^ n.toNat ≤ 2 ^ 9 := Nat.pow_le_pow_right (by decide) (by omega)
    omega
  have e31 := ix_li (L := L) (i := 1) (by decide) (by omega)
  have e32 := ix_li (L := L) (i := 2) (by decide) (by omega)
  generalize hcl : (rangeI 0 n).map (fun k => (ixv L (3 + k)).fmod 3) = cl
  have lcl : (cl.length : Int) = n := by rw [← hcl, List.length_map, rangeI_len]; omega
  generalize hb0 : 1 + (ixv L 2).fmod 2 = B0
  generalize hb1 : 1 + ((ixv L 2).fdiv 2).fmod 2 = B1
  generalize hb2 : ((ixv L 2).fdiv 4).fmod 3 = B2
  have er := rngA1_ok (n := n) (by omega) (by omega)
  have er3 := rngA1_ok (n := 3) (by decide) (by decide)
  let fit : List Int → Bool := fun row => (rangeI 0 3).all fun k => decide (((row.filter fun x => ixv cl x == k).length : Int) ≤ ixv [B0, B1, B2] k)
  have key := forGo_inv (i := 5) (g := b_law_bounded_lots_1) (enc := tu) (fun xs ρ => ∃ (kept : List (List Int)) (o6 : Option Sl), ρ = [some (.d (li L)), some (.d (.int n)), some (.d (li cl)), some (.d (li [B0, B1, B2])), some (.own (kept.map tu)), o6, none, none, none, none] ∧
      (∀ x ∈ xs, Asc n x) ∧ kept.length + xs.length ≤ 512 ∧ (∀ x ∈ kept, Asc n x ∧ fit x = true) ∧ (∀ r, Asc n r → fit r = true → r ∈ kept ∨ r ∈ xs) ∧ Run (fun a b => HT.lexLt a b = true) kept xs) (by
    rintro x xs ρ ⟨kept, o6, rfl, hx, hl, hk, hf, hR⟩
    have hl' : kept.length + (xs.length + 1) ≤ 512 := by simpa using hl
    have hs : kept.length < sizeLine := line_lt (by omega)
    have hxa := hx x List.mem_cons_self
    have et : lcR (fun _ => R.ok true) (fun k : Int => m_law_count [tu x, li cl, .int k] >>= fun a => oIx (li [B0, B1, B2]) (.int k) >>= fun b => oLe a b) (rangeI 0 3) = .ok ((rangeI 0 3).map fun k => PyData.bool (decide (((x.filter fun y => ixv cl y == k).length : Int) ≤ ixv [B0, B1, B2] k))) := lcR_mem fun k hk => by
      obtain ⟨k1, k2⟩ := mem_rangeI.mp hk
      simp [v_count x cl k (fun y hy => by have := hxa.2 y hy; omega), ix_li (L := [B0, B1, B2]) (i := k) k1 (by simpa using k2)]
    by_cases hb : fit x = true
    · refine ⟨[some (.d (li L)), some (.d (.int n)), some (.d (li cl)), some (.d (li [B0, B1, B2])), some (.own ((kept ++ [x]).map tu)), some (.d (tu x)), none, none, none, none], ?_, kept ++ [x], _, rfl, fun y hy => hx y (List.mem_cons_of_mem _ hy), by simp; omega, fun y hy => ?_, fun r ha hr => ?_, hR.keep⟩
      · have hb' : ∀ k ∈ rangeI 0 3, ((x.filter fun y => ixv cl y == k).length : Int) ≤ ixv [B0, B1, B2] k := by simpa [fit] using hb
        simp [b_law_bounded_lots_1, er3, et, hs]
        exact hb'
      · rcases List.mem_append.mp hy with hy | hy
        · exact hk y hy
        · rw [List.mem_singleton.mp hy]; exact ⟨hxa, hb⟩
      · rcases hf r ha hr with h | h
        · exact .inl (List.mem_append_left _ h)
        · rcases List.mem_cons.mp h with rfl | h
          · exact .inl (by simp)
          · exact .inr h
    · refine ⟨[some (.d (li L)), some (.d (.int n)), some (.d (li cl)), some (.d (li [B0, B1, B2])), some (.own (kept.map tu)), some (.d (tu x)), none, none, none, none], ?_, kept, _, rfl, fun y hy => hx y (List.mem_cons_of_mem _ hy), by omega, hk, fun r ha hr => ?_, hR.skip⟩
      rotate_left
      · rcases hf r ha hr with h | h
        · exact .inl h
        · rcases List.mem_cons.mp h with rfl | h
          · exact absurd hr hb
          · exact .inr h
      have hb' : ¬ ∀ k ∈ rangeI 0 3, ((x.filter fun y => ixv cl y == k).length : Int) ≤ ixv [B0, B1, B2] k := fun h => hb (by simpa [fit] using h)
      simp [b_law_bounded_lots_1, er3, et, hs]
      refine Classical.byContradiction fun hc => hb' fun k hk2 => ?_
      exact Classical.byContradiction fun hn => hc ⟨k, hk2, by omega⟩)
  obtain ⟨ρ', e, kept, o6, rfl, _, hl, hk, hf, hR⟩ := key rows [some (.d (li L)), some (.d (.int n)), some (.d (li cl)), some (.d (li [B0, B1, B2])), some (.own []), none, none, none, none, none]
    ⟨[], none, rfl, fun x hx => (hr x).mp hx, by simpa using hz, by simp, fun r ha _ => .inr ((hr r).mpr ha), Run.start hs⟩
  have hB0 : 0 ≤ B0 := by have := fmod_lo (ixv L 2) (b := 2) (by decide); omega
  have hB1 : 0 ≤ B1 := by have := fmod_lo ((ixv L 2).fdiv 2) (b := 2) (by decide); omega
  have hB2 : 0 ≤ B2 := by have := fmod_lo ((ixv L 2).fdiv 4) (b := 3) (by decide); omega
  have fit0 : fit [] = true := by
    show ((rangeI 0 3).all fun k => decide (((([] : List Int).filter fun x => ixv cl x == k).length : Int) ≤ ixv [B0, B1, B2] k)) = true
    rw [List.all_eq_true]
    intro k hk2
    obtain ⟨k1, k2⟩ := mem_rangeI.mp hk2
    have this : ixv [B0, B1, B2] k ∈ [B0, B1, B2] := ixv_mem k1 (by simpa using k2)
    simp only [List.mem_cons, List.not_mem_nil, or_false] at this
    refine decide_eq_true ?_
    show (0 : Int) ≤ _
    rcases this with h | h | h <;> omega
  have hne : kept ≠ [] := fun z => by
    rcases hf [] (Asc.nil n) fit0 with h | h
    · rw [z] at h; cases h
    · cases h
  have hmx := bMax_li (l := kept.map fun r => (r.length : Int)) (by simpa using hne)
  have hmem := maxI_mem (ns := kept.map fun r => (r.length : Int)) (List.length_pos_iff.mpr (by simpa using hne))
  generalize hM : maxI (kept.map fun r => (r.length : Int)) = M at hmx hmem
  have f8a := fmod_lo (ixv L 1) (b := 8) (by decide)
  have f8b := fmod_hi (ixv L 1) (b := 8) (by decide)
  have e8 := ix_tu (L := [2, 1, 2, 3, 1, 2, 0, 3]) (i := (ixv L 1).fmod 8) f8a (by simpa using f8b)
  have m8 : ixv [2, 1, 2, 3, 1, 2, 0, 3] ((ixv L 1).fmod 8) ∈ [2, 1, 2, 3, 1, 2, 0, 3] := ixv_mem f8a (by simpa using f8b)
  generalize ixv [2, 1, 2, 3, 1, 2, 0, 3] ((ixv L 1).fmod 8) = T at e8 m8
  have hT : 0 ≤ T := by
    simp only [List.mem_cons, List.not_mem_nil, or_false] at m8
    omega
  generalize hC : (if T < M then T else M) = C
  obtain ⟨r0, hr0, hr0M⟩ := List.mem_map.mp hmem
  have hC0 : 0 ≤ C ∧ C ≤ r0.length := by
    have hM0 : (r0.length : Int) = M := hr0M
    split at hC <;> omega
  have hfit : ∀ r : List Int, fit r = true ↔ Fit (fun x => ixv cl x) (fun k => ixv [B0, B1, B2] k) r := fun r => by
    show ((rangeI 0 3).all fun k => decide (((r.filter fun x => ixv cl x == k).length : Int) ≤ ixv [B0, B1, B2] k)) = true ↔ _
    rw [List.all_eq_true]
    constructor
    · intro z k k0 k1
      exact of_decide_eq_true (z k (mem_rangeI.mpr ⟨k0, k1⟩))
    · intro z k hk
      exact decide_eq_true (z k (mem_rangeI.mp hk).1 (mem_rangeI.mp hk).2)
  have hcr : ∀ x, 0 ≤ x → x < n → 0 ≤ ixv cl x ∧ ixv cl x < 3 := fun x x0 x1 => by
    have m : ixv cl x ∈ cl := ixv_mem x0 (by omega)
    generalize ixv cl x = u at m ⊢
    rw [← hcl] at m
    obtain ⟨k, _, rfl⟩ := List.mem_map.mp m
    exact ⟨fmod_lo _ (by decide), fmod_hi _ (by decide)⟩
  have mem : ∀ r, r ∈ (kept.filter fun r => (r.length : Int) == C) ↔ Asc n r ∧ fit r = true ∧ (r.length : Int) = C := fun r => by
    rw [List.mem_filter]
    constructor
    · rintro ⟨a, b⟩
      exact ⟨(hk r a).1, (hk r a).2, by simpa using b⟩
    · rintro ⟨a, b, d⟩
      exact ⟨(hf r a b).elim id (fun z => by cases z), by simpa using d⟩
  refine ⟨kept.filter fun r => (r.length : Int) == C, ?_, ⟨fun l hl => ((mem l).mp hl).1, (hR.1 : Asd kept).filter _, fun z => ?_, ?_⟩, fun l hl x hx o ho nx => ?_, fun l hl k hk2 => ?_⟩
  · simp [g_law_bounded_lots, er]
    rw [lcR_mem (g := fun k => PyData.int ((ixv L (3 + k)).fmod 3))]
    · simp [e2, e31, e32, hcl, oMod_int, oDiv_lit, hb0, hb1, hb2, e, hmx, e8, hC]
    · intro k hk3
      obtain ⟨k1, k2⟩ := mem_rangeI.mp hk3
      simp [ix_li (L := L) (i := 3 + k) (by omega) (by omega), oMod_int]
  · obtain ⟨ha0, hf0⟩ := hk r0 hr0
    have : r0.take C.toNat ∈ (kept.filter fun r => (r.length : Int) == C) := (mem _).mpr ⟨asc_take ha0 _, (hfit _).mpr (fit_take ((hfit _).mp hf0) _), by rw [List.length_take]; omega⟩
    rw [z] at this
    cases this
  · have a := List.length_filter_le (fun r : List Int => (r.length : Int) == C) kept
    have : kept.length ≤ 512 := by simpa using hl
    omega
  · obtain ⟨la, lf, ll⟩ := (mem l).mp hl
    obtain ⟨oa, of, ol⟩ := (mem o).mp ho
    obtain ⟨t, t1, t2, t3, t4, t5⟩ := fit_exc hcr la oa ((hfit l).mp lf) ((hfit o).mp of) (by omega) hx nx
    exact ⟨t, t1, t2, (mem _).mpr ⟨t3, (hfit _).mpr t4, by rw [t5]; exact ll⟩⟩
  · have a := ((mem l).mp hl).2.2
    have b := ((mem k).mp hk2).2.2
    omega
theorem tu_2 (a b : Int) : PyData.tuple [.int a, .int b] = tu [a, b] := rfl
theorem oIx_2a (a b : Int) : oIx (tu [a, b]) (.int 0) = .ok (.int a) := rfl
theorem oIx_2b (a b : Int) : oIx (tu [a, b]) (.int 1) = .ok (.int b) := rfl
theorem v_forest3 (row : List Int) (roads : List (List Int)) (p : Int) (hp : 0 ≤ p ∧ p ≤ 12) (hr : ∀ t ∈ row, 0 ≤ t ∧ t < (roads.length : Int) ∧ Road p (ixr roads t)) : m_law_is_forest [tu row, lt roads, .int p] = .ok (.bool (forest roads p row)) := by
  show endR (g_law_is_forest [some (.d (tu row)), some (.d (lt roads)), some (.d (.int p)), none, none, none, none, none]) = _
  have key : ∀ (xs lab : List Int) (o4 o5 o6 : Option Sl), Lab p lab → (∀ t ∈ xs, 0 ≤ t ∧ t < (roads.length : Int) ∧ Road p (ixr roads t)) →
      forGo (.nm 4) b_law_is_forest_1 (xs.map .int) [some (.d (tu row)), some (.d (lt roads)), some (.d (.int p)), some (.d (li lab)), o4, o5, o6, none] = (if forB roads xs lab = true then forGo (.nm 4) b_law_is_forest_1 (xs.map .int) [some (.d (tu row)), some (.d (lt roads)), some (.d (.int p)), some (.d (li lab)), o4, o5, o6, none] else .rt (.bool false)) ∧
      (forB roads xs lab = true → ∃ ρ', forGo (.nm 4) b_law_is_forest_1 (xs.map .int) [some (.d (tu row)), some (.d (lt roads)), some (.d (.int p)), some (.d (li lab)), o4, o5, o6, none] = .nx ρ') := by
    intro xs
    induction xs with
    | nil => intro lab o4 o5 o6 _ _; exact ⟨by simp [forB], fun _ => ⟨_, rfl⟩⟩
    | cons t xs ih =>
      intro lab o4 o5 o6 hL ht
      obtain ⟨t0, t1, rd⟩ := ht t List.mem_cons_self
      obtain ⟨a, b, hab, ha, hb⟩ := rd
      have er := ix_lt t0 t1
      have j1 : joinL lab (ixr roads t) = lab.map fun x => if x = ixv lab a then ixv lab b else x := by rw [hab]; rfl
      have LJ := hL.join ⟨a, b, hab, ha, hb⟩
      rw [j1] at LJ
      have fb : forB roads (t :: xs) lab = (!decide (ixv lab a = ixv lab b) && forB roads xs (lab.map fun x => if x = ixv lab a then ixv lab b else x)) := by
        show (!decide (ixv lab (ixv (ixr roads t) 0) = ixv lab (ixv (ixr roads t) 1)) && forB roads xs (joinL lab (ixr roads t))) = _
        rw [j1, hab]
        rfl
      rw [hab] at er
      have ea := ix_li (L := lab) (i := a) ha.1 (by rw [hL.len]; exact ha.2)
      have eb := ix_li (L := lab) (i := b) hb.1 (by rw [hL.len]; exact hb.2)
      rw [fb]
      by_cases e : ixv lab a = ixv lab b
      · have : forGo (.nm 4) b_law_is_forest_1 ((t :: xs).map PyData.int) [some (.d (tu row)), some (.d (lt roads)), some (.d (.int p)), some (.d (li lab)), o4, o5, o6, none] = .rt (.bool false) := by
          simp [forGo, b_law_is_forest_1, er, oIx_2a, oIx_2b, ea, eb, e]
        rw [this]
        simp [e]
      · have st : forGo (.nm 4) b_law_is_forest_1 ((t :: xs).map PyData.int) [some (.d (tu row)), some (.d (lt roads)), some (.d (.int p)), some (.d (li lab)), o4, o5, o6, none] = forGo (.nm 4) b_law_is_forest_1 (xs.map PyData.int) [some (.d (tu row)), some (.d (lt roads)), some (.d (.int p)), some (.d (li (lab.map fun x => if x = ixv lab a then ixv lab b else x))), some (.d (.int t)), some (.d (.int (ixv lab a))), some (.d (.int (ixv lab b))), none] := by
          simp [forGo, b_law_is_forest_1, er, oIx_2a, oIx_2b, ea, eb, e]
        rw [st]
        obtain ⟨i1, i2⟩ := ih (lab.map fun x => if x = ixv lab a then ixv lab b else x) (some (.d (.int t))) (some (.d (.int (ixv lab a)))) (some (.d (.int (ixv lab b)))) LJ fun u hu => ht u (List.mem_cons_of_mem _ hu)
        rw [decide_eq_false e]
        simp only [Bool.not_false, Bool.true_and]
        exact ⟨i1, i2⟩
  obtain ⟨k1, k2⟩ := key row (rangeI 0 p) none none none (Lab.start hp.1) hr
  unfold forest
  by_cases hb : forB roads row (rangeI 0 p) = true
  · obtain ⟨ρ', e⟩ := k2 hb
    rw [hb]
    simp [g_law_is_forest, bLstR1_ok (rgOk_small (n := p) (by omega) (by omega)), e]
  · rw [if_neg hb] at k1
    rw [Bool.eq_false_iff.mpr hb]
    simp [g_law_is_forest, bLstR1_ok (rgOk_small (n := p) (by omega) (by omega)), k1]
theorem v_forest_lots3 (L : List Int) (n : Int) (h0 : 0 ≤ n) (h1 : n ≤ 9) (hL : 2 + n ≤ (L.length : Int)) : ∃ ks : List (List Int), m_law_forest_lots [li L, .int n] = .ok (tt ks) ∧ Smooth n ks := by
  show ∃ ks : List (List Int), endR (g_law_forest_lots [some (.d (li L)), some (.d (.int n)), none, none, none, none, none, none, none]) = _ ∧ _
  obtain ⟨rows, e2, hr, hz2, hs⟩ := v_parts2 n h0 (by omega)
  have hz : rows.length ≤ 512 := by
    rw [hz2]
    have hp : 2 ^ n.toNat ≤ 2 ^ 9 := Nat.pow_le_pow_right (by decide) (by omega)
    omega
  have e31 := ix_li (L := L) (i := 1) (by decide) (by omega)
  have f3a := fmod_lo (ixv L 1) (b := 3) (by decide)
  have f3b := fmod_hi (ixv L 1) (b := 3) (by decide)
  generalize hp : 2 + (ixv L 1).fmod 3 = p
  have p2 : 2 ≤ p ∧ p ≤ 4 := by omega
  have p0 : p ≠ 0 := by omega
  have p1 : p.natAbs < 1073741824 := by omega
  have key := forGo_inv (i := 4) (g := b_law_forest_lots_1) (enc := PyData.int) (fun xs ρ => ∃ (k : Int) (roads : List (List Int)) (o4 o5 : Option Sl), ρ = [some (.d (li L)), some (.d (.int n)), some (.d (.int p)), some (.own (roads.map tu)), o4, o5, none, none, none] ∧ xs = rangeI k n ∧ 0 ≤ k ∧ k ≤ n ∧ (roads.length : Int) = k ∧ ∀ r ∈ roads, Road p r) (by
    rintro x xs ρ ⟨k, roads, o4, o5, rfl, hx, k0, k1, hl, hR⟩
    obtain ⟨hk1, rfl, rfl⟩ := rangeI_inv hx
    have hs : roads.length < sizeLine := line_lt (by omega)
    have ex := ix_li (L := L) (i := 2 + x) (by omega) (by omega)
    refine ⟨[some (.d (li L)), some (.d (.int n)), some (.d (.int p)), some (.own ((roads ++ [[(ixv L (2 + x)).fmod p, ((ixv L (2 + x)).fdiv p).fmod p]]).map tu)), some (.d (.int x)), some (.d (.int (ixv L (2 + x)))), none, none, none], ?_, x + 1, _, _, _, rfl, rfl, by omega, by omega, by simp; omega, fun r hr => ?_⟩
    · simp [b_law_forest_lots_1, ex, oMod_int p0, oDiv_lit p0 p1, hs, tu_2]
    · rcases List.mem_append.mp hr with hr | hr
      · exact hR r hr
      · rw [List.mem_singleton.mp hr]
        exact ⟨_, _, rfl, ⟨fmod_lo _ (by omega), fmod_hi _ (by omega)⟩, fmod_lo _ (by omega), fmod_hi _ (by omega)⟩)
  obtain ⟨ρ', e, k, roads, o4, o5, rfl, hx, k0, k1, hl, hR⟩ := key (rangeI 0 n) [some (.d (li L)), some (.d (.int n)), some (.d (.int p)), some (.own []), none, none, none, none, none] ⟨0, [], none, none, rfl, rfl, by omega, h0, rfl, by simp⟩
  have ek : k = n := by
    by_cases h : k < n
    · rw [rangeI_cons h] at hx; cases hx
    · omega
  subst ek
  have rok : ∀ r, Asc k r → ∀ t ∈ r, 0 ≤ t ∧ t < (roads.length : Int) ∧ Road p (ixr roads t) := fun r ha t ht => by
    have := ha.2 t ht
    exact ⟨this.1, by omega, hR _ (ixr_mem this.1 (by omega))⟩
  have ef : ∀ r ∈ rows, m_law_is_forest [tu r, lt roads, .int p] = .ok (.bool (forest roads p r)) := fun r hr2 => v_forest3 r roads p ⟨by omega, by omega⟩ (rok r ((hr r).mp hr2))
  have f0 : forest roads p [] = true := rfl
  have er := rngA1_ok (n := k) (by omega) (by omega)
  have e5 : lcR (fun r : List Int => m_law_is_forest [tu r, lt roads, .int p] >>= asB) (fun r => R.ok (tu r)) rows = .ok ((rows.filter (forest roads p)).map tu) := lcR_of fun r hr2 => ⟨by rw [ef r hr2]; rfl, fun _ => rfl⟩
  have hne : rows.filter (forest roads p) ≠ [] := fun z => by
    have : [] ∈ rows.filter (forest roads p) := List.mem_filter.mpr ⟨(hr []).mpr (Asc.nil k), f0⟩
    rw [z] at this; cases this
  generalize hF : rows.filter (forest roads p) = F at e5 hne
  have hFr : ∀ r, r ∈ F ↔ Asc k r ∧ forest roads p r = true := fun r => by rw [← hF, List.mem_filter, hr]
  have hFl : F.length ≤ 512 := by rw [← hF]; exact Nat.le_trans (List.length_filter_le _ _) hz
  have hFs : Asd F := by rw [← hF]; exact (hs : Asd rows).filter _
  have hmx := bMax_li (l := F.map fun r => (r.length : Int)) (by simpa using hne)
  have hmem := maxI_mem (ns := F.map fun r => (r.length : Int)) (List.length_pos_iff.mpr (by simpa using hne))
  have hup : ∀ r, r ∈ F → (r.length : Int) ≤ maxI (F.map fun r => (r.length : Int)) := fun r h => le_maxI (List.mem_map.mpr ⟨r, h, rfl⟩)
  generalize hM : maxI (F.map fun r => (r.length : Int)) = M at hmx hmem hup
  have mem : ∀ r, r ∈ (F.filter fun r => (r.length : Int) == M) ↔ (Asc k r ∧ forest roads p r = true) ∧ (r.length : Int) = M := fun r => by rw [List.mem_filter, hFr]; simp
  refine ⟨F.filter fun r => (r.length : Int) == M, ?_, ⟨fun l hl => ((mem l).mp hl).1.1, hFs.filter _, fun z => ?_, ?_⟩, fun l hl x hx o ho nx => ?_, fun l hl q hq => ?_⟩
  · simp [g_law_forest_lots, e31, oMod_int, hp, er, e, e2, e5, hmx]
  · obtain ⟨r0, h3, h4⟩ := List.mem_map.mp hmem
    have : r0 ∈ F.filter fun r => (r.length : Int) == M := List.mem_filter.mpr ⟨h3, by rw [beq_iff_eq]; exact h4⟩
    rw [z] at this; cases this
  · have := List.length_filter_le (fun r : List Int => (r.length : Int) == M) F
    omega
  · obtain ⟨⟨la, lf⟩, ll⟩ := (mem l).mp hl
    obtain ⟨⟨oa, of⟩, ol⟩ := (mem o).mp ho
    obtain ⟨t, t1, t2, t3⟩ := forest_exc (p := p) (by omega) la oa (fun t ht => (rok l la t ht).2.2) (fun t ht => (rok o oa t ht).2.2) lf of (by omega) hx nx
    exact ⟨t, t1, t2, (mem _).mpr ⟨⟨exch_asc la t2 (oa.2 t t1), t3⟩, by rw [exch_len la.nodup hx]; exact ll⟩⟩
  · have a := ((mem l).mp hl).2
    have b := ((mem q).mp hq).2
    omega
theorem v_smooth3 (c n : Int) (h0 : 0 ≤ n) (h1 : n ≤ 9) : ∃ ks : List (List Int), m_law_smooth_lots_k03 [.int c, .int n] = .ok (tt ks) ∧ Smooth n ks := by
  show ∃ ks : List (List Int), endR (g_law_smooth_lots_k03 [some (.d (.int c)), some (.d (.int n)), none, none, none, none]) = _ ∧ _
  obtain ⟨L, e1, hL, bL⟩ := v_draws c (3 + n) (by omega) (by omega)
  have hLn : (L.length : Int) = 3 + n := by rw [hL]; omega
  have e30 := ix_li (L := L) (i := 0) (by decide) (by omega)
  have hrest : ∀ ls : List (List Int), lcR (fun _ => R.ok true) (fun l => m_law_rest_of [tu l, .int n]) ls = .ok (ls.map fun l => tu ((rangeI 0 n).filter fun x => !decide (x ∈ l))) := fun ls => lcR_mem fun l _ => v_rest_of l n h0 (by omega)
  generalize hk : (ixv L 0).fmod 6 = k
  have any : ∀ d : PyData, ∀ ks : List (List Int), d = tt ks → Smooth n ks → (k < 4 → m_law_bounded_lots [li L, .int n] = .ok d) → (¬ k < 4 → m_law_forest_lots [li L, .int n] = .ok d) →
      ∃ ks : List (List Int), endR (g_law_smooth_lots_k03 [some (.d (.int c)), some (.d (.int n)), none, none, none, none]) = .ok (tt ks) ∧ Smooth n ks := by
    rintro d ks rfl hs hb hf
    by_cases h35 : k = 3 ∨ k = 5
    · refine ⟨sortT (ks.map fun l => (rangeI 0 n).filter fun x => !decide (x ∈ l)), ?_, hs.opp⟩
      · by_cases h4 : k < 4
        · have h : k = 3 := by omega
          simp [g_law_smooth_lots_k03, e1, e30, oMod_int, hk, hb h4, h, hrest]
        · have h : k = 5 := by omega
          simp [g_law_smooth_lots_k03, e1, e30, oMod_int, hk, hf h4, h, hrest]
    · refine ⟨ks, ?_, hs⟩
      have n3 : ¬ k = 3 := fun h => h35 (.inl h)
      have n5 : ¬ k = 5 := fun h => h35 (.inr h)
      by_cases h4 : k < 4
      · simp [g_law_smooth_lots_k03, e1, e30, oMod_int, hk, h4, hb h4, n3, n5]
      · simp [g_law_smooth_lots_k03, e1, e30, oMod_int, hk, h4, hf h4, n3, n5]
  by_cases h4 : k < 4
  · obtain ⟨ks, q1, q2⟩ := v_bounded3 L n h0 h1 hLn
    exact any _ ks rfl q2 (fun _ => q1) fun h => absurd h4 h
  · obtain ⟨ks, q1, q2⟩ := v_forest_lots3 L n h0 h1 (by omega)
    exact any _ ks rfl q2 (fun h => absurd h h4) fun _ => q1
end LW
set_option Elab.async false
set_option maxRecDepth 100000
set_option linter.all false
set_option maxHeartbeats 2000000
namespace LW
open PySem PySem.Spec PyProof.Rows L2 PD
theorem lcGo_of {α : Type} {enc : α → PyData} {t : Tg} {ft : DnB} {fe : Dn} {ρ : Rho} {st : α → Rho} {q : α → Bool} {g : α → PyData} : ∀ {xs : List α}, (∀ x ∈ xs, t.set (enc x) ρ = some (st x) ∧ ft (st x) = .ok (q x) ∧ (q x = true → fe (st x) = .ok (g x))) → lcGo t ft fe ρ (xs.map enc) = .ok ((xs.filter q).map g)
  | [], _ => rfl
  | x :: xs, h => by
    obtain ⟨h1, h2, h3⟩ := h x List.mem_cons_self
    have ih := lcGo_of (xs := xs) fun y hy => h y (List.mem_cons_of_mem _ hy)
    rw [List.map_cons]
    unfold lcGo
    rw [h1]
    dsimp only
    rw [h2, nx_ok', ih]
    cases e : q x with
    | false => simp [e]
    | true => rw [h3 e]; simp [e]
theorem lc_of {α : Type} {enc : α → PyData} {fi : DnL} {t : Tg} {ft : DnB} {fe : Dn} {vs : List Nat} {ρ : Rho} {xs : List α} {st : α → Rho} {q : α → Bool} {g : α → PyData} (hi : fi ρ = .ok (xs.map enc)) (h : ∀ x ∈ xs, t.set (enc x) (wipeR ρ vs) = some (st x) ∧ ft (st x) = .ok (q x) ∧ (q x = true → fe (st x) = .ok (g x))) :
    dLc fi t ft fe vs ρ = .ok (.list ((xs.filter q).map g)) := by
  unfold dLc
  rw [hi, R.bind_ok, lcGo_of h]
  rfl
theorem forGo_invT {α : Type} {enc : α → PyData} {t : Tg} {g : Sn} (S : List α → Rho → Prop) (hs : ∀ x xs ρ, S (x :: xs) ρ → ∃ ρ1 ρ', t.set (enc x) ρ = some ρ1 ∧ g ρ1 = .nx ρ' ∧ S xs ρ') : ∀ (xs : List α) (ρ : Rho), S xs ρ → ∃ ρ', forGo t g (xs.map enc) ρ = .nx ρ' ∧ S [] ρ'
  | [], ρ, h => ⟨ρ, rfl, h⟩
  | x :: xs, ρ, h => by
    obtain ⟨ρ1, ρ2, e1, e2, h2⟩ := hs x xs ρ h
    obtain ⟨ρ3, e3, h3⟩ := forGo_invT S hs xs ρ2 h2
    refine ⟨ρ3, ?_, h3⟩
    rw [List.map_cons]
    unfold forGo
    rw [e1]
    dsimp only
    rw [e2]
    exact e3
def idx {α : Type} (k : Int) : List α → List (Int × α)
  | [] => []
  | x :: xs => (k, x) :: idx (k + 1) xs
def encI {α : Type} (enc : α → PyData) (p : Int × α) : PyData := .tuple [.int p.1, enc p.2]
theorem enumF_map {α : Type} (enc : α → PyData) : ∀ (k : Int) (xs : List α), enumF k (xs.map enc) = (idx k xs).map (encI enc)
  | _, [] => rfl
  | k, x :: xs => by
    show _ :: _ = _ :: _
    rw [enumF_map enc (k + 1) xs]
    rfl
theorem mem_idx {α : Type} {j : Int} {y : α} : ∀ {k : Int} {xs : List α}, (j, y) ∈ idx k xs → k ≤ j ∧ j < k + xs.length ∧ xs[(j - k).toNat]? = some y
  | k, [], h => by cases h
  | k, x :: xs, h => by
    rcases List.mem_cons.mp h with e | h
    · cases e
      simp
      omega
    · obtain ⟨a, b, c⟩ := mem_idx h
      have : (j - k).toNat = (j - (k + 1)).toNat + 1 := by omega
      rw [this, List.getElem?_cons_succ, List.length_cons]
      exact ⟨by omega, by omega, c⟩
theorem idx_len {α : Type} : ∀ (k : Int) (xs : List α), (idx k xs).length = xs.length
  | _, [] => rfl
  | k, x :: xs => by rw [idx, List.length_cons, List.length_cons, idx_len]
@[simp] theorem ev_enum (g : DnL) (ρ : Rho) : dEnum g ρ = (g ρ >>= enumA) := rfl
@[simp] theorem enumA_1 (d : PyData) : enumA [d] = (items d >>= fun ds => .ok (enumF 0 ds)) := rfl
@[simp] theorem ev_zip (g : DnL) (ρ : Rho) : dZip g ρ = (g ρ >>= zipA) := rfl
@[simp] theorem zipA_2 (d e : PyData) : zipA [d, e] = (items d >>= fun ds => items e >>= fun es => .ok (zipD ds es)) := rfl
def enc2 {α β : Type} (f : α → PyData) (g : β → PyData) (p : α × β) : PyData := .tuple [f p.1, g p.2]
theorem zipD_map {α β : Type} (f : α → PyData) (g : β → PyData) : ∀ (xs : List α) (ys : List β), zipD (xs.map f) (ys.map g) = (xs.zip ys).map (enc2 f g)
  | [], _ => by simp [zipD]
  | _ :: _, [] => by simp [zipD]
  | x :: xs, y :: ys => by
    show _ :: _ = _ :: _
    rw [zipD_map f g xs ys]
    rfl
def bestF {α : Type} (key : α → Int) : List α → α → α
  | [], b => b
  | y :: ys, b => bestF key ys (if key y < key b then y else b)
/-- the first one of the least -/
def best {α : Type} (key : α → Int) : List α → Option α
  | [] => none
  | x :: xs => some (bestF key xs x)
@[simp] theorem ev_setAt (i : Nat) (fi fe : Dn) (ρ : Rho) : gSetAt i fi fe ρ = oR (fe ρ) ρ fun y => ownA ρ[i]? fun ds => match fi ρ with
  | .ok (.int k) => match ixN ds.length k with
    | some j => .nx (ρ.set i (some (.own (ds.set j y))))
    | none => .bad
  | _ => .bad := rfl
theorem ixN_ok {n : Nat} {i : Int} (h0 : 0 ≤ i) (h1 : i < (n : Int)) : ixN n i = some i.toNat := by
  unfold ixN
  rw [if_pos h0, if_pos h1]
@[simp] theorem oEq_li (a b : List Int) : oEq (li a) (li b) = .ok (.bool (decide (a = b))) := by simp [oEq]
@[simp] theorem oNe_li (a b : List Int) : oNe (li a) (li b) = .ok (.bool (!decide (a = b))) := by simp [oNe]
@[simp] theorem oEq_lt (a b : List (List Int)) : oEq (lt a) (lt b) = .ok (.bool (decide (a = b))) := by simp [oEq]
@[simp] theorem oNe_lt (a b : List (List Int)) : oNe (lt a) (lt b) = .ok (.bool (!decide (a = b))) := by simp [oNe]
end LW
set_option Elab.async false
set_option maxRecDepth 100000
set_option linter.all false
set_option maxHeartbeats 2000000
namespace LW
open PySem PySem.Spec PyProof.Rows L2 PD
@[simp] theorem oPow_10_30 : oPow (.int 10) (.int 30) = .ok (.int 1000000000000000000000000000000) := by
  have h : CPow 10 30 := ⟨by decide, by decide, by decide⟩
  show (if CPow 10 30 then R.ok (PyData.int (10 ^ (30 : Int).toNat)) else .bad) = _
  rw [if_pos h]; rfl
def pr (P l : List Int) : Int := (l.map fun x => ixv P x).sum
theorem lc_prices (P l : List Int) (h : ∀ x ∈ l, 0 ≤ x ∧ x < (P.length : Int)) : lcR (fun _ => R.ok true) (fun x : Int => oIx (tu P) (.int x)) l = .ok (l.map fun x => PyData.int (ixv P x)) := lcR_mem fun x hx => ix_tu (h x hx).1 (h x hx).2
theorem v_price (P l : List Int) (h : ∀ x ∈ l, 0 ≤ x ∧ x < (P.length : Int)) : m_price [tu l, tu P] = .ok (.int (pr P l)) := by
  show endR (g_price [some (.d (tu l)), some (.d (tu P)), none]) = _
  simp [g_price, lc_prices P l h, pr]
end LW
set_option Elab.async false
set_option maxRecDepth 100000
set_option linter.all false
set_option maxHeartbeats 2000000
namespace LW
open PySem PySem.Spec PyProof.Rows L2 PD
structure Pl where
  ls : List (List Int)
  C : List (List Int)
  w : Int
def plD (n : Int) (p : Pl) : PyData := .tuple [ofr n p.ls, tt p.C, .int p.w]
def plx (ps : List Pl) (i : Int) : Pl := (ps[i.toNat]?).getD ⟨[], [], 0⟩
/-- the sum of the weights of those whose lot has x -/
def wlz (zs : List (Pl × List Int)) (x : Int) : Int := (zs.map fun z => if x ∈ z.2 then z.1.w else 0).sum
def wl (ps : List Pl) (ch : List (List Int)) (x : Int) : Int := wlz (ps.zip ch) x
theorem wlz_append (as bs : List (Pl × List Int)) (x : Int) : wlz (as ++ bs) x = wlz as x + wlz bs x := by
  unfold wlz
  rw [List.map_append, List.sum_append]
theorem wlz_bnd {zs : List (Pl × List Int)} (h : ∀ z ∈ zs, 1 ≤ z.1.w) (x : Int) : 0 ≤ wlz zs x ∧ wlz zs x ≤ (zs.map fun z => z.1.w).sum := by
  induction zs with
  | nil => exact ⟨Int.le_refl _, Int.le_refl _⟩
  | cons z zs ih =>
    obtain ⟨a, b⟩ := ih fun y hy => h y (List.mem_cons_of_mem _ hy)
    have hz := h z List.mem_cons_self
    show 0 ≤ (if x ∈ z.2 then z.1.w else 0) + wlz zs x ∧ (if x ∈ z.2 then z.1.w else 0) + wlz zs x ≤ z.1.w + (zs.map fun z => z.1.w).sum
    split <;> omega
theorem wlz_at {x : Int} : ∀ {zs : List (Pl × List Int)} {j : Nat} {p : Pl × List Int}, (∀ z ∈ zs, 1 ≤ z.1.w) → zs[j]? = some p → (x ∈ p.2 → p.1.w ≤ wlz zs x) ∧ (¬ x ∈ p.2 → wlz zs x + p.1.w ≤ (zs.map fun z => z.1.w).sum)
  | [], j, p, _, e => by simp at e
  | z :: zs, 0, p, h, e => by
    cases e
    obtain ⟨a, b⟩ := wlz_bnd (zs := zs) (fun y hy => h y (List.mem_cons_of_mem _ hy)) x
    have hz := h z List.mem_cons_self
    refine ⟨fun hx => ?_, fun hx => ?_⟩
    · show z.1.w ≤ (if x ∈ z.2 then z.1.w else 0) + wlz zs x
      rw [if_pos hx]; omega
    · show (if x ∈ z.2 then z.1.w else 0) + wlz zs x + z.1.w ≤ z.1.w + (zs.map fun z => z.1.w).sum
      rw [if_neg hx]; omega
  | z :: zs, j + 1, p, h, e => by
    obtain ⟨a, b⟩ := wlz_at (x := x) (zs := zs) (j := j) (p := p) (fun y hy => h y (List.mem_cons_of_mem _ hy)) (by simpa using e)
    have hz := h z List.mem_cons_self
    refine ⟨fun hx => ?_, fun hx => ?_⟩
    · have := a hx
      show p.1.w ≤ (if x ∈ z.2 then z.1.w else 0) + wlz zs x
      split <;> omega
    · have := b hx
      show (if x ∈ z.2 then z.1.w else 0) + wlz zs x + p.1.w ≤ z.1.w + (zs.map fun z => z.1.w).sum
      split <;> omega
/-- one more load on t -/
theorem set_range {n t : Int} (f : Int → Int) (v : Int) (h0 : 0 ≤ t) (h1 : t < n) : ((rangeI 0 n).map f).set t.toNat v = (rangeI 0 n).map fun x => if x = t then v else f x := by
  apply List.ext_getElem?
  intro j
  by_cases hj : t.toNat = j
  · subst hj
    rw [List.getElem?_set_self (by rw [List.length_map, rangeI_len]; omega), List.getElem?_map, rangeI_get (by omega)]
    simp
    omega
  · rw [List.getElem?_set_ne hj, List.getElem?_map, List.getElem?_map]
    cases e : (rangeI 0 n)[j]? with
    | none => rfl
    | some x =>
      have hl := (List.getElem?_eq_some_iff.mp e).1
      rw [rangeI_len] at hl
      rw [rangeI_get hl] at e
      cases e
      simp
      omega
theorem aug_ok {i j : Nat} {fi fe : Dn} {ρ : Rho} {ds : List PyData} {k y z : Int} (h : ρ[i]? = some (some (.own ds))) (h1 : fi ρ = .ok (.int k)) (h2 : fe ρ = .ok (.int y)) (h3 : ixN ds.length k = some j) (h4 : ds[j]? = some (.int z)) : gAugAt i fi fe ρ = .nx (ρ.set i (some (.own (ds.set j (.int (z + y)))))) := by
  unfold gAugAt ownAt
  rw [h]
  dsimp only
  rw [h1]
  dsimp only
  rw [h2]
  dsimp only
  rw [h3]
  dsimp only
  rw [h4]
theorem ownR_range (n : Int) (f : Int → Int) (x : Int) (h0 : 0 ≤ x) (h1 : x < n) : (((rangeI 0 n).map f).map PyData.int)[x.toNat]? = some (.int (f x)) := by
  rw [List.getElem?_map, List.getElem?_map, rangeI_get (by omega)]
  simp
  congr 1
  omega
theorem v_count_loads (n : Int) (ps : List Pl) (ch : List (List Int)) (h0 : 0 ≤ n) (h1 : n ≤ 900) (hc : ∀ l ∈ ch, Asc n l) : m_count_loads [.int n, .list (ps.map (plD n)), tt ch] = .ok (tu ((rangeI 0 n).map (wl ps ch))) := by
  show endR (g_count_loads [some (.d (.int n)), some (.d (.list (ps.map (plD n)))), some (.d (tt ch)), none, none, none, none, none]) = _
  generalize hP : PyData.list (ps.map (plD n)) = P
  have st : ∀ (f : Int → Int) (p : Pl) (l done rest : List Int) (o6 : Option Sl), Asc n l → done ++ rest = l →
      ∃ o6', forGo (.nm 6) b_count_loads_1 (rest.map .int) [some (.d (.int n)), some (.d P), some (.d (tt ch)), some (.own (((rangeI 0 n).map fun x => f x + if x ∈ done then p.w else 0).map .int)), some (.d (plD n p)), some (.d (tu l)), o6, none] =
        .nx [some (.d (.int n)), some (.d P), some (.d (tt ch)), some (.own (((rangeI 0 n).map fun x => f x + if x ∈ l then p.w else 0).map .int)), some (.d (plD n p)), some (.d (tu l)), o6', none] := by
    intro f p l done rest
    induction rest generalizing done with
    | nil => intro o6 ha e; rw [List.append_nil] at e; subst e; exact ⟨o6, rfl⟩
    | cons t rest ih =>
      intro o6 ha e
      have ht : t ∈ l := by rw [← e]; simp
      have tb := ha.2 t ht
      have nt : ¬ t ∈ done := fun z => by
        have nd := ha.nodup
        rw [← e] at nd
        exact (List.nodup_append.mp nd).2.2 t z t List.mem_cons_self rfl
      obtain ⟨o6', ih⟩ := ih (done ++ [t]) (some (.d (.int t))) ha (by rw [List.append_assoc]; exact e)
      refine ⟨o6', Eq.trans ?_ ih⟩
      rw [List.map_cons]
      conv => lhs; unfold forGo
      rw [set_nm]
      have a1 := aug_ok (i := 3) (fi := dVar 6) (fe := dTwo oIx (dVar 4) (dC (.int 2))) (k := t) (y := p.w) (j := t.toNat) (z := f t + if t ∈ done then p.w else 0)
        (ρ := [some (.d (.int n)), some (.d P), some (.d (tt ch)), some (.own (((rangeI 0 n).map fun x => f x + if x ∈ done then p.w else 0).map .int)), some (.d (plD n p)), some (.d (tu l)), some (.d (.int t)), none]) rfl rfl rfl (ixN_ok tb.1 (by rw [List.length_map, List.length_map, rangeI_len]; omega)) (ownR_range n _ t tb.1 tb.2)
      have a2 : b_count_loads_1 ([some (.d (.int n)), some (.d P), some (.d (tt ch)), some (.own (((rangeI 0 n).map fun x => f x + if x ∈ done then p.w else 0).map .int)), some (.d (plD n p)), some (.d (tu l)), o6, none].set 6 (some (.d (.int t)))) = .nx [some (.d (.int n)), some (.d P), some (.d (tt ch)), some (.own (((rangeI 0 n).map fun x => f x + if x ∈ done ++ [t] then p.w else 0).map .int)), some (.d (plD n p)), some (.d (tu l)), some (.d (.int t)), none] := by
        refine a1.trans ?_
        have s1 : (((rangeI 0 n).map fun x => f x + if x ∈ done then p.w else 0).map PyData.int).set t.toNat (.int (f t + (if t ∈ done then p.w else 0) + p.w)) = ((rangeI 0 n).map fun x => f x + if x ∈ done ++ [t] then p.w else 0).map PyData.int := by
          rw [← List.map_set, set_range _ _ tb.1 tb.2]
          congr 1
          refine List.map_congr_left fun x _ => ?_
          by_cases hx : x = t
          · subst hx
            simp [nt]
          · simp [hx]
        rw [s1]
        rfl
      dsimp only
      rw [a2]
  have key := forGo_invT (t := .tp [.nm 4, .nm 5]) (g := b_count_loads_2) (enc := enc2 (plD n) tu) (fun xs ρ => ∃ (done : List (Pl × List Int)) (o4 o5 o6 : Option Sl), ρ = [some (.d (.int n)), some (.d P), some (.d (tt ch)), some (.own (((rangeI 0 n).map (wlz done)).map .int)), o4, o5, o6, none] ∧ done ++ xs = ps.zip ch) (by
    rintro ⟨p, l⟩ xs ρ ⟨done, o4, o5, o6, rfl, e⟩
    have hl : l ∈ ch := (List.of_mem_zip (a := p) (b := l) (l₁ := ps) (l₂ := ch) (by rw [← e]; simp)).2
    obtain ⟨o6', r⟩ := st (wlz done) p l [] l o6 (hc l hl) rfl
    refine ⟨_, [some (.d (.int n)), some (.d P), some (.d (tt ch)), some (.own (((rangeI 0 n).map (wlz (done ++ [(p, l)]))).map .int)), some (.d (plD n p)), some (.d (tu l)), o6', none], set_tp2 4 5 (plD n p) (tu l) _, ?_, done ++ [(p, l)], _, _, _, rfl, by rw [List.append_assoc]; exact e⟩
    have e1 : (fun x => wlz (done ++ [(p, l)]) x) = fun x => wlz done x + if x ∈ l then p.w else 0 := by
      funext x
      rw [wlz_append]
      simp [wlz]
    have e2 : (fun x => wlz done x + if x ∈ ([] : List Int) then p.w else 0) = wlz done := by funext x; simp
    rw [e2] at r
    have e3 : wlz (done ++ [(p, l)]) = fun x => wlz done x + if x ∈ l then p.w else 0 := e1
    rw [e3]
    exact Eq.trans (show b_count_loads_2 [some (.d (.int n)), some (.d P), some (.d (tt ch)), some (.own (((rangeI 0 n).map (wlz done)).map .int)), some (.d (plD n p)), some (.d (tu l)), o6, none] = forGo (.nm 6) b_count_loads_1 (l.map PyData.int) [some (.d (.int n)), some (.d P), some (.d (tt ch)), some (.own (((rangeI 0 n).map (wlz done)).map .int)), some (.d (plD n p)), some (.d (tu l)), o6, none] from rfl) r)
  have e0 : (rangeI 0 n).map (wlz []) = (rangeI 0 n).map fun _ => (0 : Int) := rfl
  obtain ⟨ρ', e, done, o4, o5, o6, rfl, hz⟩ := key (ps.zip ch) [some (.d (.int n)), some (.d P), some (.d (tt ch)), some (.own (((rangeI 0 n).map (wlz [])).map .int)), none, none, none, none] ⟨[], none, none, none, rfl, rfl⟩
  rw [List.append_nil] at hz
  subst hz
  have ez : zipD (ps.map (plD n)) (ch.map tu) = (ps.zip ch).map (enc2 (plD n) tu) := zipD_map _ _ _ _
  have ei : items P = .ok (ps.map (plD n)) := by rw [← hP]; rfl
  have l0 : dLc (dRng1 (dCons (dVar 0) dNil)) (.nm 7) dYes (dC (.int 0)) [7] [some (.d (.int n)), some (.d P), some (.d (tt ch)), none, none, none, none, none] = .ok (.list (((rangeI 0 n).map (wlz [])).map .int)) := by
    have := lc_of (enc := PyData.int) (fi := dRng1 (dCons (dVar 0) dNil)) (t := .nm 7) (ft := dYes) (fe := dC (.int 0)) (vs := [7]) (ρ := [some (.d (.int n)), some (.d P), some (.d (tt ch)), none, none, none, none, none]) (xs := rangeI 0 n) (st := fun x => [some (.d (.int n)), some (.d P), some (.d (tt ch)), none, none, none, none, some (.d (.int x))]) (q := fun _ => true) (g := fun _ => .int 0) (rngA1_ok (n := n) (by omega) (by omega)) fun x _ => ⟨by simp, rfl, fun _ => rfl⟩
    rw [this, List.filter_eq_self.mpr (fun _ _ => rfl), List.map_map]
    rfl
  have ew2 : wl ps ch = wlz (ps.zip ch) := rfl
  have g1 : gOwn (dLc (dRng1 (dCons (dVar 0) dNil)) (.nm 7) dYes (dC (.int 0)) [7]) 3 [some (.d (.int n)), some (.d P), some (.d (tt ch)), none, none, none, none, none] = .nx [some (.d (.int n)), some (.d P), some (.d (tt ch)), some (.own (((rangeI 0 n).map (wlz [])).map .int)), none, none, none, none] := by
    rw [ev_own, l0]
    rfl
  have g2 : gFor (dZip (dCons (dVar 1) (dCons (dVar 2) dNil))) (.tp [(.nm 4), (.nm 5)]) b_count_loads_2 [some (.d (.int n)), some (.d P), some (.d (tt ch)), some (.own (((rangeI 0 n).map (wlz [])).map .int)), none, none, none, none] = .nx [some (.d (.int n)), some (.d P), some (.d (tt ch)), some (.own (((rangeI 0 n).map (wlz (ps.zip ch))).map .int)), o4, o5, o6, none] := by
    rw [ev_for]
    simp only [ev_zip, ev_cons, ev_nil, ev_var, List.getElem?_cons_succ, List.getElem?_cons_zero, varR_d, R.bind_ok, zipA_2, ei, items_tt, ez, oR_ok]
    exact e
  rw [ew2]
  unfold g_count_loads
  rw [ev_seq, g1, seqO_nx, ev_seq, g2, seqO_nx]
  simp [-List.map_map]
def cost (C : List (List Int)) (x k : Int) : Int := ixv (ixr C x) (k - 1)
theorem v_cost_at (C : List (List Int)) (x k : Int) (h0 : 0 ≤ x) (h1 : x < (C.length : Int)) (h2 : 1 ≤ k) (h3 : k ≤ ((ixr C x).length : Int)) : m_cost_at [tt C, .int x, .int k] = .ok (.int (cost C x k)) := by
  show endR (g_cost_at [some (.d (tt C)), some (.d (.int x)), some (.d (.int k))]) = _
  simp [g_cost_at, ix_tt h0 h1, ix_tu (L := ixr C x) (i := k - 1) (by omega) (by omega), cost]
structure Play (n : Int) (ps : List Pl) : Prop where
  n0 : 0 ≤ n
  n1 : n ≤ 900
  good : ∀ p ∈ ps, Good n p.ls
  rows : ∀ p ∈ ps, (p.C.length : Int) = n
  room : ∀ p ∈ ps, ∀ r ∈ p.C, (ps.map fun p => p.w).sum ≤ (r.length : Int)
  w1 : ∀ p ∈ ps, 1 ≤ p.w
structure Chs (ps : List Pl) (ch : List (List Int)) : Prop where
  len : ch.length = ps.length
  mem : ∀ i, 0 ≤ i → i < (ps.length : Int) → ixr ch i ∈ (plx ps i).ls
theorem plx_mem {ps : List Pl} {i : Int} (h0 : 0 ≤ i) (h1 : i < (ps.length : Int)) : plx ps i ∈ ps := by
  have hl : i.toNat < ps.length := by omega
  unfold plx
  rw [List.getElem?_eq_getElem hl]
  exact List.getElem_mem hl
theorem ix_pl {ps : List Pl} {n i : Int} (h0 : 0 ≤ i) (h1 : i < (ps.length : Int)) : oIx (.list (ps.map (plD n))) (.int i) = .ok (plD n (plx ps i)) := by
  have hl : i.toNat < ps.length := by omega
  have e : (ps)[i.toNat]? = some (plx ps i) := by
    unfold plx
    rw [List.getElem?_eq_getElem hl]; rfl
  show (match atI (ps.map (plD n)) i with | some d => R.ok d | none => .bad) = _
  rw [atI_get (plD n) h0 e]
theorem Chs.asc {n : Int} {ps : List Pl} {ch : List (List Int)} (P : Play n ps) (c : Chs ps ch) : ∀ l ∈ ch, Asc n l := fun l hl => by
  obtain ⟨j, hj, e⟩ := List.getElem_of_mem hl
  have := c.len
  have m := c.mem j (by omega) (by omega)
  have e2 : ixr ch j = l := by
    unfold ixr
    rw [show ((j : Int)).toNat = j by omega, List.getElem?_eq_getElem hj, e]; rfl
  rw [e2] at m
  exact (P.good _ (plx_mem (by omega) (by omega))).asc l m
def opr (ps : List Pl) (ch : List (List Int)) (i x : Int) : Int := cost (plx ps i).C x (wl ps ch x + if x ∈ ixr ch i then 0 else (plx ps i).w)
theorem zip_sum {ps : List Pl} {ch : List (List Int)} (h : ch.length = ps.length) : ((ps.zip ch).map fun z => z.1.w).sum = (ps.map fun p => p.w).sum := by
  have : (ps.zip ch).map (fun z => z.1.w) = ps.map fun p => p.w := by
    have e : (ps.zip ch).map Prod.fst = ps := List.map_fst_zip (by omega)
    have e2 := congrArg (List.map fun p : Pl => p.w) e
    rw [List.map_map] at e2
    exact e2
  rw [this]
/-- the load that a player sees stands within the room -/
theorem wl_see {n : Int} {ps : List Pl} {ch : List (List Int)} (P : Play n ps) (c : Chs ps ch) {i : Int} (h0 : 0 ≤ i) (h1 : i < (ps.length : Int)) (x : Int) :
    1 ≤ wl ps ch x + (if x ∈ ixr ch i then 0 else (plx ps i).w) ∧ wl ps ch x + (if x ∈ ixr ch i then 0 else (plx ps i).w) ≤ (ps.map fun p => p.w).sum := by
  have hw : ∀ z ∈ ps.zip ch, 1 ≤ z.1.w := fun z hz => P.w1 z.1 (List.of_mem_zip (a := z.1) (b := z.2) hz).1
  have hl : i.toNat < ps.length := by omega
  have hl2 : i.toNat < ch.length := by rw [c.len]; exact hl
  have e : (ps.zip ch)[i.toNat]? = some (plx ps i, ixr ch i) := by
    rw [List.getElem?_zip_eq_some]
    unfold plx ixr
    rw [List.getElem?_eq_getElem hl, List.getElem?_eq_getElem hl2]
    exact ⟨rfl, rfl⟩
  obtain ⟨a, b⟩ := wlz_at (x := x) hw e
  obtain ⟨d, f⟩ := wlz_bnd hw x
  rw [zip_sum c.len] at b f
  have g := P.w1 _ (plx_mem h0 h1)
  show 1 ≤ wlz (ps.zip ch) x + _ ∧ wlz (ps.zip ch) x + _ ≤ _
  by_cases hx : x ∈ ixr ch i
  · have h2 : (plx ps i).w ≤ wlz (ps.zip ch) x := a hx
    rw [if_pos hx]
    omega
  · have h2 : wlz (ps.zip ch) x + (plx ps i).w ≤ _ := b hx
    rw [if_neg hx]
    omega
theorem v_prices_for (n : Int) (ps : List Pl) (ch : List (List Int)) (i : Int) (P : Play n ps) (c : Chs ps ch) (h0 : 0 ≤ i) (h1 : i < (ps.length : Int)) : m_prices_for [.list (ps.map (plD n)), tt ch, .int i] = .ok (tu ((rangeI 0 n).map (opr ps ch i))) := by
  show endR (g_prices_for [some (.d (.list (ps.map (plD n)))), some (.d (tt ch)), some (.d (.int i)), none, none, none, none, none, none, none, none]) = _
  have e1 := ix_pl (n := n) h0 h1
  have hm := plx_mem h0 h1
  have e2 := v_count_loads n ps ch P.n0 P.n1 (c.asc P)
  have e3 := ix_tt (L := ch) h0 (by rw [c.len]; exact h1)
  have er := rngA1_ok (n := n) (by have := P.n1; omega) (by have := P.n0; omega)
  have e5 : oIx (ofr n (plx ps i).ls) (.int 0) = .ok (.int n) := rfl
  have s3 : Tg.set (.tp [.nm 3, .nm 4, .nm 5]) (plD n (plx ps i)) [some (.d (.list (ps.map (plD n)))), some (.d (tt ch)), some (.d (.int i)), none, none, none, none, none, none, none, none] = some [some (.d (.list (ps.map (plD n)))), some (.d (tt ch)), some (.d (.int i)), some (.d (ofr n (plx ps i).ls)), some (.d (tt (plx ps i).C)), some (.d (.int (plx ps i).w)), none, none, none, none, none] := by
    simp [plD, Tg.set, Tg.sets]
  have l1 : lcR (fun _ => R.ok true) (fun x : Int => (oIn (.int x) (tu (ixr ch i)) >>= asB) >>= fun b => if b = true then R.ok (PyData.int 0) else R.ok (.int (plx ps i).w)) (rangeI 0 n) = .ok ((rangeI 0 n).map fun x => PyData.int (if x ∈ ixr ch i then 0 else (plx ps i).w)) := lcR_mem fun x _ => by
    by_cases hx : x ∈ ixr ch i <;> simp [hx]
  -- the costs
  have l2 : dLc (dEnum (dCons (dVar 8) dNil)) (.tp [(.nm 9), (.nm 10)]) dYes (dArg m_cost_at (dCons (dVar 4) (dCons (dVar 9) (dCons (dTwo oAdd (dTwo oIx (dVar 6) (dVar 9)) (dVar 10)) dNil)))) [9, 10]
      [some (.d (.list (ps.map (plD n)))), some (.d (tt ch)), some (.d (.int i)), some (.d (ofr n (plx ps i).ls)), some (.d (tt (plx ps i).C)), some (.d (.int (plx ps i).w)), some (.d (tu ((rangeI 0 n).map (wl ps ch)))), some (.d (tu (ixr ch i))), some (.d (li ((rangeI 0 n).map fun x => if x ∈ ixr ch i then 0 else (plx ps i).w))), none, none] =
      .ok (.list ((((idx 0 ((rangeI 0 n).map fun x => if x ∈ ixr ch i then 0 else (plx ps i).w))).filter fun _ => true).map fun p => .int (cost (plx ps i).C p.1 (wl ps ch p.1 + p.2)))) := by
    refine lc_of (enc := encI PyData.int) (st := fun p => [some (.d (.list (ps.map (plD n)))), some (.d (tt ch)), some (.d (.int i)), some (.d (ofr n (plx ps i).ls)), some (.d (tt (plx ps i).C)), some (.d (.int (plx ps i).w)), some (.d (tu ((rangeI 0 n).map (wl ps ch)))), some (.d (tu (ixr ch i))), some (.d (li ((rangeI 0 n).map fun x => if x ∈ ixr ch i then 0 else (plx ps i).w))), some (.d (.int p.1)), some (.d (.int p.2))]) (by rw [← enumF_map]; simp) fun p hp => ⟨by simp [encI], rfl, fun _ => ?_⟩
    obtain ⟨j, w⟩ := p
    obtain ⟨j0, j1, j2⟩ := mem_idx hp
    rw [List.length_map, rangeI_len] at j1
    have jn : j < n := by have := P.n0; omega
    rw [List.getElem?_map, rangeI_get (by omega)] at j2
    have j3 : w = if j ∈ ixr ch i then 0 else (plx ps i).w := by
      have : (0 : Int) + ((j - 0).toNat : Nat) = j := by omega
      rw [this] at j2
      exact (Option.some.inj j2).symm
    subst j3
    have see := wl_see P c h0 h1 j
    have rw1 := P.rows _ hm
    have rl := P.room _ hm (ixr (plx ps i).C j) (ixr_mem j0 (by omega))
    have e6 : oIx (tu ((rangeI 0 n).map (wl ps ch))) (.int j) = .ok (.int (wl ps ch j)) := by
      have := ix_tu (L := (rangeI 0 n).map (wl ps ch)) (i := j) j0 (by rw [List.length_map, rangeI_len]; omega)
      rw [this, ixv_map j0 (by rw [rangeI_len]; omega), ixv_range j0 jn]
    simp [e6, v_cost_at (plx ps i).C j _ j0 (by omega) see.1 (by omega)]
  have e7 : (((idx 0 ((rangeI 0 n).map fun x => if x ∈ ixr ch i then 0 else (plx ps i).w))).filter fun _ => true).map (fun p => PyData.int (cost (plx ps i).C p.1 (wl ps ch p.1 + p.2))) = ((rangeI 0 n).map (opr ps ch i)).map PyData.int := by
    rw [List.filter_eq_self.mpr (fun _ _ => rfl), List.map_map]
    apply List.ext_getElem?
    intro j
    rw [List.getElem?_map, List.getElem?_map]
    cases e : (idx 0 ((rangeI 0 n).map fun x => if x ∈ ixr ch i then 0 else (plx ps i).w))[j]? with
    | none =>
      have hl := List.getElem?_eq_none_iff.mp e
      rw [idx_len, List.length_map] at hl
      rw [List.getElem?_eq_none hl]
      rfl
    | some q =>
      obtain ⟨k, w⟩ := q
      have hk : k = (j : Int) ∧ ((rangeI 0 n).map fun x => if x ∈ ixr ch i then 0 else (plx ps i).w)[j]? = some w := by
        have : ∀ (s : Int) (l : List Int) (j : Nat) (k w : Int), (idx s l)[j]? = some (k, w) → k = s + (j : Int) ∧ l[j]? = some w := by
          intro s l
          induction l generalizing s with
          | nil => intro j k w h; simp [idx] at h
          | cons a l ih =>
            intro j k w h
            cases j with
            | zero => simp [idx] at h; simp [h]
            | succ j =>
              obtain ⟨a1, a2⟩ := ih (s + 1) j k w (by simpa [idx] using h)
              refine ⟨by omega, by simpa using a2⟩
        have := this 0 _ j k w e
        exact ⟨by omega, this.2⟩
      obtain ⟨hk, hw⟩ := hk
      have hl := (List.getElem?_eq_some_iff.mp hw).1
      rw [List.length_map, rangeI_len] at hl
      rw [List.getElem?_map, rangeI_get hl] at hw
      rw [rangeI_get hl]
      simp only [Option.map_some, Option.some.injEq] at hw ⊢
      have h0' : (0 : Int) + (j : Int) = k := by omega
      rw [h0'] at hw ⊢
      rw [← hw]
      rfl
  rw [e7] at l2
  simp [g_prices_for, e1, s3, e5, e2, e3, er, l1, l2, -List.map_map]
end LW
set_option Elab.async false
set_option maxRecDepth 100000
set_option linter.all false
set_option maxHeartbeats 2000000
namespace LW
open PySem PySem.Spec PyProof.Rows L2 PD
/-- rows of one length whose entries don't fall -/
def Rows (n m : Int) (C : List (List Int)) : Prop := (C.length : Int) = n ∧ ∀ r ∈ C, (r.length : Int) = m ∧ r.Pairwise (· ≤ ·)
def tkD (n : Int) (p : Pl) : PyData := .tuple [ofr n p.ls, tt p.C]
def gmD (n : Int) (ps : List Pl) : PyData := .tuple (ps.map (tkD n))
structure Game (n : Int) (ps : List Pl) : Prop extends Play n ps where
  one : ∀ p ∈ ps, p.w = 1
  up : ∀ p ∈ ps, ∀ r ∈ p.C, r.Pairwise (· ≤ ·)
theorem sum_one {ps : List Pl} (h : ∀ p ∈ ps, p.w = 1) : (ps.map fun p => p.w).sum = ps.length := by
  induction ps with
  | nil => rfl
  | cons p ps ih =>
    rw [List.map_cons, List.sum_cons, ih fun q hq => h q (List.mem_cons_of_mem _ hq), h p List.mem_cons_self, List.length_cons]
    omega
theorem ix_tk {ps : List Pl} {n i : Int} (h0 : 0 ≤ i) (h1 : i < (ps.length : Int)) : oIx (gmD n ps) (.int i) = .ok (tkD n (plx ps i)) := by
  have hl : i.toNat < ps.length := by omega
  have e : (ps)[i.toNat]? = some (plx ps i) := by
    unfold plx
    rw [List.getElem?_eq_getElem hl]; rfl
  show (match atI (ps.map (tkD n)) i with | some d => R.ok d | none => .bad) = _
  rw [atI_get (tkD n) h0 e]
theorem len_gm (n : Int) (ps : List Pl) : bLen [gmD n ps] = .ok (.int ps.length) := by simp [bLen, gmD]
theorem v_choice (c n : Int) (ps : List Pl) (P : Play n ps) (hz : ps.length ≤ 900) : ∃ ch : List (List Int), m_law_choice [.int c, gmD n ps] = .ok (tt ch) ∧ Chs ps ch := by
  show ∃ ch : List (List Int), endR (g_law_choice [some (.d (.int c)), some (.d (gmD n ps)), none, none]) = _ ∧ _
  obtain ⟨L, eL, hL, bL⟩ := v_draws c (ps.length + 1) (by omega) (by omega)
  have f1 : ∀ i, 0 ≤ i → i < (ps.length : Int) → 0 ≤ (ixv L i).fmod ((plx ps i).ls.length : Int) ∧ (ixv L i).fmod ((plx ps i).ls.length : Int) < ((plx ps i).ls.length : Int) := fun i i0 i1 => by
    have := List.length_pos_iff.mpr (P.good _ (plx_mem i0 i1)).ne
    exact ⟨fmod_lo _ (by omega), fmod_hi _ (by omega)⟩
  refine ⟨(rangeI 0 ps.length).map fun i => ixr (plx ps i).ls ((ixv L i).fmod ((plx ps i).ls.length : Int)), ?_, by rw [List.length_map, rangeI_len]; omega, fun i i0 i1 => ?_⟩
  · simp [g_law_choice, len_gm, eL, rngA1_ok (n := ps.length) (by omega) (by omega), -List.map_map]
    rw [lcR_mem (g := fun i => tu (ixr (plx ps i).ls ((ixv L i).fmod ((plx ps i).ls.length : Int))))]
    · simp
    · intro i hi
      obtain ⟨i0, i1⟩ := mem_rangeI.mp hi
      have f := f1 i i0 i1
      have hp := List.length_pos_iff.mpr (P.good _ (plx_mem i0 i1)).ne
      have n0 : ((plx ps i).ls.length : Int) ≠ 0 := by omega
      have o1 : oIx (tkD n (plx ps i)) (.int 0) = .ok (ofr n (plx ps i).ls) := rfl
      have o2 : oIx (ofr n (plx ps i).ls) (.int 1) = .ok (tt (plx ps i).ls) := rfl
      simp [ix_tk i0 i1, o1, o2, ix_li (L := L) (i := i) i0 (by omega), oMod_int n0, ix_tt f.1 f.2]
  · have hl : i.toNat < ps.length := by omega
    have f := f1 i i0 i1
    have : ixr ((rangeI 0 ps.length).map fun i => ixr (plx ps i).ls ((ixv L i).fmod ((plx ps i).ls.length : Int))) i = ixr (plx ps i).ls ((ixv L i).fmod ((plx ps i).ls.length : Int)) := by
      unfold ixr
      rw [List.getElem?_map, rangeI_get (by omega)]
      have : (0 : Int) + (i.toNat : Nat) = i := by omega
      rw [this]
      rfl
    rw [this]
    exact ixr_mem f.1 f.2
theorem v_players (n : Int) (ps : List Pl) (h : ∀ p ∈ ps, p.w = 1) : m_players [gmD n ps] = .ok (.list (ps.map (plD n))) := by
  show endR (g_players [some (.d (gmD n ps)), none, none]) = _
  have e := lc_of (enc := tkD n) (fi := dItems (dVar 0)) (t := .tp [.nm 1, .nm 2]) (ft := dYes) (fe := dTup (dCons (dVar 1) (dCons (dVar 2) (dCons (dC (.int 1)) dNil)))) (vs := [1, 2]) (ρ := [some (.d (gmD n ps)), none, none]) (xs := ps) (st := fun p => [some (.d (gmD n ps)), some (.d (ofr n p.ls)), some (.d (tt p.C))]) (q := fun _ => true) (g := plD n) rfl fun p hp => ⟨by simp [tkD], rfl, fun _ => by simp [plD, h p hp]⟩
  rw [List.filter_eq_self.mpr (fun _ _ => rfl)] at e
  unfold g_players
  rw [ev_ret, e]
  rfl
theorem v_own_prices (n : Int) (ps : List Pl) (ch : List (List Int)) (i : Int) (G : Game n ps) (c : Chs ps ch) (h0 : 0 ≤ i) (h1 : i < (ps.length : Int)) : m_own_prices [gmD n ps, tt ch, .int i] = .ok (tu ((rangeI 0 n).map (opr ps ch i))) := by
  show endR (g_own_prices [some (.d (gmD n ps)), some (.d (tt ch)), some (.d (.int i))]) = _
  simp [g_own_prices, v_players n ps G.one, v_prices_for n ps ch i G.toPlay c h0 h1, -List.map_map]
end LW
set_option Elab.async false
set_option maxRecDepth 100000
set_option linter.all false
set_option maxHeartbeats 2000000
namespace LW
open PySem PySem.Spec PyProof.Rows L2 PD
/-- with weights of 1: the number of lots that have x -/
def load (ch : List (List Int)) (x : Int) : Int := ((ch.filter fun l => decide (x ∈ l)).length : Int)
theorem wl_load : ∀ {ps : List Pl} {ch : List (List Int)}, (∀ p ∈ ps, p.w = 1) → ch.length = ps.length → ∀ x, wl ps ch x = load ch x
  | [], [], _, _, x => rfl
  | [], _ :: _, _, e, _ => by cases e
  | _ :: _, [], _, e, _ => by cases e
  | p :: ps, l :: ch, h, e, x => by
    have ih := wl_load (ps := ps) (ch := ch) (fun q hq => h q (List.mem_cons_of_mem _ hq)) (by simpa using e) x
    have hw := h p List.mem_cons_self
    have e1 : wl (p :: ps) (l :: ch) x = (if x ∈ l then p.w else 0) + wl ps ch x := rfl
    rw [e1, ih, hw]
    unfold load
    by_cases hx : x ∈ l
    · rw [if_pos hx, List.filter_cons_of_pos (by simpa using hx), List.length_cons]; omega
    · rw [if_neg hx, List.filter_cons_of_neg (by simpa using hx)]; omega
/-- what a taker pays -/
def payD (ps : List Pl) (ch : List (List Int)) (i : Int) : Int := ((ixr ch i).map fun x => cost (plx ps i).C x (wl ps ch x)).sum
theorem sum_congr {l : List Int} {f g : Int → Int} (h : ∀ x ∈ l, f x = g x) : (l.map f).sum = (l.map g).sum := by rw [List.map_congr_left h]
theorem pr_range {n : Int} {f : Int → Int} {l : List Int} (h : Asc n l) : pr ((rangeI 0 n).map f) l = (l.map f).sum := sum_congr fun x hx => by
  obtain ⟨a, b⟩ := h.2 x hx
  rw [ixv_map a (by rw [rangeI_len]; omega), ixv_range a b]
theorem pay_opr {n : Int} {ps : List Pl} {ch : List (List Int)} {i : Int} (a : Asc n (ixr ch i)) : pr ((rangeI 0 n).map (opr ps ch i)) (ixr ch i) = payD ps ch i := by
  rw [pr_range a]
  refine sum_congr fun x hx => ?_
  unfold opr
  rw [if_pos hx, Int.add_zero]
theorem chs_asc {n : Int} {ps : List Pl} {ch : List (List Int)} (P : Play n ps) (c : Chs ps ch) {i : Int} (h0 : 0 ≤ i) (h1 : i < (ps.length : Int)) : Asc n (ixr ch i) := (P.good _ (plx_mem h0 h1)).asc _ (c.mem i h0 h1)
theorem v_pay (n : Int) (ps : List Pl) (ch : List (List Int)) (i : Int) (G : Game n ps) (c : Chs ps ch) (h0 : 0 ≤ i) (h1 : i < (ps.length : Int)) : m_pay [gmD n ps, tt ch, .int i] = .ok (.int (payD ps ch i)) := by
  show endR (g_pay [some (.d (gmD n ps)), some (.d (tt ch)), some (.d (.int i))]) = _
  have a := chs_asc G.toPlay c h0 h1
  have e := v_price ((rangeI 0 n).map (opr ps ch i)) (ixr ch i) fun x hx => by
    have := a.2 x hx
    rw [List.length_map, rangeI_len]
    omega
  rw [pay_opr a] at e
  simp [g_pay, ix_tt (L := ch) h0 (by rw [c.len]; exact h1), v_own_prices n ps ch i G c h0 h1, e, -List.map_map]
theorem v_law_loads (ch : List (List Int)) (n : Int) (h0 : 0 ≤ n) (h1 : n ≤ 900) : m_law_loads [tt ch, .int n] = .ok (li ((rangeI 0 n).map (load ch))) := by
  show endR (g_law_loads [some (.d (tt ch)), some (.d (.int n)), none, none]) = _
  simp [g_law_loads, rngA1_ok (n := n) (by omega) (by omega)]
  rfl
theorem v_law_pay (n : Int) (ps : List Pl) (ch : List (List Int)) (i : Int) (G : Game n ps) (c : Chs ps ch) (h0 : 0 ≤ i) (h1 : i < (ps.length : Int)) : m_law_pay [gmD n ps, tt ch, .int i] = .ok (.int (payD ps ch i)) := by
  show endR (g_law_pay [some (.d (gmD n ps)), some (.d (tt ch)), some (.d (.int i)), none, none, none]) = _
  have hm := plx_mem h0 h1
  have a := chs_asc G.toPlay c h0 h1
  have o1 : oIx (tkD n (plx ps i)) (.int 1) = .ok (tt (plx ps i).C) := rfl
  have hr := G.rows _ hm
  have e1 := v_law_loads ch (plx ps i).C.length (by omega) (by have := G.n1; omega)
  rw [hr] at e1
  have e2 : lcR (fun _ => R.ok true) (fun x : Int => oIx (tt (plx ps i).C) (.int x) >>= fun a => (oIx (li ((rangeI 0 n).map (load ch))) (.int x) >>= fun a => oSub a (.int 1)) >>= fun b => oIx a b) (ixr ch i) = .ok ((ixr ch i).map fun x => PyData.int (cost (plx ps i).C x (wl ps ch x))) := lcR_mem fun x hx => by
    obtain ⟨x0, x1⟩ := a.2 x hx
    have see := wl_see G.toPlay c h0 h1 x
    rw [if_pos hx, Int.add_zero] at see
    have rl := G.room _ hm (ixr (plx ps i).C x) (ixr_mem x0 (by omega))
    have e3 : oIx (li ((rangeI 0 n).map (load ch))) (.int x) = .ok (.int (wl ps ch x)) := by
      rw [ix_li x0 (by rw [List.length_map, rangeI_len]; omega), ixv_map x0 (by rw [rangeI_len]; omega), ixv_range x0 x1, wl_load G.one c.len]
    simp [ix_tt (L := (plx ps i).C) x0 (by omega), e3, ix_tu (L := ixr (plx ps i).C x) (i := wl ps ch x - 1) (by omega) (by omega), cost]
  have bl : bLen [tt (plx ps i).C] = .ok (.int n) := by rw [bLen_tt, hr]
  simp [g_law_pay, ix_tk (n := n) h0 h1, o1, bl, e1, ix_tt (L := ch) h0 (by rw [c.len]; exact h1), -List.map_map]
  rw [e2]
  simp [payD]
end LW
set_option Elab.async false
set_option maxRecDepth 100000
set_option linter.all false
set_option maxHeartbeats 2000000
namespace LW
open PySem PySem.Spec PyProof.Rows L2 PD
def withL (ch : List (List Int)) (i : Int) (l : List Int) : List (List Int) := ch.set i.toNat l
theorem oAdd_tt {a b : List (List Int)} (h : a.length + b.length ≤ 100000) : oAdd (tt a) (tt b) = .ok (tt (a ++ b)) := by
  show (if (a.map tu).length + (b.map tu).length ≤ sizeLine then R.ok (PyData.tuple (a.map tu ++ b.map tu)) else .bad) = _
  rw [List.length_map, List.length_map, if_pos (by rw [sizeLine_eq]; omega), ← List.map_append]
  rfl
theorem tt_1 (a : List Int) : PyData.tuple [tu a] = tt [a] := rfl
theorem cut_to {ch : List (List Int)} {k : Nat} (h : k ≤ ch.length) : oCut (tt ch) none (some (k : Int)) = .ok (tt (ch.take k)) := by
  show R.ok (PyData.tuple (PD.cutD (ch.map tu) none (some (k : Int)))) = _
  unfold PD.cutD
  rw [HT.sIx_nat, HT.sIx_none, List.length_map, Nat.min_eq_left h, List.drop_zero, Nat.sub_zero, ← List.map_take]
  rfl
theorem cut_from {ch : List (List Int)} {k : Nat} (h : k ≤ ch.length) : oCut (tt ch) (some (k : Int)) none = .ok (tt (ch.drop k)) := by
  show R.ok (PyData.tuple (PD.cutD (ch.map tu) (some (k : Int)) none)) = _
  unfold PD.cutD
  rw [HT.sIx_nat, HT.sIx_none, List.length_map, Nat.min_eq_left h, ← List.map_drop, List.take_of_length_le (by rw [List.length_map, List.length_drop]; omega)]
  rfl
theorem cut_to' {ch : List (List Int)} {i : Int} (h0 : 0 ≤ i) (h1 : i < (ch.length : Int)) : oCut (tt ch) none (some i) = .ok (tt (ch.take i.toNat)) := by
  have := cut_to (ch := ch) (k := i.toNat) (by omega)
  rwa [show ((i.toNat : Nat) : Int) = i by omega] at this
theorem cut_from' {ch : List (List Int)} {i : Int} (h0 : 0 ≤ i) (h1 : i < (ch.length : Int)) : oCut (tt ch) (some (i + 1)) none = .ok (tt (ch.drop (i.toNat + 1))) := by
  have := cut_from (ch := ch) (k := i.toNat + 1) (by omega)
  rwa [show ((i.toNat + 1 : Nat) : Int) = i + 1 by omega] at this
theorem with_eq {ch : List (List Int)} {i : Int} {l : List Int} (h0 : 0 ≤ i) (h1 : i < (ch.length : Int)) : ch.take i.toNat ++ [l] ++ ch.drop (i.toNat + 1) = withL ch i l := by
  unfold withL
  rw [List.set_eq_take_append_cons_drop, if_pos (by omega), List.append_assoc]
  rfl
theorem v_law_with (ch : List (List Int)) (i : Int) (l : List Int) (h0 : 0 ≤ i) (h1 : i < (ch.length : Int)) (hz : ch.length ≤ 900) : m_law_with [tt ch, .int i, tu l] = .ok (tt (withL ch i l)) := by
  show endR (g_law_with [some (.d (tt ch)), some (.d (.int i)), some (.d (tu l))]) = _
  have a1 : oAdd (tt (ch.take i.toNat)) (tt [l]) = .ok (tt (ch.take i.toNat ++ [l])) := oAdd_tt (by rw [List.length_take, List.length_singleton]; omega)
  have a2 : oAdd (tt (ch.take i.toNat ++ [l])) (tt (ch.drop (i.toNat + 1))) = .ok (tt (withL ch i l)) := by
    rw [oAdd_tt (by rw [List.length_append, List.length_take, List.length_singleton, List.length_drop]; omega), with_eq h0 h1]
  simp [g_law_with, cut_to' h0 h1, cut_from' h0 h1, tt_1, a1, a2]
theorem with_at {ch : List (List Int)} {i j : Int} {l : List Int} (h0 : 0 ≤ i) (h1 : i < (ch.length : Int)) (hj : 0 ≤ j) : ixr (withL ch i l) j = if j = i then l else ixr ch j := by
  unfold withL ixr
  by_cases e : j = i
  · subst e
    rw [if_pos rfl, List.getElem?_set_self (by omega)]
    rfl
  · rw [if_neg e, List.getElem?_set_ne (by omega)]
theorem with_len {ch : List (List Int)} {i : Int} {l : List Int} : (withL ch i l).length = ch.length := by unfold withL; rw [List.length_set]
theorem Chs.with {ps : List Pl} {ch : List (List Int)} {i : Int} {l : List Int} (c : Chs ps ch) (h0 : 0 ≤ i) (h1 : i < (ps.length : Int)) (hl : l ∈ (plx ps i).ls) : Chs ps (withL ch i l) :=
  ⟨by rw [with_len]; exact c.len, fun j j0 j1 => by
    rw [with_at h0 (by rw [c.len]; exact h1) j0]
    by_cases e : j = i
    · rw [if_pos e, e]; exact hl
    · rw [if_neg e]; exact c.mem j j0 j1⟩
/-- the own prices -/
def own (n : Int) (ps : List Pl) (ch : List (List Int)) (i : Int) : List Int := (rangeI 0 n).map (opr ps ch i)
end LW
set_option Elab.async false
set_option linter.all false
set_option maxRecDepth 100000
set_option maxHeartbeats 4000000
set_option Elab.async false
set_option maxRecDepth 100000
set_option linter.all false
set_option maxHeartbeats 2000000
set_option Elab.async false
set_option linter.all false
set_option maxRecDepth 100000
set_option maxHeartbeats 4000000
set_option Elab.async false
set_option maxRecDepth 100000
set_option linter.all false
set_option maxHeartbeats 2000000
set_option Elab.async false
set_option maxRecDepth 100000
set_option linter.all false
set_option maxHeartbeats 2000000
set_option Elab.async false
set_option maxRecDepth 100000
set_option linter.all false
set_option maxHeartbeats 2000000
set_option Elab.async false
set_option maxRecDepth 100000
set_option linter.all false
set_option maxHeartbeats 2000000
set_option Elab.async false
set_option maxRecDepth 100000
set_option linter.all false
set_option maxHeartbeats 2000000
namespace LW
open PySem PySem.Spec PyProof.Rows L2 PD
def gainO (n : Int) (ps : List Pl) (ch : List (List Int)) (i : Int) : Option (Int × List Int) := (best (pr (own n ps ch i)) (plx ps i).ls).bind fun l => if pr (own n ps ch i) l < payD ps ch i then some (i, l) else none
def firstG (n : Int) (ps : List Pl) (ch : List (List Int)) : Option (Int × List Int) := (rangeI 0 ps.length).findSome? (gainO n ps ch)
end LW
set_option Elab.async false
set_option maxRecDepth 100000
set_option linter.all false
set_option maxHeartbeats 2000000
namespace LW
open PySem PySem.Spec PyProof.Rows L2 PD
def addC (cs : List (List (List Int))) (ls : List (List Int)) : List (List (List Int)) := cs.flatMap fun c => ls.map fun l => c ++ [l]
def foldC (ps : List Pl) (cs : List (List (List Int))) : List (List (List Int)) := ps.foldl (fun cs p => addC cs p.ls) cs
def allC (ps : List Pl) : List (List (List Int)) := foldC ps [[]]
theorem addC_len (cs : List (List (List Int))) (ls : List (List Int)) : (addC cs ls).length = cs.length * ls.length := by
  unfold addC
  induction cs with
  | nil => simp
  | cons c cs ih => rw [List.flatMap_cons, List.length_append, ih, List.length_map, List.length_cons, Nat.add_mul, Nat.one_mul, Nat.add_comm]
theorem foldC_len (b : Nat) : ∀ (qs : List Pl) (cs : List (List (List Int))), (∀ q ∈ qs, q.ls.length ≤ b) → (foldC qs cs).length ≤ cs.length * b ^ qs.length
  | [], cs, _ => by simp [foldC]
  | q :: qs, cs, h => by
    have := foldC_len b qs (addC cs q.ls) fun y hy => h y (List.mem_cons_of_mem _ hy)
    refine Nat.le_trans this ?_
    rw [addC_len, List.length_cons, Nat.pow_succ, Nat.mul_comm (b ^ qs.length) b, ← Nat.mul_assoc]
    exact Nat.mul_le_mul_right _ (Nat.mul_le_mul_left _ (h q List.mem_cons_self))
/-- few choices: b lots each at most, and b to their number not over 5000 -/
structure Few (ps : List Pl) (b : Nat) : Prop where
  pos : 1 ≤ b
  each : ∀ p ∈ ps, p.ls.length ≤ b
  all : b ^ ps.length ≤ 5000
theorem Few.len {ps : List Pl} {b : Nat} (f : Few ps b) : (allC ps).length ≤ 5000 := by
  have := foldC_len b ps [[]] f.each
  rw [List.length_singleton, Nat.one_mul] at this
  exact Nat.le_trans this f.all
end LW
set_option Elab.async false
set_option maxRecDepth 100000
set_option linter.all false
set_option maxHeartbeats 2000000
set_option Elab.async false
set_option maxRecDepth 100000
set_option linter.all false
set_option maxHeartbeats 2000000
set_option Elab.async false
set_option maxRecDepth 100000
set_option linter.all false
set_option maxHeartbeats 4000000
set_option Elab.async false
set_option maxRecDepth 100000
set_option linter.all false
set_option maxHeartbeats 2000000
set_option Elab.async false
set_option maxRecDepth 100000
set_option linter.all false
set_option maxHeartbeats 2000000
namespace LW
open PySem PySem.Spec PyProof.Rows L2 PD
theorem Good.take {n : Int} {ls : List (List Int)} (g : Good n ls) (k : Nat) (hk : 1 ≤ k) : Good n (ls.take k) :=
  ⟨fun l hl => g.asc l (List.mem_of_mem_take hl), g.asd.sublist (List.take_sublist _ _), fun e => by
    have : ls.length ≠ 0 := fun z => g.ne (List.length_eq_zero_iff.mp z)
    have e2 := congrArg List.length e
    rw [List.length_take, List.length_nil] at e2
    omega, Nat.le_trans (List.take_sublist k ls).length_le g.len⟩
/-- what a taker of such a game is -/
structure Tk (n m : Int) (w : Bool) (p : Pl) : Prop where
  good : Good n p.ls
  rows : Rows n m p.C
  one : p.w = 1
  wide : w = true → p.ls.length ≤ 2
theorem tk_game {n m : Int} {w : Bool} {ps : List Pl} (h0 : 0 ≤ n) (h1 : n ≤ 900) (hm : (ps.length : Int) ≤ m) (h : ∀ p ∈ ps, Tk n m w p) : Game n ps :=
  ⟨⟨h0, h1, fun p hp => (h p hp).good, fun p hp => (h p hp).rows.1, fun p hp r hr => by
    rw [sum_one fun p hp => (h p hp).one, ((h p hp).rows.2 r hr).1]; exact hm, fun p hp => by rw [(h p hp).one]; decide⟩, fun p hp => (h p hp).one, fun p hp r hr => ((h p hp).rows.2 r hr).2⟩
end LW
set_option Elab.async false
set_option maxRecDepth 100000
set_option linter.all false
set_option maxHeartbeats 2000000
set_option Elab.async false
set_option maxRecDepth 100000
set_option linter.all false
set_option maxHeartbeats 2000000
set_option Elab.async false
set_option maxRecDepth 100000
set_option linter.all false
set_option maxHeartbeats 2000000
namespace LW
open PySem PySem.Spec PyProof.Rows L2 PD
def frzO (ρ : Rho) (i : Nat) (s : Option (Option Sl)) : Option Rho := match s with
  | some (some (.own ds)) => some (ρ.set i (some (.d (.list ds))))
  | _ => none
@[simp] theorem frzO_own (ρ : Rho) (i : Nat) (ds : List PyData) : frzO ρ i (some (some (.own ds))) = some (ρ.set i (some (.d (.list ds)))) := rfl
end LW
set_option Elab.async false
set_option maxRecDepth 100000
set_option linter.all false
set_option maxHeartbeats 2000000
set_option Elab.async false
set_option maxRecDepth 100000
set_option linter.all false
set_option maxHeartbeats 2000000
set_option Elab.async false
set_option maxRecDepth 100000
set_option linter.all false
set_option maxHeartbeats 2000000
set_option Elab.async false
set_option maxRecDepth 100000
set_option linter.all false
set_option maxHeartbeats 2000000
set_option Elab.async false
set_option maxRecDepth 100000
set_option linter.all false
set_option maxHeartbeats 2000000
set_option Elab.async false
set_option linter.all false
set_option maxRecDepth 100000
set_option maxHeartbeats 4000000
set_option Elab.async false
set_option maxRecDepth 100000
set_option linter.all false
set_option maxHeartbeats 2000000
namespace LW
open PySem PySem.Spec PyProof.Rows L2 PD
def freeB (ls : List (List Int)) (t : List Int) : Bool := ls.any fun l => t.all fun x => decide (x ∈ l)
def cand (n : Int) (ls : List (List Int)) (u : List Int) : List Int := (rangeI 0 n).filter fun x => !decide (x ∈ u) && freeB ls (u ++ [x])
def G (n : Int) (ls : List (List Int)) (P : List Int) : Nat → List Int
  | 0 => []
  | k + 1 => match best (ixv P) (cand n ls (G n ls P k)) with
    | some b => G n ls P k ++ [b]
    | none => G n ls P k
end LW
set_option Elab.async false
set_option linter.all false
set_option maxRecDepth 100000
set_option maxHeartbeats 4000000
set_option Elab.async false
set_option maxRecDepth 100000
set_option linter.all false
set_option maxHeartbeats 2000000
namespace LW
open PySem PySem.Spec PyProof.Rows L2 PD
def Steps (n : Int) (ps : List Pl) : List (List Int) → List (Int × List Int) → List (List Int) → Prop
  | ch, [], d => ch = d
  | ch, s :: ss, d => firstG n ps ch = some s ∧ Steps n ps (withL ch s.1 s.2) ss d
theorem Steps.snoc {n : Int} {ps : List Pl} {s : Int × List Int} : ∀ {ss : List (Int × List Int)} {ch d : List (List Int)}, Steps n ps ch ss d → firstG n ps d = some s → Steps n ps ch (ss ++ [s]) (withL d s.1 s.2)
  | [], ch, d, h, e => by
    have h : ch = d := h
    subst h
    exact ⟨e, rfl⟩
  | t :: ss, ch, d, h, e => ⟨h.1, Steps.snoc (ss := ss) h.2 e⟩
end LW
set_option Elab.async false
set_option maxRecDepth 100000
set_option linter.all false
set_option maxHeartbeats 2000000
namespace LW
open PySem PySem.Spec PyProof.Rows L2 PD
theorem v_any79 (c n : Int) (h0 : 0 ≤ n) (h1 : n ≤ 12) : ∃ ks : List (List Int), m_law_any_lots_k79 [.int c, .int n] = .ok (tt ks) ∧ Good n ks := by
  show ∃ ks : List (List Int), endR (g_law_any_lots_k79 [some (.d (.int c)), some (.d (.int n)), none, none, none, none]) = _ ∧ _
  obtain ⟨L, e1, hL, bL⟩ := v_draws c 9 (by decide) (by decide)
  have hL7 : L.length = 9 := hL
  obtain ⟨rows, e2, hr, hz, _⟩ := v_parts2 n h0 h1
  have e3 := ix_li (L := L) (i := 2) (by decide) (by omega)
  generalize ixv L 2 = d0 at e3
  have b1 := fmod_lo d0 (b := 6) (by decide)
  have b2 := fmod_hi d0 (b := 6) (by decide)
  have hne : 0 < rows.length := List.length_pos_of_mem ((hr []).mpr (Asc.nil n))
  have e5 := rngA1_ok (n := 1 + d0.fmod 6) (by omega) (by omega)
  have f1 : ∀ a : Int, 0 ≤ a.fmod rows.length ∧ a.fmod rows.length < rows.length := fun a => ⟨fmod_lo a (by omega), fmod_hi a (by omega)⟩
  obtain ⟨ks, e6, h6, hA, hL⟩ := v_antichain2 ((rangeI 0 (1 + d0.fmod 6)).map fun k => ixr rows ((ixv L (3 + k)).fmod rows.length)) (by rw [List.length_map, rangeI_len]; omega)
  have mrow : ∀ r ∈ (rangeI 0 (1 + d0.fmod 6)).map fun k => ixr rows ((ixv L (3 + k)).fmod rows.length), Asc n r := fun r q => by
    obtain ⟨j, hj, rfl⟩ := List.mem_map.mp q
    exact (hr _).mp (ixr_mem (f1 _).1 (f1 _).2)
  have nrow : ((rangeI 0 (1 + d0.fmod 6)).map fun k => ixr rows ((ixv L (3 + k)).fmod rows.length)) ≠ [] := fun z => by
    have := congrArg List.length z
    rw [List.length_map, rangeI_len] at this
    simp at this
    omega
  rw [List.length_map, rangeI_len] at hL
  refine ⟨ks, ?_, ⟨fun k hk => mrow k ((h6 k).mp hk).1, hA, fun z => ?_, by omega⟩⟩
  · simp [g_law_any_lots_k79, e1, e2, e3, oMod_int, e5]
    rw [lcR_mem (g := fun k => tu (ixr rows ((ixv L (3 + k)).fmod rows.length)))]
    · simp [e6]
    · intro k hk
      obtain ⟨k1, k2⟩ := mem_rangeI.mp hk
      have n0 : (rows.length : Int) ≠ 0 := by omega
      simp [ix_li (L := L) (i := 3 + k) (by omega) (by omega), oMod_int n0, ix_lt (f1 _).1 (f1 _).2]
  · obtain ⟨x, x1, x2⟩ := top_some mrow nrow
    have := (h6 x).mpr ⟨x1, x2⟩
    rw [z] at this
    cases this
theorem v_lots79 (c n : Int) (h0 : 0 ≤ n) (h1 : n ≤ 9) : ∃ ks : List (List Int), m_law_lots_k79 [.int c, .int n] = .ok (tt ks) ∧ Good n ks := by
  show ∃ ks : List (List Int), endR (g_law_lots_k79 [some (.d (.int c)), some (.d (.int n)), none]) = _ ∧ _
  obtain ⟨L, e1, hL, bL⟩ := v_draws c 2 (by decide) (by decide)
  have hL2 : L.length = 2 := hL
  have e31 := ix_li (L := L) (i := 1) (by decide) (by omega)
  by_cases q : ((ixv L 1).fdiv 8).fmod 2 = 0
  · obtain ⟨ks, w1, w2⟩ := v_smooth3 c n h0 h1
    exact ⟨ks, by simp [g_law_lots_k79, e1, e31, oMod_int, oDiv_lit, q, w1], w2.good⟩
  · obtain ⟨ks, w1, w2⟩ := v_any79 c n h0 (by omega)
    exact ⟨ks, by simp [g_law_lots_k79, e1, e31, oMod_int, oDiv_lit, q, w1], w2⟩
end LW
set_option Elab.async false
set_option maxRecDepth 100000
set_option linter.all false
set_option maxHeartbeats 2000000
set_option Elab.async false
set_option maxRecDepth 100000
set_option linter.all false
set_option maxHeartbeats 2000000
set_option Elab.async false
set_option linter.all false
set_option maxRecDepth 100000
set_option maxHeartbeats 4000000
set_option Elab.async false
set_option maxRecDepth 100000
set_option linter.all false
set_option maxHeartbeats 2000000
set_option Elab.async false
set_option maxRecDepth 100000
set_option linter.all false
set_option maxHeartbeats 2000000
namespace LW
open PySem PySem.Spec PyProof.Rows L2 PD
theorem enumF_rows (c : List (List Int)) : enumF 0 (c.map tu) = (rangeI 0 c.length).map fun i => PyData.tuple [.int i, tu (ixr c i)] := by
  have gen : ∀ (k : Nat) (qs : List (List Int)), c.drop k = qs → enumF (k : Int) (qs.map tu) = (rangeI k c.length).map fun i => PyData.tuple [.int i, tu (ixr c i)] := by
    intro k qs
    induction qs generalizing k with
    | nil =>
      intro e
      have hl : c.length ≤ k := List.drop_eq_nil_iff.mp e
      rw [rangeI_nil (by omega)]
      rfl
    | cons q qs ih =>
      intro e
      have hl : k < c.length := by
        refine Classical.byContradiction fun z => ?_
        rw [List.drop_eq_nil_iff.mpr (by omega)] at e
        cases e
      rw [List.drop_eq_getElem_cons hl] at e
      injection e with e1 e2
      rw [rangeI_cons (by omega), List.map_cons, List.map_cons]
      have := ih (k + 1) e2
      rw [show ((k + 1 : Nat) : Int) = (k : Int) + 1 by omega] at this
      show PyData.tuple [.int (k : Int), tu q] :: enumF ((k : Int) + 1) (qs.map tu) = _
      rw [this]
      congr 3
      unfold ixr
      rw [show ((k : Int)).toNat = k by omega, List.getElem?_eq_getElem hl, e1]
      rfl
  exact gen 0 c (by simp)
def mov (c d : List (List Int)) : List Int := (rangeI 0 c.length).filter fun i => !decide (ixr c i = ixr d i)
theorem mem_mov {c d : List (List Int)} {i : Int} : i ∈ mov c d ↔ (0 ≤ i ∧ i < (c.length : Int)) ∧ ixr c i ≠ ixr d i := by
  unfold mov
  rw [List.mem_filter, mem_rangeI]
  simp
theorem v_movers {c d : List (List Int)} (h : d.length = c.length) : m_movers [tt c, tt d] = .ok (li (mov c d)) := by
  show endR (g_movers [some (.d (tt c)), some (.d (tt d)), none, none]) = _
  have r := lc_of (enc := fun i : Int => PyData.tuple [.int i, tu (ixr c i)]) (fi := dEnum (dCons (dVar 0) dNil)) (t := .tp [.nm 2, .nm 3]) (ft := dAsB (dTwo oNe (dVar 3) (dTwo oIx (dVar 1) (dVar 2)))) (fe := dVar 2) (vs := [2, 3]) (ρ := [some (.d (tt c)), some (.d (tt d)), none, none]) (xs := rangeI 0 c.length) (st := fun i => [some (.d (tt c)), some (.d (tt d)), some (.d (.int i)), some (.d (tu (ixr c i)))]) (q := fun i => !decide (ixr c i = ixr d i)) (g := PyData.int) (by
    have ei : items (tt c) = .ok (c.map tu) := rfl
    rw [← enumF_rows]
    simp [ei]) (fun i hi => by
    obtain ⟨i0, i1⟩ := mem_rangeI.mp hi
    have e := ix_tt (L := d) i0 (by rw [h]; exact i1)
    exact ⟨rfl, by simp [e], fun _ => by simp⟩)
  unfold g_movers
  rw [ev_ret, r]
  rfl
end LW
set_option Elab.async false
set_option maxRecDepth 100000
set_option linter.all false
set_option maxHeartbeats 2000000
namespace LW
open PySem PySem.Spec PyProof.Rows L2 PD
def cst87 (g : Bool) (c u : Int) : Int := if g = true then c * 1000000000000000000000000000000 + u else c
theorem v_costs87 (c n m : Int) (g : Bool) (h0 : 0 ≤ n) (h1 : n ≤ 15) (h2 : 0 ≤ m) (h3 : m ≤ 50) : ∃ C : List (List Int), m_law_costs_k79 [.int c, .int n, .int m, .bool g] = .ok (tt C) ∧ Rows n m C := by
  show ∃ C : List (List Int), endR (g_law_costs_k79 [some (.d (.int c)), some (.d (.int n)), some (.d (.int m)), some (.d (.bool g)), none, none, none, none, none, none, none]) = _ ∧ _
  have hnm0 : 0 ≤ n * m := Int.mul_nonneg h0 h2
  have hnm : n * m ≤ 750 := by
    have a : n * m ≤ 15 * m := Int.mul_le_mul_of_nonneg_right h1 h2
    omega
  obtain ⟨L, e1, hL, bL⟩ := v_draws c (n * m + 1) (by omega) (by omega)
  have hLn : (L.length : Int) = n * m + 1 := by rw [hL]; omega
  have emul : oMul (.int n) (.int m) = .ok (.int (n * m)) := oMul_l (by omega) (by omega)
  have row : ∀ (x : Int) (R : List (List Int)) (u : Int) (o10 : Option Sl), 0 ≤ x → x < n → ∀ c0 : Int, -3 ≤ c0 → c0 ≤ 5 → ∃ (r : List Int) (c1 : Int) (o10' : Option Sl), forGo (.nm 10) b_law_costs_k79_1 ((rangeI 0 m).map .int) [some (.d (.int c)), some (.d (.int n)), some (.d (.int m)), some (.d (.bool g)), some (.d (li L)), some (.own (R.map tu)), some (.d (.int x)), some (.d (.int c0)), some (.d (.int u)), some (.own []), o10] =
      .nx [some (.d (.int c)), some (.d (.int n)), some (.d (.int m)), some (.d (.bool g)), some (.d (li L)), some (.own (R.map tu)), some (.d (.int x)), some (.d (.int c1)), some (.d (.int u)), some (.own (r.map .int)), o10'] ∧ (r.length : Int) = m ∧ r.Pairwise (· ≤ ·) := by
    intro x R u o10 x0 x1 c0 c00 c05
    have hxm0 : 0 ≤ x * m := Int.mul_nonneg x0 h2
    have hxm : x * m + m ≤ n * m := by
      have a : (x + 1) * m ≤ n * m := Int.mul_le_mul_of_nonneg_right (by omega) h2
      rw [Int.add_mul, Int.one_mul] at a
      exact a
    have exm : oMul (.int x) (.int m) = .ok (.int (x * m)) := oMul_l (by omega) (by omega)
    have key := forGo_inv (i := 10) (g := b_law_costs_k79_1) (enc := PyData.int) (fun xs ρ => ∃ (k c1 : Int) (r : List Int) (o10 : Option Sl), ρ = [some (.d (.int c)), some (.d (.int n)), some (.d (.int m)), some (.d (.bool g)), some (.d (li L)), some (.own (R.map tu)), some (.d (.int x)), some (.d (.int c1)), some (.d (.int u)), some (.own (r.map .int)), o10] ∧ xs = rangeI k m ∧ 0 ≤ k ∧ k ≤ m ∧ (r.length : Int) = k ∧ -3 ≤ c1 ∧ c1 ≤ 5 + 8 * k ∧ r.Pairwise (· ≤ ·) ∧ ∀ z ∈ r, z ≤ cst87 g c1 u) (by
      rintro y xs ρ ⟨k, c1, r, o10, rfl, hx, k0, k1, hr, b0, b1, hp, hb⟩
      obtain ⟨hk1, rfl, rfl⟩ := rangeI_inv hx
      have hs : r.length < sizeLine := line_lt (by omega)
      have ex := ix_li (L := L) (i := x * m + y) (by omega) (by omega)
      have m1 := fmod_lo (ixv L (x * m + y)) (b := 6) (by decide)
      have m2 := fmod_hi (ixv L (x * m + y)) (b := 6) (by decide)
      have e6 := ix_tu (L := [0, 1, 3, 0, 8, 2]) (i := (ixv L (x * m + y)).fmod 6) m1 (by simpa using m2)
      have m6 : ixv [0, 1, 3, 0, 8, 2] ((ixv L (x * m + y)).fmod 6) ∈ [0, 1, 3, 0, 8, 2] := ixv_mem m1 (by simpa using m2)
      generalize ixv [0, 1, 3, 0, 8, 2] ((ixv L (x * m + y)).fmod 6) = v at e6 m6
      have hv : 0 ≤ v ∧ v ≤ 8 := by
        simp only [List.mem_cons, List.not_mem_nil, or_false] at m6
        omega
      have next : ∃ c2 : Int, c1 ≤ c2 ∧ c2 ≤ c1 + 8 ∧ (if 0 < y then c1 + v else c1) = c2 := ⟨_, by split <;> omega, by split <;> omega, rfl⟩
      obtain ⟨c2, n1, n2, n3⟩ := next
      have step : ∀ z ∈ r, z ≤ cst87 g c2 u := fun z hz => by
        have h := hb z hz
        refine Int.le_trans h ?_
        unfold cst87
        cases g with
        | false => simpa using n1
        | true =>
          have : c1 * 1000000000000000000000000000000 ≤ c2 * 1000000000000000000000000000000 := Int.mul_le_mul_of_nonneg_right n1 (by decide)
          simp
          omega
      refine ⟨[some (.d (.int c)), some (.d (.int n)), some (.d (.int m)), some (.d (.bool g)), some (.d (li L)), some (.own (R.map tu)), some (.d (.int x)), some (.d (.int c2)), some (.d (.int u)), some (.own ((r ++ [cst87 g c2 u]).map .int)), some (.d (.int y))], ?_, y + 1, c2, _, _, rfl, rfl, by omega, by omega, by simp; omega, by omega, by omega, List.pairwise_append.mpr ⟨hp, List.pairwise_singleton _ _, fun a ha b hb2 => by rw [List.mem_singleton.mp hb2]; exact step a ha⟩, fun z hz => by
        rcases List.mem_append.mp hz with h | h
        · exact step z h
        · rw [List.mem_singleton.mp h]; exact Int.le_refl _⟩
      have eb : oMul (.int c2) (.int 1000000000000000000000000000000) = .ok (.int (c2 * 1000000000000000000000000000000)) := oMul_l (by omega) (by omega)
      by_cases hy : 0 < y
      · rw [if_pos hy] at n3
        cases g <;> simp [b_law_costs_k79_1, ex, exm, oMod_int, e6, hy, n3, eb, hs, cst87]
      · rw [if_neg hy] at n3
        subst n3
        cases g <;> simp [b_law_costs_k79_1, ex, exm, oMod_int, e6, hy, eb, hs, cst87])
    obtain ⟨ρ', e, k, c1, r, o10', rfl, hx, k0, k1, hr, _, _, hp, _⟩ := key (rangeI 0 m) [some (.d (.int c)), some (.d (.int n)), some (.d (.int m)), some (.d (.bool g)), some (.d (li L)), some (.own (R.map tu)), some (.d (.int x)), some (.d (.int c0)), some (.d (.int u)), some (.own []), o10] ⟨0, c0, [], o10, rfl, rfl, by omega, h2, rfl, by omega, by omega, .nil, by simp⟩
    have ek : k = m := by
      by_cases h : k < m
      · rw [rangeI_cons h] at hx; cases hx
      · omega
    exact ⟨r, c1, o10', e, by omega, hp⟩
  have key := forGo_inv (i := 6) (g := b_law_costs_k79_2) (enc := PyData.int) (fun xs ρ => ∃ (k : Int) (R : List (List Int)) (o6 o7 o8 o9 o10 : Option Sl), ρ = [some (.d (.int c)), some (.d (.int n)), some (.d (.int m)), some (.d (.bool g)), some (.d (li L)), some (.own (R.map tu)), o6, o7, o8, o9, o10] ∧ xs = rangeI k n ∧ 0 ≤ k ∧ k ≤ n ∧ Rows k m R) (by
    rintro x xs ρ ⟨k, R, o6, o7, o8, o9, o10, rfl, hx, k0, k1, hR⟩
    obtain ⟨hk1, rfl, rfl⟩ := rangeI_inv hx
    have hs : R.length < sizeLine := line_lt (by have := hR.1; omega)
    have hxm0 : 0 ≤ x * m := Int.mul_nonneg k0 h2
    have hxm : x * m + m ≤ n * m := by
      have a : (x + 1) * m ≤ n * m := Int.mul_le_mul_of_nonneg_right (by omega) h2
      rw [Int.add_mul, Int.one_mul] at a
      exact a
    have exm : oMul (.int x) (.int m) = .ok (.int (x * m)) := oMul_l (by omega) (by omega)
    have ex := ix_li (L := L) (i := x * m) (by omega) (by omega)
    have m1 := fmod_lo (ixv L (x * m)) (b := 9) (by decide)
    have m2 := fmod_hi (ixv L (x * m)) (b := 9) (by decide)
    generalize hu : (ixv L (x * m)).fmod 9 = u at m1 m2
    obtain ⟨r, c1, o10', e, hr, hp⟩ := row x R (((ixv L (x * m)).fdiv 9).fmod 3) o10 k0 hk1 (u - 3) (by omega) (by omega)
    refine ⟨[some (.d (.int c)), some (.d (.int n)), some (.d (.int m)), some (.d (.bool g)), some (.d (li L)), some (.own ((R ++ [r]).map tu)), some (.d (.int x)), some (.d (.int c1)), some (.d (.int (((ixv L (x * m)).fdiv 9).fmod 3))), some (.d (li r)), o10'], ?_, x + 1, _, _, _, _, _, _, rfl, rfl, by omega, by omega, by have := hR.1; simp; omega, fun y hy => ?_⟩
    · simp [b_law_costs_k79_2, exm, ex, oMod_int, oDiv_lit, hu, rngA1_ok (n := m) (by omega) (by omega), e, hs]
    · rcases List.mem_append.mp hy with h | h
      · exact hR.2 y h
      · rw [List.mem_singleton.mp h]; exact ⟨hr, hp⟩)
  obtain ⟨ρ', e, k, R, o6, o7, o8, o9, o10, rfl, hx, k0, k1, hR⟩ := key (rangeI 0 n) [some (.d (.int c)), some (.d (.int n)), some (.d (.int m)), some (.d (.bool g)), some (.d (li L)), some (.own []), none, none, none, none, none] ⟨0, [], none, none, none, none, none, rfl, rfl, by omega, h0, rfl, by simp⟩
  have ek : k = n := by
    by_cases h : k < n
    · rw [rangeI_cons h] at hx; cases hx
    · omega
  subst ek
  refine ⟨R, ?_, hR⟩
  simp [g_law_costs_k79, emul, e1, rngA1_ok (n := k) (by omega) (by omega), e]
end LW
set_option Elab.async false
set_option maxRecDepth 100000
set_option linter.all false
set_option maxHeartbeats 2000000
set_option Elab.async false
set_option maxRecDepth 100000
set_option linter.all false
set_option maxHeartbeats 2000000
set_option Elab.async false
set_option maxRecDepth 100000
set_option linter.all false
set_option maxHeartbeats 2000000
set_option Elab.async false
set_option maxRecDepth 100000
set_option linter.all false
set_option maxHeartbeats 2000000
namespace LW
open PySem PySem.Spec PyProof.Rows L2 PD
def rg (R : List (List (List Int))) (k : Nat) : List (List Int) := (R[k]?).getD []
theorem rg_mem {R : List (List (List Int))} {k : Nat} (h : k < R.length) : rg R k ∈ R := by
  unfold rg
  rw [List.getElem?_eq_getElem h]
  exact List.getElem_mem h
theorem ix_rg {R : List (List (List Int))} {i : Int} (h0 : 0 ≤ i) (h1 : i < (R.length : Int)) : oIx (.tuple (R.map tt)) (.int i) = .ok (tt (rg R i.toNat)) ∧ oIx (.list (R.map tt)) (.int i) = .ok (tt (rg R i.toNat)) := by
  have hl : i.toNat < R.length := by omega
  have e : R[i.toNat]? = some (rg R i.toNat) := by
    unfold rg
    rw [List.getElem?_eq_getElem hl]; rfl
  constructor
  · show (match atI (R.map tt) i with | some d => PD.R.ok d | none => PD.R.bad) = _
    rw [atI_get tt h0 e]
  · show (match atI (R.map tt) i with | some d => PD.R.ok d | none => PD.R.bad) = _
    rw [atI_get tt h0 e]
theorem ix_last {R : List (List (List Int))} (h : 0 < R.length) : oIx (.tuple (R.map tt)) (.int (-1)) = .ok (tt (rg R (R.length - 1))) := by
  have hl : R.length - 1 < R.length := by omega
  have e : R[R.length - 1]? = some (rg R (R.length - 1)) := by
    unfold rg
    rw [List.getElem?_eq_getElem hl]; rfl
  have a : atI (R.map tt) (-1) = some (tt (rg R (R.length - 1))) := by
    unfold atI ixN
    rw [if_neg (by omega), if_pos (by rw [List.length_map]; omega)]
    show (R.map tt)[((-1 : Int) + ((R.map tt).length : Int)).toNat]? = _
    rw [List.length_map, show ((-1 : Int) + (R.length : Int)).toNat = R.length - 1 by omega, List.getElem?_map, e]; rfl
  show (match atI (R.map tt) (-1) with | some d => PD.R.ok d | none => PD.R.bad) = _
  rw [a]
def stepB (ps : List Pl) (c d : List (List Int)) : Bool := decide ((mov c d).length = 1) && (mov c d).all fun i => decide (payD ps d i < payD ps c i)
end LW
set_option Elab.async false
set_option maxRecDepth 100000
set_option linter.all false
set_option maxHeartbeats 2000000
namespace LW
open PySem PySem.Spec PyProof.Rows L2 PD
section
variable {n : Int} {ps : List Pl} (G : Game n ps) (hz : ps.length ≤ 100)
include G hz
theorem v_all_less86 {c d : List (List Int)} (hc : Chs ps c) (hd : Chs ps d) {xs : List Int} (hx : ∀ i ∈ xs, 0 ≤ i ∧ i < (ps.length : Int)) : m_all_pay_less [gmD n ps, li xs, tt c, tt d] = .ok (.bool (xs.all fun i => decide (payD ps d i < payD ps c i))) := by
  show endR (g_all_pay_less [some (.d (gmD n ps)), some (.d (li xs)), some (.d (tt c)), some (.d (tt d)), none]) = _
  have r := lc_of (enc := PyData.int) (fi := dItems (dVar 1)) (t := .nm 4) (ft := dYes) (fe := dTwo oLt (dArg m_pay (dCons (dVar 0) (dCons (dVar 3) (dCons (dVar 4) dNil)))) (dArg m_pay (dCons (dVar 0) (dCons (dVar 2) (dCons (dVar 4) dNil))))) (vs := [4]) (ρ := [some (.d (gmD n ps)), some (.d (li xs)), some (.d (tt c)), some (.d (tt d)), none]) (xs := xs) (st := fun i => [some (.d (gmD n ps)), some (.d (li xs)), some (.d (tt c)), some (.d (tt d)), some (.d (.int i))]) (q := fun _ => true) (g := fun i => PyData.bool (decide (payD ps d i < payD ps c i))) (by simp) (fun i hi => by
    obtain ⟨i0, i1⟩ := hx i hi
    have e1 := v_pay n ps c i G hc i0 i1
    have e2 := v_pay n ps d i G hd i0 i1
    exact ⟨rfl, rfl, fun _ => by simp [e1, e2]⟩)
  rw [List.filter_eq_self.mpr (fun _ _ => rfl)] at r
  have b := bAll_map (fun i : Int => decide (payD ps d i < payD ps c i)) xs
  generalize (xs.map fun i => PyData.bool (decide (payD ps d i < payD ps c i))) = bl at r b
  unfold g_all_pay_less
  simp [-ev_lc]
  rw [r]
  simp [b]
end
end LW
set_option Elab.async false
set_option maxRecDepth 100000
set_option linter.all false
set_option maxHeartbeats 2000000
set_option Elab.async false
set_option maxRecDepth 100000
set_option linter.all false
set_option maxHeartbeats 2000000
set_option Elab.async false
set_option maxRecDepth 100000
set_option linter.all false
set_option maxHeartbeats 4000000
namespace LW
open PySem PySem.Spec PyProof.Rows L2 PD
def row85 (a b c : Int) : PyData := .tuple [.int a, .int b, .int c]
def off85 : PyData := .tuple [.int 3, .tuple [.tuple [.int 0], .tuple [.int 1], .tuple [.int 2]]]
def game85 : PyData := .tuple [.tuple [off85, .tuple [row85 2 3 3, row85 1 4 4, row85 5 5 5]], .tuple [off85, .tuple [row85 5 5 5, row85 2 3 3, row85 1 4 4]], .tuple [off85, .tuple [row85 1 4 4, row85 5 5 5, row85 2 3 3]]]
def ch85 (a b c : Int) : PyData := .tuple [.tuple [.int a], .tuple [.int b], .tuple [.int c]]
def ring85 : PyData := .tuple [ch85 0 1 0, ch85 0 2 0, ch85 0 2 2, ch85 1 2 2, ch85 1 1 2, ch85 1 1 0]
theorem round85 : m_round_game [] = .ok (.tuple [game85, ring85]) := by rfl
theorem ring_ok85 : m_is_ring [game85, ring85] = .ok (.bool true) := by rfl
theorem lring_ok85 : m_law_is_ring [game85, ring85] = .ok (.bool true) := by rfl
end LW
set_option Elab.async false
set_option maxRecDepth 100000
set_option linter.all false
set_option maxHeartbeats 2000000
namespace LW
open PySem PySem.Spec PyProof.Rows L2 PD
def prev85 (R : List (List (List Int))) (i : Int) : Nat := if i = 0 then R.length - 1 else (i - 1).toNat
def ringB (ps : List Pl) (R : List (List (List Int))) : Bool := decide (3 ≤ R.length) && (rangeI 0 R.length).all fun i : Int => stepB ps (rg R (prev85 R i)) (rg R i.toNat)
theorem prev85_ok {R : List (List (List Int))} {i : Int} (i0 : 0 ≤ i) (i1 : i < (R.length : Int)) : prev85 R i < R.length ∧ oIx (.tuple (R.map tt)) (.int (i - 1)) = .ok (tt (rg R (prev85 R i))) := by
  unfold prev85
  by_cases z : i = 0
  · rw [if_pos z, z]
    exact ⟨by omega, ix_last (by omega)⟩
  · rw [if_neg z]
    exact ⟨by omega, (ix_rg (by omega) (by omega)).1⟩
section
variable {n : Int} {ps : List Pl} (G : Game n ps) (hz : ps.length ≤ 100)
include G hz
theorem v_is_step85 {c d : List (List Int)} (hc : Chs ps c) (hd : Chs ps d) : m_is_step [gmD n ps, tt c, tt d] = .ok (.bool (stepB ps c d)) := by
  show endR (g_is_step [some (.d (gmD n ps)), some (.d (tt c)), some (.d (tt d)), none]) = _
  have e1 := v_movers (c := c) (d := d) (by rw [hc.len, hd.len])
  have e2 := v_all_less86 G hz hc hd (xs := mov c d) (fun i hi => by have := (mem_mov.mp hi).1; rw [hc.len] at this; exact this)
  unfold stepB
  by_cases q : (mov c d).length = 1
  · have q2 : ((mov c d).length : Int) = 1 := by omega
    simp [g_is_step, e1, e2, q, q2]
  · have q2 : ¬ ((mov c d).length : Int) = 1 := by omega
    simp [g_is_step, e1, q, q2]
theorem v_is_ring85 {R : List (List (List Int))} (hR : ∀ r ∈ R, Chs ps r) (hl : R.length ≤ 200) : m_is_ring [gmD n ps, .tuple (R.map tt)] = .ok (.bool (ringB ps R)) := by
  show endR (g_is_ring [some (.d (gmD n ps)), some (.d (.tuple (R.map tt))), none]) = _
  have ll : bLen [.tuple (R.map tt)] = .ok (.int R.length) := by simp [bLen]
  unfold ringB
  by_cases q : (R.length : Int) < 3
  · have q2 : ¬ 3 ≤ R.length := by omega
    rw [decide_eq_false q2]
    generalize PyData.tuple (R.map tt) = D at ll
    simp [g_is_ring, ll, q]
  · have q2 : 3 ≤ R.length := by omega
    have r := lc_of (enc := PyData.int) (fi := dRng1 (dCons (dArg bLen (dCons (dVar 1) dNil)) dNil)) (t := .nm 2) (ft := dYes) (fe := dArg m_is_step (dCons (dVar 0) (dCons (dTwo oIx (dVar 1) (dTwo oSub (dVar 2) (dC (.int 1)))) (dCons (dTwo oIx (dVar 1) (dVar 2)) dNil)))) (vs := [2]) (ρ := [some (.d (gmD n ps)), some (.d (.tuple (R.map tt))), none]) (xs := rangeI 0 R.length) (st := fun i => [some (.d (gmD n ps)), some (.d (.tuple (R.map tt))), some (.d (.int i))]) (q := fun _ => true) (g := fun i => PyData.bool (stepB ps (rg R (prev85 R i)) (rg R i.toNat))) (by
      generalize PyData.tuple (R.map tt) = D at ll
      simp [ll, rngA1_ok (n := (R.length : Int)) (by omega) (by omega)]) (fun i hi => by
      obtain ⟨i0, i1⟩ := mem_rangeI.mp hi
      obtain ⟨p1, p2⟩ := prev85_ok i0 i1
      have p3 := (ix_rg (R := R) i0 i1).1
      have es := v_is_step85 G hz (hR _ (rg_mem p1)) (hR _ (rg_mem (show i.toNat < R.length by omega)))
      generalize PyData.tuple (R.map tt) = D at p2 p3
      exact ⟨rfl, rfl, fun _ => by simp [p2, p3, es]⟩)
    rw [List.filter_eq_self.mpr (fun _ _ => rfl)] at r
    have b := bAll_map (fun i : Int => stepB ps (rg R (prev85 R i)) (rg R i.toNat)) (rangeI 0 R.length)
    generalize ((rangeI 0 R.length).all fun i : Int => stepB ps (rg R (prev85 R i)) (rg R i.toNat)) = v at *
    generalize PyData.list ((rangeI 0 R.length).map fun i => PyData.bool (stepB ps (rg R (prev85 R i)) (rg R i.toNat))) = Z at *
    generalize PyData.tuple (R.map tt) = D at *
    simp [g_is_ring, ll, q, -ev_lc, r, b, q2]
theorem v_law_ring85 {R : List (List (List Int))} (hR : ∀ r ∈ R, Chs ps r) (hl : R.length ≤ 200) : m_law_is_ring [gmD n ps, .tuple (R.map tt)] = .ok (.bool (ringB ps R)) := by
  show endR (g_law_is_ring [some (.d (gmD n ps)), some (.d (.tuple (R.map tt))), none, none, none, none, none]) = _
  have ll : bLen [.tuple (R.map tt)] = .ok (.int R.length) := by simp [bLen]
  have lg : bLen [gmD n ps] = .ok (.int ps.length) := by simp [gmD, bLen]
  unfold ringB
  by_cases q : (R.length : Int) < 3
  · have q2 : ¬ 3 ≤ R.length := by omega
    rw [decide_eq_false q2]
    generalize PyData.tuple (R.map tt) = D at ll
    simp [g_law_is_ring, ll, q]
  · have q2 : 3 ≤ R.length := by omega
    rw [decide_eq_true q2, Bool.true_and]
    have key := forGo_find (i := 2) (g := b_law_is_ring_1) (enc := PyData.int) (fun ρ => ∃ o2 o3 o4 o5 o6, ρ = [some (.d (gmD n ps)), some (.d (.tuple (R.map tt))), o2, o3, o4, o5, o6]) (fun i => if stepB ps (rg R (prev85 R i)) (rg R i.toNat) = true then none else some (.bool false)) (xs := rangeI 0 R.length) (by
      rintro i hi ρ ⟨o2, o3, o4, o5, o6, rfl⟩
      obtain ⟨i0, i1⟩ := mem_rangeI.mp hi
      obtain ⟨p1, p2⟩ := prev85_ok i0 i1
      have p3 := (ix_rg (R := R) i0 i1).1
      have hb := hR _ (rg_mem p1)
      have ha := hR _ (rg_mem (show i.toNat < R.length by omega))
      generalize rg R (prev85 R i) = c at *
      generalize rg R i.toNat = d at *
      have lc := lc_of (enc := PyData.int) (fi := dRng1 (dCons (dArg bLen (dCons (dVar 0) dNil)) dNil)) (t := .nm 6) (ft := dAsB (dTwo oNe (dTwo oIx (dVar 3) (dVar 6)) (dTwo oIx (dVar 4) (dVar 6)))) (fe := dVar 6) (vs := [6]) (ρ := [some (.d (gmD n ps)), some (.d (.tuple (R.map tt))), some (.d (.int i)), some (.d (tt c)), some (.d (tt d)), o5, o6]) (xs := rangeI 0 (ps.length : Int)) (st := fun k => [some (.d (gmD n ps)), some (.d (.tuple (R.map tt))), some (.d (.int i)), some (.d (tt c)), some (.d (tt d)), o5, some (.d (.int k))]) (q := fun k => !decide (ixr c k = ixr d k)) (g := PyData.int) (by
        generalize PyData.tuple (R.map tt) = D at *
        simp [lg, rngA1_ok (n := (ps.length : Int)) (by omega) (by omega)]) (fun k hk => by
        obtain ⟨k0, k1⟩ := mem_rangeI.mp hk
        have x1 := ix_tt (L := c) k0 (by rw [hb.len]; exact k1)
        have x2 := ix_tt (L := d) k0 (by rw [ha.len]; exact k1)
        refine ⟨rfl, ?_, fun _ => rfl⟩
        generalize PyData.tuple (R.map tt) = D at *
        simp [x1, x2])
      have em : ((rangeI 0 (ps.length : Int)).filter fun k => !decide (ixr c k = ixr d k)) = mov c d := by unfold mov; rw [hb.len]
      rw [em] at lc
      have lc : dLc (dRng1 (dCons (dArg bLen (dCons (dVar 0) dNil)) dNil)) (.nm 6) (dAsB (dTwo oNe (dTwo oIx (dVar 3) (dVar 6)) (dTwo oIx (dVar 4) (dVar 6)))) (dVar 6) [6] [some (.d (gmD n ps)), some (.d (.tuple (R.map tt))), some (.d (.int i)), some (.d (tt c)), some (.d (tt d)), o5, o6] = .ok (li (mov c d)) := lc
      have bm : bLen [li (mov c d)] = .ok (.int ((mov c d).length : Nat)) := by simp
      unfold stepB
      by_cases q3 : (mov c d).length = 1
      · obtain ⟨j, hj⟩ := List.length_eq_one_iff.mp q3
        have hm := (mem_mov.mp (show j ∈ mov c d by rw [hj]; exact List.mem_cons_self)).1
        rw [hb.len] at hm
        have y1 := v_law_pay n ps c j G hb hm.1 hm.2
        have y2 := v_law_pay n ps d j G ha hm.1 hm.2
        rw [hj] at lc bm ⊢
        have ix : oIx (li [j]) (.int 0) = .ok (.int j) := rfl
        by_cases q4 : payD ps d j < payD ps c j
        · have q5 : ¬ payD ps c j ≤ payD ps d j := by omega
          rw [if_pos (by simp [q4])]
          refine ⟨[some (.d (gmD n ps)), some (.d (.tuple (R.map tt))), some (.d (.int i)), some (.d (tt c)), some (.d (tt d)), some (.d (li [j])), o6], ?_, _, _, _, _, _, rfl⟩
          generalize li [j] = J at *
          generalize PyData.tuple (R.map tt) = D at *
          generalize tt c = cD at *
          generalize tt d = dD at *
          simp [b_law_is_ring_1, p2, p3, -ev_lc, lc, bm, ix, y1, y2, q5]
        · have q5 : payD ps c j ≤ payD ps d j := by omega
          rw [if_neg (by simp [q4])]
          generalize li [j] = J at *
          generalize PyData.tuple (R.map tt) = D at *
          generalize tt c = cD at *
          generalize tt d = dD at *
          simp [b_law_is_ring_1, p2, p3, -ev_lc, lc, bm, ix, y1, y2, q5]
      · have q5 : ¬ ((mov c d).length : Int) = 1 := by omega
        rw [if_neg (by simp [q3])]
        generalize li (mov c d) = J at *
        generalize PyData.tuple (R.map tt) = D at *
        generalize tt c = cD at *
        generalize tt d = dD at *
        simp [b_law_is_ring_1, p2, p3, -ev_lc, lc, bm, q5])
    have r := key [some (.d (gmD n ps)), some (.d (.tuple (R.map tt))), none, none, none, none, none] ⟨none, none, none, none, none, rfl⟩
    have rg1 := rngA1_ok (n := (R.length : Int)) (by omega) (by omega)
    by_cases hall : ((rangeI 0 R.length).all fun i : Int => stepB ps (rg R (prev85 R i)) (rg R i.toNat)) = true
    · rw [hall]
      rw [List.findSome?_eq_none_iff.mpr (fun i hi => if_pos (List.all_eq_true.mp hall i hi))] at r
      obtain ⟨ρ', r, o2, o3, o4, o5, o6, rfl⟩ := r
      generalize PyData.tuple (R.map tt) = D at *
      generalize ((R.length : Nat) : Int) = N at *
      simp [g_law_is_ring, ll, q, rg1, r]
    · have hf : ((rangeI 0 R.length).all fun i : Int => stepB ps (rg R (prev85 R i)) (rg R i.toNat)) = false := by simpa using hall
      rw [hf]
      cases hs : (rangeI 0 (R.length : Int)).findSome? (fun i => if stepB ps (rg R (prev85 R i)) (rg R i.toNat) = true then none else some (PyData.bool false)) with
      | none =>
        refine absurd (List.all_eq_true.mpr fun i hi => ?_) hall
        have := List.findSome?_eq_none_iff.mp hs i hi
        by_cases c : stepB ps (rg R (prev85 R i)) (rg R i.toNat) = true
        · exact c
        · rw [if_neg c] at this; cases this
      | some d =>
        rw [hs] at r
        have r : forGo (.nm 2) b_law_is_ring_1 _ _ = .rt d := r
        obtain ⟨i, _, hd⟩ := List.exists_of_findSome?_eq_some hs
        have ed : d = .bool false := by
          split at hd
          · cases hd
          · injection hd with hd; exact hd.symm
        rw [ed] at r
        generalize PyData.tuple (R.map tt) = D at *
        generalize ((R.length : Nat) : Int) = N at *
        simp [g_law_is_ring, ll, q, rg1, r]
end
end LW
set_option Elab.async false
set_option maxRecDepth 100000
set_option linter.all false
set_option maxHeartbeats 2000000
namespace LW
open PySem PySem.Spec PyProof.Rows L2 PD
theorem walk_step85 {n i j P m : Int} {GD LD CD CD2 LTS T1 T2 l : PyData} {FD : List PyData} {k : Int} {o6 o7 : Option Sl} {x1 x2 c0 : Int} (fl : FD.length < sizeLine) (lg : bLen [GD] = .ok (.int P)) (hp : 0 < P) (om : oMul (.int 2) (.int k) = .ok (.int (2 * k))) (e1 : oIx LD (.int (1 + 2 * k)) = .ok (.int x1)) (e2 : oIx LD (.int (2 + 2 * k)) = .ok (.int x2)) (m1 : oMod (.int x1) (.int P) = .ok (.int i))
    (g1 : oIx GD (.int i) = .ok T1) (g2 : oIx T1 (.int 0) = .ok T2) (g3 : oIx T2 (.int 1) = .ok LTS) (ll : bLen [LTS] = .ok (.int m)) (m2 : oMod (.int x2) (.int m) = .ok (.int j)) (g4 : oIx LTS (.int j) = .ok l) (w : m_law_with [CD, .int i, l] = .ok CD2) :
    b_law_walk_1 [some (.d (.int c0)), some (.d GD), some (.d LD), some (.d CD), some (.own FD), some (.d (.int k)), o6, o7] = .nx [some (.d (.int c0)), some (.d GD), some (.d LD), some (.d CD2), some (.own (FD ++ [CD])), some (.d (.int k)), some (.d (.int i)), some (.d LTS)] := by
  simp [b_law_walk_1, fl, lg, hp, om, e1, e2, m1, g1, g2, g3, ll, m2, g4, w]
theorem walk_none85 {P : Int} {GD LD CD : PyData} {FD : List PyData} {k : Int} {o6 o7 : Option Sl} {c0 : Int} (fl : FD.length < sizeLine) (lg : bLen [GD] = .ok (.int P)) (hp : ¬ 0 < P) :
    b_law_walk_1 [some (.d (.int c0)), some (.d GD), some (.d LD), some (.d CD), some (.own FD), some (.d (.int k)), o6, o7] = .nx [some (.d (.int c0)), some (.d GD), some (.d LD), some (.d CD), some (.own (FD ++ [CD])), some (.d (.int k)), o6, o7] := by
  simp [b_law_walk_1, fl, lg, hp]
theorem v_walk85 (c0 n : Int) (ps : List Pl) (G : Game n ps) (hz : ps.length ≤ 100) : ∃ R : List (List (List Int)), m_law_walk [.int c0, gmD n ps] = .ok (.list (R.map tt)) ∧ (∀ r ∈ R, Chs ps r) ∧ R.length ≤ 8 := by
  show ∃ R : List (List (List Int)), endR (g_law_walk [some (.d (.int c0)), some (.d (gmD n ps)), none, none, none, none, none, none]) = _ ∧ _
  obtain ⟨L, eL, hL, bL⟩ := v_draws c0 18 (by decide) (by decide)
  have hL2 : L.length = 18 := hL
  have e0 := ix_li (L := L) (i := 0) (by decide) (by omega)
  have e17 := ix_li (L := L) (i := 17) (by decide) (by omega)
  obtain ⟨ch, ec, hc⟩ := v_choice (ixv L 17) n ps G.toPlay (by omega)
  have a0 := fmod_lo (ixv L 0) (b := 9) (by decide)
  have a1 := fmod_hi (ixv L 0) (b := 9) (by decide)
  have ma := oMod_int (i := ixv L 0) (j := 9) (by decide)
  generalize (ixv L 0).fmod 9 = m at a0 a1 ma
  have lg : bLen [gmD n ps] = .ok (.int ps.length) := by simp [gmD, bLen]
  have key := forGo_inv (i := 5) (g := b_law_walk_1) (enc := PyData.int) (fun xs ρ => ∃ (k : Int) (R : List (List (List Int))) (c : List (List Int)) (o5 o6 o7 : Option Sl), ρ = [some (.d (.int c0)), some (.d (gmD n ps)), some (.d (li L)), some (.d (tt c)), some (.own (R.map tt)), o5, o6, o7] ∧ xs = rangeI k m ∧ 0 ≤ k ∧ k ≤ m ∧ (R.length : Int) = k ∧ (∀ r ∈ R, Chs ps r) ∧ Chs ps c) (by
    rintro y xs ρ ⟨k, R, c, o5, o6, o7, rfl, hx, k0, k1, hl, hR, hcc⟩
    obtain ⟨hk1, rfl, rfl⟩ := rangeI_inv hx
    have fl : (R.map tt).length < sizeLine := line_lt (by rw [List.length_map]; omega)
    have em : R.map tt ++ [tt c] = (R ++ [c]).map tt := by simp
    have hR2 : ∀ r ∈ R ++ [c], Chs ps r := fun r hr => by
      rcases List.mem_append.mp hr with h | h
      · exact hR r h
      · rw [List.mem_singleton.mp h]; exact hcc
    by_cases hp : 0 < (ps.length : Int)
    · have i0 := fmod_lo (ixv L (1 + 2 * y)) (b := (ps.length : Int)) hp
      have i1 := fmod_hi (ixv L (1 + 2 * y)) (b := (ps.length : Int)) hp
      have mi := oMod_int (i := ixv L (1 + 2 * y)) (j := (ps.length : Int)) (by omega)
      generalize (ixv L (1 + 2 * y)).fmod (ps.length : Int) = i at i0 i1 mi
      have good := G.good _ (plx_mem i0 i1)
      have lp : 0 < (plx ps i).ls.length := List.length_pos_iff.mpr good.ne
      have j0 := fmod_lo (ixv L (2 + 2 * y)) (b := ((plx ps i).ls.length : Int)) (by omega)
      have j1 := fmod_hi (ixv L (2 + 2 * y)) (b := ((plx ps i).ls.length : Int)) (by omega)
      have mj := oMod_int (i := ixv L (2 + 2 * y)) (j := ((plx ps i).ls.length : Int)) (by omega)
      generalize (ixv L (2 + 2 * y)).fmod ((plx ps i).ls.length : Int) = j at j0 j1 mj
      have w := v_law_with c i (ixr (plx ps i).ls j) i0 (by rw [hcc.len]; exact i1) (by rw [hcc.len]; omega)
      have st := walk_step85 (n := n) (k := y) (o6 := o6) (o7 := o7) (c0 := c0) fl lg hp (oMul_l (by decide) (by decide)) (ix_li (L := L) (i := 1 + 2 * y) (by omega) (by omega)) (ix_li (L := L) (i := 2 + 2 * y) (by omega) (by omega)) mi (ix_tk (ps := ps) (n := n) i0 i1) (T2 := ofr n (plx ps i).ls) rfl (LTS := tt (plx ps i).ls) rfl (by simp) mj (ix_tt j0 j1) w
      rw [em] at st
      exact ⟨_, st, y + 1, R ++ [c], _, _, _, _, rfl, rfl, by omega, by omega, by simp; omega, hR2, hcc.with i0 i1 (ixr_mem j0 j1)⟩
    · have st := walk_none85 (k := y) (o6 := o6) (o7 := o7) (c0 := c0) (LD := li L) (CD := tt c) fl lg hp
      rw [em] at st
      exact ⟨_, st, y + 1, R ++ [c], c, _, _, _, rfl, rfl, by omega, by omega, by simp; omega, hR2, hcc⟩)
  obtain ⟨ρ', e, k, R, c, o5, o6, o7, rfl, hx, k0, k1, hl, hR, hcc⟩ := key (rangeI 0 m) [some (.d (.int c0)), some (.d (gmD n ps)), some (.d (li L)), some (.d (tt ch)), some (.own []), none, none, none] ⟨0, [], ch, none, none, none, rfl, rfl, by omega, a0, rfl, fun r hr => (by cases hr), hc⟩
  refine ⟨R, ?_, hR, by omega⟩
  have rg1 := rngA1_ok (n := m) (by omega) (by omega)
  generalize gmD n ps = GD at *
  generalize li L = LD at *
  generalize R.map tt = RM at *
  generalize tt ch = CH at *
  simp [g_law_walk, eL, e0, e17, ec, ma, rg1, e]
end LW
set_option Elab.async false
set_option maxRecDepth 100000
set_option linter.all false
set_option maxHeartbeats 2000000
namespace LW
open PySem PySem.Spec PyProof.Rows L2 PD
theorem cut_mem85 {X : List PyData} {lo hi : Option Int} {d : PyData} (h : d ∈ cutD X lo hi) : d ∈ X := List.mem_of_mem_drop (List.mem_of_mem_take h)
theorem oCut85 (X : List PyData) (lo hi : Option Int) : oCut (.list X) lo hi = .ok (.list (cutD X lo hi)) := rfl
theorem oAdd85 {A B : List PyData} (h : A.length + B.length ≤ 1000) : oAdd (.list A) (.list B) = .ok (.list (A ++ B)) := by
  have : A.length + B.length ≤ sizeLine := Nat.le_of_lt (line_lt (by omega))
  first | exact if_pos this | (unfold oAdd; simp [this])
theorem ixX85 {X : List PyData} {i : Int} {d : PyData} (h0 : 0 ≤ i) (h : X[i.toNat]? = some d) : oIx (.list X) (.int i) = .ok d := by
  have := atI_get (fun d : PyData => d) h0 h
  rw [List.map_id'] at this
  show (match atI X i with | some d => R.ok d | none => .bad) = _
  rw [this]
/-- what becomes of the ring -/
def To85 (X : List PyData) (CH : PyData) (X' : List PyData) : Prop := (∀ d ∈ X', d ∈ X ∨ d = CH) ∧ X'.length ≤ 200
section
variable {GD LD CH : PyData} {X : List PyData} {N kd at' x0 x1 x2 : Int} (hl : X.length ≤ 20) (e0 : oIx LD (.int 0) = .ok (.int x0)) (e1 : oIx LD (.int 1) = .ok (.int x1)) (e2 : oIx LD (.int 2) = .ok (.int x2)) (m0 : oMod (.int x0) (.int 12) = .ok (.int kd)) (lx : bLen [.list X] = .ok (.int N)) (hN : N = (X.length : Int)) (ha : (0 < N ∧ oMod (.int x1) (.int N) = .ok (.int at')) ∨ (¬ 0 < N ∧ at' = 0)) (ch : m_law_choice [.int x2, GD] = .ok CH)
include hl e0 e1 e2 m0 lx hN ha ch
theorem chg1 (hk : kd = 1) : ∃ X', endR (g_law_changed_k85 [some (.d GD), some (.d (.list X)), some (.d LD), none, none, none, none, none, none, none, none]) = .ok (.tuple [GD, .tuple X']) ∧ To85 X CH X' := by
  subst hk
  have l1 := cutD_length X (some at') none
  have l2 := cutD_length X none (some at')
  have ad := oAdd85 (A := cutD X (some at') none) (B := cutD X none (some at')) (by omega)
  refine ⟨cutD X (some at') none ++ cutD X none (some at'), ?_, fun d hd => .inl ?_, by rw [List.length_append]; omega⟩
  · have bt : bTuple [.list (cutD X (some at') none ++ cutD X none (some at'))] = .ok (.tuple (cutD X (some at') none ++ cutD X none (some at'))) := rfl
    have c1 := oCut85 X (some at') none
    have c2 := oCut85 X none (some at')
    generalize cutD X (some at') none ++ cutD X none (some at') = Y at *
    generalize cutD X (some at') none = A at *
    generalize cutD X none (some at') = B at *
    generalize PyData.list X = XD at *
    rcases ha with ⟨p, ma⟩ | ⟨p, rfl⟩
    · simp [g_law_changed_k85, e0, m0, lx, p, e1, ma, c1, c2, ad, bt]
    · simp [g_law_changed_k85, e0, m0, lx, p, c1, c2, ad, bt]
  · rcases List.mem_append.mp hd with h | h <;> exact cut_mem85 h
theorem chg2 (hk : kd = 2) : ∃ X', endR (g_law_changed_k85 [some (.d GD), some (.d (.list X)), some (.d LD), none, none, none, none, none, none, none, none]) = .ok (.tuple [GD, .tuple X']) ∧ To85 X CH X' := by
  subst hk
  have rg1 := rngA1_ok (n := N) (by omega) (by omega)
  let f : Int → PyData := fun k => (X[(N - 1 - k).toNat]?).getD .none
  have hf : ∀ k, 0 ≤ k → k < N → X[(N - 1 - k).toNat]? = some (f k) := fun k k0 k1 => by
    have : (N - 1 - k).toNat < X.length := by omega
    show X[(N - 1 - k).toNat]? = some ((X[(N - 1 - k).toNat]?).getD .none)
    rw [List.getElem?_eq_getElem this]; rfl
  have r := lc_of (enc := PyData.int) (fi := dRng1 (dCons (dArg bLen (dCons (dVar 1) dNil)) dNil)) (t := .nm 10) (ft := dYes) (fe := dTwo oIx (dVar 1) (dTwo oSub (dTwo oSub (dArg bLen (dCons (dVar 1) dNil)) (dC (.int 1))) (dVar 10))) (vs := [10]) (ρ := [some (.d GD), some (.d (.list X)), some (.d LD), some (.d (.int 2)), some (.d (.int at')), none, none, none, none, none, none]) (xs := rangeI 0 N) (st := fun k => [some (.d GD), some (.d (.list X)), some (.d LD), some (.d (.int 2)), some (.d (.int at')), none, none, none, none, none, some (.d (.int k))]) (q := fun _ => true) (g := f) (by
    generalize PyData.list X = XD at *
    simp [lx, rg1]) (fun k hk => by
    obtain ⟨k0, k1⟩ := mem_rangeI.mp hk
    have x := ixX85 (show 0 ≤ N - 1 - k by omega) (hf k k0 k1)
    generalize f k = Z at x ⊢
    generalize PyData.list X = XD at *
    exact ⟨rfl, rfl, fun _ => by simp [lx, x]⟩)
  rw [List.filter_eq_self.mpr (fun _ _ => rfl)] at r
  refine ⟨(rangeI 0 N).map f, ?_, fun d hd => .inl ?_, by rw [List.length_map, rangeI_len]; omega⟩
  · have bt : bTuple [.list ((rangeI 0 N).map f)] = .ok (.tuple ((rangeI 0 N).map f)) := rfl
    generalize (rangeI 0 N).map f = Y at *
    generalize PyData.list Y = YD at *
    generalize PyData.list X = XD at *
    rcases ha with ⟨p, ma⟩ | ⟨p, rfl⟩
    · simp [g_law_changed_k85, e0, m0, lx, p, e1, ma, -ev_lc, r, bt]
    · simp [g_law_changed_k85, e0, m0, lx, p, -ev_lc, r, bt]
  · obtain ⟨k, hk, rfl⟩ := List.mem_map.mp hd
    obtain ⟨k0, k1⟩ := mem_rangeI.mp hk
    exact List.mem_of_getElem? (hf k k0 k1)
theorem chg3 (hk : kd = 3) : ∃ X', endR (g_law_changed_k85 [some (.d GD), some (.d (.list X)), some (.d LD), none, none, none, none, none, none, none, none]) = .ok (.tuple [GD, .tuple X']) ∧ To85 X CH X' := by
  subst hk
  have l1 := cutD_length X none (some at')
  have l2 := cutD_length X (some (at' + 1)) none
  have ad := oAdd85 (A := cutD X none (some at')) (B := cutD X (some (at' + 1)) none) (by omega)
  refine ⟨cutD X none (some at') ++ cutD X (some (at' + 1)) none, ?_, fun d hd => ?_, by first | omega | (simp only [List.length_append, List.length_cons, List.length_nil]; omega)⟩
  · have bt : bTuple [.list (cutD X none (some at') ++ cutD X (some (at' + 1)) none)] = .ok (.tuple (cutD X none (some at') ++ cutD X (some (at' + 1)) none)) := rfl
    have c1 := oCut85 X none (some at')
    have c2 := oCut85 X (some (at' + 1)) none
    generalize cutD X none (some at') ++ cutD X (some (at' + 1)) none = Y at *
    generalize cutD X none (some at') = A at *
    generalize hB : cutD X (some (at' + 1)) none = B at *
    generalize PyData.list X = XD at *
    rcases ha with ⟨p, ma⟩ | ⟨p, rfl⟩
    · simp [g_law_changed_k85, e0, m0, lx, p, e1, ma, bt, c1, c2, ad]
    · rw [Int.zero_add] at c2
      simp [g_law_changed_k85, e0, m0, lx, p, bt, c1, c2, ad]
  · refine .inl ?_
    rcases List.mem_append.mp hd with h | h <;> exact cut_mem85 h
theorem chg4 (hk : kd = 4) : ∃ X', endR (g_law_changed_k85 [some (.d GD), some (.d (.list X)), some (.d LD), none, none, none, none, none, none, none, none]) = .ok (.tuple [GD, .tuple X']) ∧ To85 X CH X' := by
  subst hk
  have l1 := cutD_length X none (some at')
  have l2 := cutD_length X (some at') (some (at' + 1))
  have l3 := cutD_length X (some at') none
  have ad := oAdd85 (A := cutD X none (some at')) (B := cutD X (some at') (some (at' + 1))) (by omega)
  have ad2 := oAdd85 (A := cutD X none (some at') ++ cutD X (some at') (some (at' + 1))) (B := cutD X (some at') none) (by rw [List.length_append]; omega)
  refine ⟨(cutD X none (some at') ++ cutD X (some at') (some (at' + 1))) ++ cutD X (some at') none, ?_, fun d hd => ?_, by first | omega | (simp only [List.length_append, List.length_cons, List.length_nil]; omega)⟩
  · have bt : bTuple [.list ((cutD X none (some at') ++ cutD X (some at') (some (at' + 1))) ++ cutD X (some at') none)] = .ok (.tuple ((cutD X none (some at') ++ cutD X (some at') (some (at' + 1))) ++ cutD X (some at') none)) := rfl
    have c1 := oCut85 X none (some at')
    have c2 := oCut85 X (some at') (some (at' + 1))
    have c3 := oCut85 X (some at') none
    generalize (cutD X none (some at') ++ cutD X (some at') (some (at' + 1))) ++ cutD X (some at') none = Y at *
    generalize cutD X none (some at') ++ cutD X (some at') (some (at' + 1)) = Y2 at *
    generalize cutD X none (some at') = A at *
    generalize cutD X (some at') (some (at' + 1)) = B at *
    generalize cutD X (some at') none = C at *
    generalize PyData.list X = XD at *
    rcases ha with ⟨p, ma⟩ | ⟨p, rfl⟩
    · simp [g_law_changed_k85, e0, m0, lx, p, e1, ma, bt, c1, c2, c3, ad, ad2]
    · rw [Int.zero_add] at c2
      simp [g_law_changed_k85, e0, m0, lx, p, bt, c1, c2, c3, ad, ad2]
  · refine .inl ?_
    rcases List.mem_append.mp hd with h | h
    · rcases List.mem_append.mp h with h | h <;> exact cut_mem85 h
    · exact cut_mem85 h
theorem chg5 (hk : kd = 5) : ∃ X', endR (g_law_changed_k85 [some (.d GD), some (.d (.list X)), some (.d LD), none, none, none, none, none, none, none, none]) = .ok (.tuple [GD, .tuple X']) ∧ To85 X CH X' := by
  subst hk
  have l1 := cutD_length X none (some at')
  have l3 := cutD_length X (some at') none
  have ad := oAdd85 (A := cutD X none (some at')) (B := [CH]) (by simp; omega)
  have ad2 := oAdd85 (A := cutD X none (some at') ++ [CH]) (B := cutD X (some at') none) (by rw [List.length_append]; simp; omega)
  refine ⟨(cutD X none (some at') ++ [CH]) ++ cutD X (some at') none, ?_, fun d hd => ?_, by first | omega | (simp only [List.length_append, List.length_cons, List.length_nil]; omega)⟩
  · have bt : bTuple [.list ((cutD X none (some at') ++ [CH]) ++ cutD X (some at') none)] = .ok (.tuple ((cutD X none (some at') ++ [CH]) ++ cutD X (some at') none)) := rfl
    have c1 := oCut85 X none (some at')
    have c3 := oCut85 X (some at') none
    generalize (cutD X none (some at') ++ [CH]) ++ cutD X (some at') none = Y at *
    generalize cutD X none (some at') ++ [CH] = Y2 at *
    generalize cutD X none (some at') = A at *
    generalize cutD X (some at') none = C at *
    generalize PyData.list X = XD at *
    rcases ha with ⟨p, ma⟩ | ⟨p, rfl⟩
    · simp [g_law_changed_k85, e0, m0, lx, p, e1, ma, bt, e2, ch, c1, c3, ad, ad2]
    · simp [g_law_changed_k85, e0, m0, lx, p, bt, e2, ch, c1, c3, ad, ad2]
  · rcases List.mem_append.mp hd with h | h
    · rcases List.mem_append.mp h with h | h
      · exact .inl (cut_mem85 h)
      · exact .inr (List.mem_singleton.mp h)
    · exact .inl (cut_mem85 h)
theorem chg6 (hk : kd = 6) : ∃ X', endR (g_law_changed_k85 [some (.d GD), some (.d (.list X)), some (.d LD), none, none, none, none, none, none, none, none]) = .ok (.tuple [GD, .tuple X']) ∧ To85 X CH X' := by
  subst hk
  have ad := oAdd85 (A := X) (B := X) (by omega)
  refine ⟨X ++ X, ?_, fun d hd => ?_, by first | omega | (simp only [List.length_append, List.length_cons, List.length_nil]; omega)⟩
  · have bt : bTuple [.list (X ++ X)] = .ok (.tuple (X ++ X)) := rfl
    generalize X ++ X = Y at *
    generalize PyData.list X = XD at *
    rcases ha with ⟨p, ma⟩ | ⟨p, rfl⟩
    · simp [g_law_changed_k85, e0, m0, lx, p, e1, ma, bt, ad]
    · simp [g_law_changed_k85, e0, m0, lx, p, bt, ad]
  · refine .inl ?_
    rcases List.mem_append.mp hd with h | h <;> exact h
theorem chg7 (hk : kd = 7) : ∃ X', endR (g_law_changed_k85 [some (.d GD), some (.d (.list X)), some (.d LD), none, none, none, none, none, none, none, none]) = .ok (.tuple [GD, .tuple X']) ∧ To85 X CH X' := by
  subst hk
  have l1 := cutD_length X none (some (x2.fmod 3))
  have m3 := oMod_int (i := x2) (j := 3) (by decide)
  refine ⟨cutD X none (some (x2.fmod 3)), ?_, fun d hd => ?_, by first | omega | (simp only [List.length_append, List.length_cons, List.length_nil]; omega)⟩
  · have bt : bTuple [.list (cutD X none (some (x2.fmod 3)))] = .ok (.tuple (cutD X none (some (x2.fmod 3)))) := rfl
    have c1 := oCut85 X none (some (x2.fmod 3))
    generalize x2.fmod 3 = v at *
    generalize cutD X none (some v) = Y at *
    generalize PyData.list X = XD at *
    rcases ha with ⟨p, ma⟩ | ⟨p, rfl⟩
    · simp [g_law_changed_k85, e0, m0, lx, p, e1, ma, bt, e2, m3, c1]
    · simp [g_law_changed_k85, e0, m0, lx, p, bt, e2, m3, c1]
  · exact .inl (cut_mem85 hd)
theorem chg_o (h1 : (kd == 1) = false) (h2 : (kd == 2) = false) (h3 : (kd == 3) = false) (h4 : (kd == 4) = false) (h5 : (kd == 5) = false) (h6 : (kd == 6) = false) (h7 : (kd == 7) = false) (h8 : (kd == 8) = false) : ∃ X', endR (g_law_changed_k85 [some (.d GD), some (.d (.list X)), some (.d LD), none, none, none, none, none, none, none, none]) = .ok (.tuple [GD, .tuple X']) ∧ To85 X CH X' := by
  refine ⟨X, ?_, fun d hd => .inl hd, by omega⟩
  have bt : bTuple [.list X] = .ok (.tuple X) := rfl
  generalize PyData.tuple X = TX at *
  generalize PyData.list X = XD at *
  rcases ha with ⟨p, ma⟩ | ⟨p, rfl⟩
  · simp [g_law_changed_k85, e0, m0, lx, p, e1, ma, bt, h1, h2, h3, h4, h5, h6, h7, h8]
  · simp [g_law_changed_k85, e0, m0, lx, p, bt, h1, h2, h3, h4, h5, h6, h7, h8]
end
end LW
set_option Elab.async false
set_option maxRecDepth 100000
set_option linter.all false
set_option maxHeartbeats 2000000
namespace LW
open PySem PySem.Spec PyProof.Rows L2 PD
theorem cutT_to {X : List PyData} {i : Int} (h0 : 0 ≤ i) (h1 : i < (X.length : Int)) : oCut (.tuple X) none (some i) = .ok (.tuple (X.take i.toNat)) := by
  show R.ok (PyData.tuple (PD.cutD X none (some i))) = _
  have e : i = ((i.toNat : Nat) : Int) := by omega
  rw [e]
  unfold PD.cutD
  rw [HT.sIx_nat, HT.sIx_none, Nat.min_eq_left (by omega), List.drop_zero, Nat.sub_zero, Int.toNat_natCast]
theorem cutT_from {X : List PyData} {i : Int} (h0 : 0 ≤ i) (h1 : i < (X.length : Int)) : oCut (.tuple X) (some (i + 1)) none = .ok (.tuple (X.drop (i.toNat + 1))) := by
  show R.ok (PyData.tuple (PD.cutD X (some (i + 1)) none)) = _
  have e : i + 1 = ((i.toNat + 1 : Nat) : Int) := by omega
  rw [e]
  unfold PD.cutD
  rw [HT.sIx_nat, HT.sIx_none, Nat.min_eq_left (by omega), List.take_of_length_le (by rw [List.length_drop]; omega)]
theorem oAddT85 {A B : List PyData} (h : A.length + B.length ≤ 5000) : oAdd (.tuple A) (.tuple B) = .ok (.tuple (A ++ B)) := by
  have : A.length + B.length ≤ sizeLine := Nat.le_of_lt (line_lt (by omega))
  exact if_pos this
theorem set_eq85 {X : List PyData} {i : Int} {d : PyData} (h0 : 0 ≤ i) (h1 : i < (X.length : Int)) : X.take i.toNat ++ [d] ++ X.drop (i.toNat + 1) = X.set i.toNat d := by
  rw [List.set_eq_take_append_cons_drop, if_pos (by omega), List.append_assoc]
  rfl
theorem v_with_any {X : List PyData} {i : Int} {d : PyData} (h0 : 0 ≤ i) (h1 : i < (X.length : Int)) (hz : X.length ≤ 900) : m_law_with [.tuple X, .int i, d] = .ok (.tuple (X.set i.toNat d)) := by
  show endR (g_law_with [some (.d (.tuple X)), some (.d (.int i)), some (.d d)]) = _
  have a1 := oAddT85 (A := X.take i.toNat) (B := [d]) (by rw [List.length_take, List.length_singleton]; omega)
  have a2 := oAddT85 (A := X.take i.toNat ++ [d]) (B := X.drop (i.toNat + 1)) (by rw [List.length_append, List.length_take, List.length_singleton, List.length_drop]; omega)
  rw [set_eq85 h0 h1] at a2
  have c1 := cutT_to h0 h1
  have c2 := cutT_from h0 h1
  generalize PyData.tuple (X.set i.toNat d) = Z at *
  generalize PyData.tuple X = XD at *
  generalize X.take i.toNat = A at *
  generalize X.drop (i.toNat + 1) = B at *
  simp [g_law_with, c1, c2, a1, a2]
/-- the players with a new table at i -/
def setC85 (ps : List Pl) (i : Int) (C : List (List Int)) : List Pl := ps.set i.toNat { plx ps i with C := C }
theorem setC_gm {n i : Int} {ps : List Pl} {C : List (List Int)} : (ps.map (tkD n)).set i.toNat (.tuple [ofr n (plx ps i).ls, tt C]) = (setC85 ps i C).map (tkD n) := by
  unfold setC85
  rw [List.map_set]
  rfl
theorem setC_mem {ps : List Pl} {i : Int} {C : List (List Int)} {p : Pl} (h0 : 0 ≤ i) (h1 : i < (ps.length : Int)) (h : p ∈ setC85 ps i C) : (∃ q ∈ ps, q.ls = p.ls ∧ q.w = p.w ∧ q.C = p.C) ∨ (p.ls = (plx ps i).ls ∧ p.w = (plx ps i).w ∧ p.C = C) := by
  rcases List.mem_or_eq_of_mem_set h with h | h
  · exact .inl ⟨p, h, rfl, rfl, rfl⟩
  · exact .inr ⟨by rw [h], by rw [h], by rw [h]⟩
theorem setC_ws {ps : List Pl} {i : Int} {C : List (List Int)} (h0 : 0 ≤ i) (h1 : i < (ps.length : Int)) : (setC85 ps i C).map (fun p => p.w) = ps.map fun p => p.w := by
  unfold setC85
  rw [List.map_set]
  refine List.ext_getElem? fun j => ?_
  by_cases e : i.toNat = j
  · subst e
    have hl : i.toNat < ps.length := by omega
    rw [List.getElem?_set_self (by rw [List.length_map]; exact hl), List.getElem?_map, List.getElem?_eq_getElem hl]
    show some (plx ps i).w = _
    unfold plx
    rw [List.getElem?_eq_getElem hl]; rfl
  · rw [List.getElem?_set_ne e]
theorem setC_ls {ps : List Pl} {i j : Int} {C : List (List Int)} (h0 : 0 ≤ i) (h1 : i < (ps.length : Int)) (j0 : 0 ≤ j) : (plx (setC85 ps i C) j).ls = (plx ps j).ls := by
  unfold setC85
  by_cases e : i.toNat = j.toNat
  · have ej : j = i := by omega
    subst ej
    have hl : j.toNat < ps.length := by omega
    conv => lhs; unfold plx
    rw [List.getElem?_set_self hl]
    rfl
  · conv => lhs; unfold plx
    rw [List.getElem?_set_ne e]
    rfl
theorem setC_chs {ps : List Pl} {i : Int} {C ch : List (List Int)} (h0 : 0 ≤ i) (h1 : i < (ps.length : Int)) (h : Chs ps ch) : Chs (setC85 ps i C) ch := by
  have hl : (setC85 ps i C).length = ps.length := by unfold setC85; rw [List.length_set]
  refine ⟨by rw [hl]; exact h.len, fun j j0 j1 => ?_⟩
  rw [hl] at j1
  rw [setC_ls h0 h1 j0]
  exact h.mem j j0 j1
theorem setC_game {n i k : Int} {ps : List Pl} {row : List Int} (G : Game n ps) (h0 : 0 ≤ i) (h1 : i < (ps.length : Int)) (k0 : 0 ≤ k) (k1 : k < n) (hl : row.length = (ixr (plx ps i).C k).length) (up : row.Pairwise (· ≤ ·)) : Game n (setC85 ps i (withL (plx ps i).C k row)) := by
  have m := plx_mem h0 h1
  have rl := G.rows _ m
  have inC : ∀ r ∈ withL (plx ps i).C k row, r ∈ (plx ps i).C ∨ r = row := fun r hr => List.mem_or_eq_of_mem_set hr
  have oldr : ixr (plx ps i).C k ∈ (plx ps i).C := ixr_mem k0 (by omega)
  refine { n0 := G.n0, n1 := G.n1, good := fun p hp => ?_, rows := fun p hp => ?_, room := fun p hp r hr => ?_, w1 := fun p hp => ?_, one := fun p hp => ?_, up := fun p hp r hr => ?_ }
  · rcases setC_mem h0 h1 hp with ⟨q, hq, e1, e2, e3⟩ | ⟨e1, e2, e3⟩
    · rw [← e1]; exact G.good q hq
    · rw [e1]; exact G.good _ m
  · rcases setC_mem h0 h1 hp with ⟨q, hq, e1, e2, e3⟩ | ⟨e1, e2, e3⟩
    · rw [← e3]; exact G.rows q hq
    · rw [e3, with_len]; exact rl
  · rw [setC_ws h0 h1]
    rcases setC_mem h0 h1 hp with ⟨q, hq, e1, e2, e3⟩ | ⟨e1, e2, e3⟩
    · rw [← e3] at hr; exact G.room q hq r hr
    · rw [e3] at hr
      rcases inC r hr with h | h
      · exact G.room _ m r h
      · rw [h, hl]; exact G.room _ m _ oldr
  · rcases setC_mem h0 h1 hp with ⟨q, hq, e1, e2, e3⟩ | ⟨e1, e2, e3⟩
    · rw [← e2]; exact G.w1 q hq
    · rw [e2]; exact G.w1 _ m
  · rcases setC_mem h0 h1 hp with ⟨q, hq, e1, e2, e3⟩ | ⟨e1, e2, e3⟩
    · rw [← e2]; exact G.one q hq
    · rw [e2]; exact G.one _ m
  · rcases setC_mem h0 h1 hp with ⟨q, hq, e1, e2, e3⟩ | ⟨e1, e2, e3⟩
    · rw [← e3] at hr; exact G.up q hq r hr
    · rw [e3] at hr
      rcases inC r hr with h | h
      · exact G.up _ m r h
      · rw [h]; exact up
end LW
set_option Elab.async false
set_option maxRecDepth 100000
set_option linter.all false
set_option maxHeartbeats 2000000
namespace LW
open PySem PySem.Spec PyProof.Rows L2 PD
theorem row_key85 {low v : Int} (hv : 0 ≤ v) (hv2 : v < 4) (m : Int) : ((rangeI 0 m).map fun k => low + v * (if 0 < k then 1 else 0)).Pairwise (· ≤ ·) := by
  unfold rangeI
  rw [List.map_map]
  refine List.Pairwise.map _ (fun a b h => ?_) List.pairwise_lt_range
  show low + v * (if 0 < (0 : Int) + (a : Int) then 1 else 0) ≤ low + v * (if 0 < (0 : Int) + (b : Int) then 1 else 0)
  have hb : 0 < (0 : Int) + (b : Int) := by omega
  rw [if_pos hb]
  split <;> omega
theorem mul_b85 {v : Int} (h0 : 0 ≤ v) (h1 : v < 4) (b : Bool) : oMul (.int v) (.int (if b then 1 else 0)) = .ok (.int (v * (if b then 1 else 0))) := oMul_l (by omega) (by omega)
section
variable {n : Int} {ps : List Pl} {LD : PyData} {X : List PyData} {N at' x0 x1 x2 x3 x4 : Int} (G : Game n ps) (hz : ps.length ≤ 100) (hrow : ∀ p ∈ ps, ∀ r ∈ p.C, r.length ≤ 100) (hl : X.length ≤ 20) (e0 : oIx LD (.int 0) = .ok (.int x0)) (e1 : oIx LD (.int 1) = .ok (.int x1)) (e2 : oIx LD (.int 2) = .ok (.int x2)) (e3 : oIx LD (.int 3) = .ok (.int x3)) (e4 : oIx LD (.int 4) = .ok (.int x4)) (m0 : oMod (.int x0) (.int 12) = .ok (.int 8)) (lx : bLen [.list X] = .ok (.int N)) (ha : (0 < N ∧ oMod (.int x1) (.int N) = .ok (.int at')) ∨ (¬ 0 < N ∧ at' = 0))
include G hz hrow hl e0 e1 e2 e3 e4 m0 lx ha
theorem chg8 : ∃ ps', endR (g_law_changed_k85 [some (.d (gmD n ps)), some (.d (.list X)), some (.d LD), none, none, none, none, none, none, none, none]) = .ok (.tuple [gmD n ps', .tuple X]) ∧ Game n ps' ∧ ps'.length = ps.length ∧ ∀ ch, Chs ps ch → Chs ps' ch := by
  have lg : bLen [gmD n ps] = .ok (.int ps.length) := by simp [gmD, bLen]
  have bt : bTuple [.list X] = .ok (.tuple X) := rfl
  by_cases hp : 0 < (ps.length : Int)
  · have t0 := ix_tk (ps := ps) (n := n) (i := 0) (by omega) hp
    have y0 : oIx (tkD n (plx ps 0)) (.int 0) = .ok (ofr n (plx ps 0).ls) := rfl
    have z0 : oIx (ofr n (plx ps 0).ls) (.int 0) = .ok (.int n) := rfl
    by_cases hn : 0 < n
    · have i0 := fmod_lo x1 (b := (ps.length : Int)) hp
      have i1 := fmod_hi x1 (b := (ps.length : Int)) hp
      have mi := oMod_int (i := x1) (j := (ps.length : Int)) (by omega)
      generalize x1.fmod (ps.length : Int) = i at i0 i1 mi
      have k0 := fmod_lo x2 (b := n) hn
      have k1 := fmod_hi x2 (b := n) hn
      have mk := oMod_int (i := x2) (j := n) (by omega)
      generalize x2.fmod n = k at k0 k1 mk
      have ti := ix_tk (ps := ps) (n := n) i0 i1
      have yi0 : oIx (tkD n (plx ps i)) (.int 0) = .ok (ofr n (plx ps i).ls) := rfl
      have yi1 : oIx (tkD n (plx ps i)) (.int 1) = .ok (tt (plx ps i).C) := rfl
      have cl := G.rows _ (plx_mem i0 i1)
      have rk := ix_tt (L := (plx ps i).C) k0 (by omega)
      have rm : bLen [tu (ixr (plx ps i).C k)] = .ok (.int (ixr (plx ps i).C k).length) := by simp
      have a6 := oMod_int (i := x3) (j := 6) (by decide)
      have a4 := oMod_int (i := x4) (j := 4) (by decide)
      have v0 := fmod_lo x4 (b := 4) (by decide)
      have v1 := fmod_hi x4 (b := 4) (by decide)
      generalize x3.fmod 6 = low at a6
      generalize x4.fmod 4 = v at a4 v0 v1
      have bi : ∀ b : Bool, bInt [.bool b] = .ok (.int (if b then 1 else 0)) := fun b => by cases b <;> rfl
      have rg1 := rngA1_ok (n := ((ixr (plx ps i).C k).length : Int)) (by
        have := hrow _ (plx_mem i0 i1) _ (ixr_mem (L := (plx ps i).C) k0 (by omega))
        omega) (by omega)
      have r := lc_of (enc := PyData.int) (fi := dRng1 (dCons (dArg bLen (dCons (dTwo oIx (dVar 7) (dVar 6)) dNil)) dNil)) (t := .nm 10) (ft := dYes) (fe := dTwo oAdd (dVar 8) (dTwo oMul (dTwo oMod (dArg bInt (dCons (dTwo oIx (dVar 2) (dC (.int 4))) dNil)) (dC (.int 4))) (dArg bInt (dCons (dTwo oGt (dVar 10) (dC (.int 0))) dNil)))) (vs := [10]) (ρ := [some (.d (gmD n ps)), some (.d (.list X)), some (.d LD), some (.d (.int 8)), some (.d (.int at')), some (.d (.int i)), some (.d (.int k)), some (.d (tt (plx ps i).C)), some (.d (.int low)), none, none]) (xs := rangeI 0 ((ixr (plx ps i).C k).length : Int)) (st := fun j => [some (.d (gmD n ps)), some (.d (.list X)), some (.d LD), some (.d (.int 8)), some (.d (.int at')), some (.d (.int i)), some (.d (.int k)), some (.d (tt (plx ps i).C)), some (.d (.int low)), none, some (.d (.int j))]) (q := fun _ => true) (g := fun j => PyData.int (low + v * (if 0 < j then 1 else 0))) (by
        generalize gmD n ps = GD at *
        generalize PyData.list X = XD at *
        generalize tt (plx ps i).C = CD at *
        simp [rk, rm, rg1]) (fun j hj => ⟨rfl, rfl, fun _ => by
        have mb := mul_b85 v0 v1 (decide (0 < j))
        have e5 : (if decide (0 < j) = true then (1 : Int) else 0) = if 0 < j then 1 else 0 := by by_cases h : 0 < j <;> simp [h]
        rw [e5] at mb
        have b5 := bi (decide (0 < j))
        rw [e5] at b5
        generalize gmD n ps = GD at *
        generalize PyData.list X = XD at *
        generalize tt (plx ps i).C = CD at *
        generalize (if 0 < j then (1 : Int) else 0) = w at *
        simp [e4, a4, b5, mb]⟩)
      rw [List.filter_eq_self.mpr (fun _ _ => rfl)] at r
      have el : PyData.list ((rangeI 0 ((ixr (plx ps i).C k).length : Int)).map fun j => PyData.int (low + v * (if 0 < j then 1 else 0))) = li ((rangeI 0 ((ixr (plx ps i).C k).length : Int)).map fun j => low + v * (if 0 < j then 1 else 0)) := by unfold li; rw [List.map_map]; rfl
      rw [el] at r
      have rowl : ((rangeI 0 ((ixr (plx ps i).C k).length : Int)).map fun j => low + v * (if 0 < j then 1 else 0)).length = (ixr (plx ps i).C k).length := by rw [List.length_map, rangeI_len]; omega
      have rowu := row_key85 (low := low) v0 v1 ((ixr (plx ps i).C k).length : Int)
      generalize ((rangeI 0 ((ixr (plx ps i).C k).length : Int)).map fun j => low + v * (if 0 < j then 1 else 0)) = row at *
      have bt2 : bTuple [li row] = .ok (tu row) := rfl
      have c1 := cut_to' (ch := (plx ps i).C) k0 (by omega)
      have c2 := cut_from' (ch := (plx ps i).C) k0 (by omega)
      have hn9 := G.n1
      have s1 : oAdd (tt ((plx ps i).C.take k.toNat)) (tt [row]) = .ok (tt ((plx ps i).C.take k.toNat ++ [row])) := oAdd_tt (by rw [List.length_take, List.length_singleton]; omega)
      have s2 : oAdd (tt ((plx ps i).C.take k.toNat ++ [row])) (tt ((plx ps i).C.drop (k.toNat + 1))) = .ok (tt (withL (plx ps i).C k row)) := by
        rw [oAdd_tt (by rw [List.length_append, List.length_take, List.length_singleton, List.length_drop]; omega), with_eq k0 (by omega)]
      have tt1 : PyData.tuple [tu row] = tt [row] := rfl
      have w := v_with_any (X := ps.map (tkD n)) (i := i) (d := .tuple [ofr n (plx ps i).ls, tt (withL (plx ps i).C k row)]) i0 (by rw [List.length_map]; exact i1) (by rw [List.length_map]; omega)
      rw [setC_gm] at w
      have w : m_law_with [gmD n ps, .int i, .tuple [ofr n (plx ps i).ls, tt (withL (plx ps i).C k row)]] = .ok (gmD n (setC85 ps i (withL (plx ps i).C k row))) := w
      refine ⟨setC85 ps i (withL (plx ps i).C k row), ?_, setC_game G i0 i1 k0 k1 rowl rowu, by unfold setC85; rw [List.length_set], fun ch h => setC_chs i0 i1 h⟩
      generalize gmD n (setC85 ps i (withL (plx ps i).C k row)) = GD2 at *
      generalize tt (withL (plx ps i).C k row) = CD2 at *
      generalize tt ((plx ps i).C.take k.toNat ++ [row]) = C3 at *
      generalize tt ((plx ps i).C.take k.toNat) = C4 at *
      generalize tt ((plx ps i).C.drop (k.toNat + 1)) = C5 at *
      generalize tt (plx ps i).C = CD at *
      generalize gmD n ps = GD at *
      generalize tkD n (plx ps 0) = T0 at *
      generalize tkD n (plx ps i) = Ti at *
      generalize ofr n (plx ps i).ls = Oi at *
      generalize ofr n (plx ps 0).ls = O0 at *
      generalize PyData.tuple X = TX at *
      generalize PyData.list X = XD at *
      generalize ((ps.length : Nat) : Int) = P at *
      generalize tt [row] = R1 at *
      generalize tu row = R0 at *
      generalize li row = RL at *
      rcases ha with ⟨p, ma⟩ | ⟨p, rfl⟩
      · simp [g_law_changed_k85, e0, m0, lx, p, e1, ma, bt, lg, hp, t0, y0, z0, hn, mi, e2, mk, ti, yi0, yi1, e3, a6, -ev_lc, r, bt2, c1, c2, tt1, s1, s2, w]
      · simp [g_law_changed_k85, e0, m0, lx, p, e1, bt, lg, hp, t0, y0, z0, hn, mi, e2, mk, ti, yi0, yi1, e3, a6, -ev_lc, r, bt2, c1, c2, tt1, s1, s2, w]
    · refine ⟨ps, ?_, G, rfl, fun _ h => h⟩
      generalize gmD n ps = GD at *
      generalize tkD n (plx ps 0) = T0 at *
      generalize ofr n (plx ps 0).ls = O0 at *
      generalize PyData.tuple X = TX at *
      generalize PyData.list X = XD at *
      generalize ((ps.length : Nat) : Int) = P at *
      rcases ha with ⟨p, ma⟩ | ⟨p, rfl⟩
      · simp [g_law_changed_k85, e0, m0, lx, p, e1, ma, bt, lg, hp, t0, y0, z0, hn]
      · simp [g_law_changed_k85, e0, m0, lx, p, bt, lg, hp, t0, y0, z0, hn]
  · refine ⟨ps, ?_, G, rfl, fun _ h => h⟩
    generalize gmD n ps = GD at *
    generalize PyData.tuple X = TX at *
    generalize PyData.list X = XD at *
    generalize ((ps.length : Nat) : Int) = P at *
    rcases ha with ⟨p, ma⟩ | ⟨p, rfl⟩
    · simp [g_law_changed_k85, e0, m0, lx, p, e1, ma, bt, lg, hp]
    · simp [g_law_changed_k85, e0, m0, lx, p, bt, lg, hp]
end
end LW
set_option Elab.async false
set_option maxRecDepth 100000
set_option linter.all false
set_option maxHeartbeats 2000000
namespace LW
open PySem PySem.Spec PyProof.Rows L2 PD
theorem v_game85 (ns : List Int) (f : Int) (hf : 0 ≤ f) : ∃ (n : Int) (ps : List Pl), m_law_game_k86 [li ns, .int f, .bool false] = .ok (gmD n ps) ∧ Game n ps ∧ ps.length ≤ 3 ∧ (∀ p ∈ ps, ∀ r ∈ p.C, r.length ≤ 100) := by
  show ∃ (n : Int) (ps : List Pl), endR (g_law_game_k86 [some (.d (li ns)), some (.d (.int f)), some (.d (.bool false)), none, none, none, none, none, none, none, none, none]) = _ ∧ _
  obtain ⟨c0, e0⟩ := v_cell ns f hf
  obtain ⟨L, eL, hL, bL⟩ := v_draws c0 4 (by decide) (by decide)
  have hL2 : L.length = 4 := hL
  have e30 := ix_li (L := L) (i := 0) (by decide) (by omega)
  have e31 := ix_li (L := L) (i := 1) (by decide) (by omega)
  have e32 := ix_li (L := L) (i := 2) (by decide) (by omega)
  have e33 := ix_li (L := L) (i := 3) (by decide) (by omega)
  have f8a := fmod_lo (ixv L 0) (b := 8) (by decide)
  have f8b := fmod_hi (ixv L 0) (b := 8) (by decide)
  have e8 := ix_tu (L := [1, 2, 2, 2, 3, 3, 2, 0]) (i := (ixv L 0).fmod 8) f8a (by simpa using f8b)
  have m8 : ixv [1, 2, 2, 2, 3, 3, 2, 0] ((ixv L 0).fmod 8) ∈ [1, 2, 2, 2, 3, 3, 2, 0] := ixv_mem f8a (by simpa using f8b)
  generalize ixv [1, 2, 2, 2, 3, 3, 2, 0] ((ixv L 0).fmod 8) = T at e8 m8
  have hT : 0 ≤ T ∧ T ≤ 3 := by
    simp only [List.mem_cons, List.not_mem_nil, or_false] at m8
    omega
  have g8a := fmod_lo (ixv L 1) (b := 8) (by decide)
  have g8b := fmod_hi (ixv L 1) (b := 8) (by decide)
  have e9 := ix_tu (L := [3, 4, 3, 2, 3, 1, 4, 0]) (i := (ixv L 1).fmod 8) g8a (by simpa using g8b)
  have m9 : ixv [3, 4, 3, 2, 3, 1, 4, 0] ((ixv L 1).fmod 8) ∈ [3, 4, 3, 2, 3, 1, 4, 0] := ixv_mem g8a (by simpa using g8b)
  generalize ixv [3, 4, 3, 2, 3, 1, 4, 0] ((ixv L 1).fmod 8) = n at e9 m9
  have hn : 0 ≤ n ∧ n ≤ 4 := by
    simp only [List.mem_cons, List.not_mem_nil, or_false] at m9
    omega
  have h2a := fmod_lo (ixv L 2) (b := 2) (by decide)
  have h2b := fmod_hi (ixv L 2) (b := 2) (by decide)
  generalize hu : (ixv L 2).fmod 2 = u at h2a h2b
  have key := forGo_inv (i := 7) (g := b_law_game_k86_1) (enc := PyData.int) (fun xs ρ => ∃ (k : Int) (ps : List Pl) (o7 o8 o9 o10 o11 : Option Sl), ρ = [some (.d (li ns)), some (.d (.int f)), some (.d (.bool false)), some (.d (li L)), some (.d (.int T)), some (.d (.int n)), some (.own (ps.map (tkD n))), o7, o8, o9, o10, o11] ∧ xs = rangeI k T ∧ 0 ≤ k ∧ k ≤ T ∧ (ps.length : Int) = k ∧ ∀ p ∈ ps, Tk n (T + u) false p) (by
    rintro x xs ρ ⟨k, ps, o7, o8, o9, o10, o11, rfl, hx, k0, k1, hl, hp⟩
    obtain ⟨hk1, rfl, rfl⟩ := rangeI_inv hx
    have hs : ps.length < sizeLine := line_lt (by omega)
    have om : oMul (.int 2) (.int x) = .ok (.int (2 * x)) := oMul_l (by decide) (by decide)
    obtain ⟨c1, e1⟩ := v_cell ns (f + 1 + 2 * x) (by omega)
    obtain ⟨c2, e2⟩ := v_cell ns (f + 2 + 2 * x) (by omega)
    obtain ⟨ls, e3, g3⟩ := v_lots79 c1 n hn.1 (by omega)
    obtain ⟨C, eC, hC⟩ := v_costs87 c2 n (T + u) ((ixv L 3).fmod 8 == 1) hn.1 (by omega) (by omega) (by omega)
    refine ⟨[some (.d (li ns)), some (.d (.int f)), some (.d (.bool false)), some (.d (li L)), some (.d (.int T)), some (.d (.int n)), some (.own ((ps ++ [(⟨ls, C, 1⟩ : Pl)]).map (tkD n))), some (.d (.int x)), some (.d (.int c1)), some (.d (tt ls)), some (.d (.int (T + u))), some (.d (tt C))], ?_, x + 1, ps ++ [(⟨ls, C, 1⟩ : Pl)], _, _, _, _, _, rfl, rfl, by omega, by omega, by simp; omega, fun p hp2 => ?_⟩
    · have et : PyData.tuple [.tuple [.int n, tt ls], tt C] = tkD n ⟨ls, C, 1⟩ := rfl
      generalize hgb : ((ixv L 3).fmod 8 == 1) = gb at *
      rw [List.map_append, List.map_cons, List.map_nil]
      generalize tkD n (⟨ls, C, 1⟩ : Pl) = Z at et ⊢
      simp [b_law_game_k86_1, om, e1, e2, e3, e32, e33, oMod_int, hu, hgb, eC, et, hs]
    · rcases List.mem_append.mp hp2 with h | h
      · exact hp p h
      · rw [List.mem_singleton.mp h]; exact ⟨g3, hC, rfl, fun z => by cases z⟩)
  obtain ⟨ρ', e, k, ps, o7, o8, o9, o10, o11, rfl, hx, k0, k1, hl, hp⟩ := key (rangeI 0 T) [some (.d (li ns)), some (.d (.int f)), some (.d (.bool false)), some (.d (li L)), some (.d (.int T)), some (.d (.int n)), some (.own []), none, none, none, none, none] ⟨0, [], none, none, none, none, none, rfl, rfl, by omega, hT.1, rfl, by simp⟩
  have ek : k = T := by
    by_cases h : k < T
    · rw [rangeI_cons h] at hx; cases hx
    · omega
  refine ⟨n, ps, ?_, tk_game hn.1 (by omega) (by omega) hp, by omega, fun p h r hr => by have := ((hp p h).rows.2 r hr).1; omega⟩
  simp [g_law_game_k86, e0, eL, e30, e31, oMod_int, e8, e9, rngA1_ok (n := T) (by omega) (by omega), e, -List.map_map]
  rfl
theorem lift85 {P : List (List Int) → Prop} : ∀ {X : List PyData}, (∀ d ∈ X, ∃ r, d = tt r ∧ P r) → ∃ R : List (List (List Int)), X = R.map tt ∧ ∀ r ∈ R, P r
  | [], _ => ⟨[], rfl, fun r h => by cases h⟩
  | d :: X, h => by
    obtain ⟨r, rfl, hr⟩ := h d List.mem_cons_self
    obtain ⟨R, rfl, hR⟩ := lift85 fun e he => h e (List.mem_cons_of_mem _ he)
    exact ⟨r :: R, rfl, fun x hx => by
      rcases List.mem_cons.mp hx with z | z
      · rw [z]; exact hr
      · exact hR x z⟩
theorem v_changed85 {n : Int} {ps : List Pl} (G : Game n ps) (hz : ps.length ≤ 100) (hrow : ∀ p ∈ ps, ∀ r ∈ p.C, r.length ≤ 100) {R : List (List (List Int))} (hR : ∀ r ∈ R, Chs ps r) (hl : R.length ≤ 20) {L : List Int} (hL : L.length = 5) :
    ∃ (ps' : List Pl) (R' : List (List (List Int))), m_law_changed_k85 [gmD n ps, .list (R.map tt), li L] = .ok (.tuple [gmD n ps', .tuple (R'.map tt)]) ∧ Game n ps' ∧ ps'.length = ps.length ∧ (∀ r ∈ R', Chs ps' r) ∧ R'.length ≤ 200 := by
  show ∃ (ps' : List Pl) (R' : List (List (List Int))), endR (g_law_changed_k85 [some (.d (gmD n ps)), some (.d (.list (R.map tt))), some (.d (li L)), none, none, none, none, none, none, none, none]) = _ ∧ _
  have e0 := ix_li (L := L) (i := 0) (by decide) (by omega)
  have e1 := ix_li (L := L) (i := 1) (by decide) (by omega)
  have e2 := ix_li (L := L) (i := 2) (by decide) (by omega)
  have e3 := ix_li (L := L) (i := 3) (by decide) (by omega)
  have e4 := ix_li (L := L) (i := 4) (by decide) (by omega)
  have m0 := oMod_int (i := ixv L 0) (j := 12) (by decide)
  obtain ⟨ch, ec, hc⟩ := v_choice (ixv L 2) n ps G.toPlay (by omega)
  have xl : (R.map tt).length ≤ 20 := by rw [List.length_map]; exact hl
  have lx : bLen [.list (R.map tt)] = .ok (.int ((R.map tt).length : Int)) := rfl
  have ha : ∃ at' : Int, (0 < ((R.map tt).length : Int) ∧ oMod (.int (ixv L 1)) (.int ((R.map tt).length : Int)) = .ok (.int at')) ∨ (¬ 0 < ((R.map tt).length : Int) ∧ at' = 0) := by
    by_cases h : 0 < ((R.map tt).length : Int)
    · exact ⟨_, .inl ⟨h, oMod_int (by omega)⟩⟩
    · exact ⟨0, .inr ⟨h, rfl⟩⟩
  obtain ⟨at', ha⟩ := ha
  have fin : (∃ X', endR (g_law_changed_k85 [some (.d (gmD n ps)), some (.d (.list (R.map tt))), some (.d (li L)), none, none, none, none, none, none, none, none]) = .ok (.tuple [gmD n ps, .tuple X']) ∧ To85 (R.map tt) (tt ch) X') → ∃ (ps' : List Pl) (R' : List (List (List Int))), endR (g_law_changed_k85 [some (.d (gmD n ps)), some (.d (.list (R.map tt))), some (.d (li L)), none, none, none, none, none, none, none, none]) = .ok (.tuple [gmD n ps', .tuple (R'.map tt)]) ∧ Game n ps' ∧ ps'.length = ps.length ∧ (∀ r ∈ R', Chs ps' r) ∧ R'.length ≤ 200 := by
    rintro ⟨X', e, h1, h2⟩
    obtain ⟨R', rfl, hR'⟩ := lift85 (P := Chs ps) (X := X') fun d hd => by
      rcases h1 d hd with h | h
      · obtain ⟨r, hr, rfl⟩ := List.mem_map.mp h
        exact ⟨r, rfl, hR r hr⟩
      · exact ⟨ch, h, hc⟩
    rw [List.length_map] at h2
    exact ⟨ps, R', e, G, rfl, hR', h2⟩
  generalize (ixv L 0).fmod 12 = kd at m0
  by_cases k1 : kd = 1
  · exact fin (chg1 xl e0 e1 e2 m0 lx rfl ha ec k1)
  by_cases k2 : kd = 2
  · exact fin (chg2 xl e0 e1 e2 m0 lx rfl ha ec k2)
  by_cases k3 : kd = 3
  · exact fin (chg3 xl e0 e1 e2 m0 lx rfl ha ec k3)
  by_cases k4 : kd = 4
  · exact fin (chg4 xl e0 e1 e2 m0 lx rfl ha ec k4)
  by_cases k5 : kd = 5
  · exact fin (chg5 xl e0 e1 e2 m0 lx rfl ha ec k5)
  by_cases k6 : kd = 6
  · exact fin (chg6 xl e0 e1 e2 m0 lx rfl ha ec k6)
  by_cases k7 : kd = 7
  · exact fin (chg7 xl e0 e1 e2 m0 lx rfl ha ec k7)
  by_cases k8 : kd = 8
  · subst k8
    obtain ⟨ps', e, G', hl', hch⟩ := chg8 G hz hrow xl e0 e1 e2 e3 e4 m0 lx ha
    exact ⟨ps', R, e, G', hl', fun r hr => hch r (hR r hr), by omega⟩
  · have b : ∀ j : Int, ¬ kd = j → (kd == j) = false := fun j h => by simpa using h
    exact fin (chg_o xl e0 e1 e2 m0 lx rfl ha ec (b 1 k1) (b 2 k2) (b 3 k3) (b 4 k4) (b 5 k5) (b 6 k6) (b 7 k7) (b 8 k8))
end LW
set_option Elab.async false
set_option maxRecDepth 100000
set_option linter.all false
set_option maxHeartbeats 2000000
namespace LW
open PySem PySem.Spec PyProof.Rows L2 PD
theorem seq_ix {z : Int} {n : Nat} (h0 : 0 ≤ z) (h1 : z < n) : seqIndex? z n = some z.toNat := by
  unfold seqIndex?
  simp
  omega
theorem ev_appPop {i j : Nat} {f : Dn} {ρ : Rho} {ds es : List PyData} {z : Int} {y : PyData} (h1 : ρ[i]? = some (some (.own ds))) (h2 : ρ[j]? = some (some (.own es))) (hf : f ρ = .ok (.int z)) (z0 : 0 ≤ z) (z1 : z < es.length) (zb : z < 1000) (hs : ds.length < sizeLine) (hy : es[z.toNat]? = some y) :
    gAppPop i j f ρ = .nx ((ρ.set j (some (.own (es.eraseIdx z.toNat)))).set i (some (.own (ds ++ [y])))) := by
  unfold gAppPop ownAt
  rw [h1]
  dsimp only
  rw [h2]
  dsimp only
  rw [hf]
  show (match seqIndex? z es.length with
    | some q => if -(2 ^ 63) ≤ z ∧ z < 2 ^ 63 ∧ q < es.length ∧ ds.length < sizeLine then (match es[q]? with
        | some y => Out.nx ((ρ.set j (some (.own (es.eraseIdx q)))).set i (some (.own (ds ++ [y]))))
        | none => .bad) else .bad
    | none => .bad) = _
  rw [seq_ix z0 z1]
  dsimp only
  rw [if_pos ⟨by omega, by omega, by omega, hs⟩, hy]
def nmd (N row : List Int) : List Int := sortI (row.map (ixv N))
end LW
set_option Elab.async false
set_option maxRecDepth 100000
set_option linter.all false
set_option maxHeartbeats 2000000
namespace LW
open PySem PySem.Spec PyProof.Rows L2 PD
theorem v_names85 (D : List Int) (W : Int) (w0 : 3 ≤ W) (w1 : W ≤ 10) (hD : 3 ≤ D.length) : ∃ N : List Int, m_law_drawn_names [li D, .int 3, .int W] = .ok (tu N) ∧ N.length = 3 ∧ N.Nodup ∧ ∀ x ∈ N, 0 ≤ x ∧ x < W := by
  show ∃ N : List Int, endR (g_law_drawn_names [some (.d (li D)), some (.d (.int 3)), some (.d (.int W)), none, none, none]) = _ ∧ _
  have key := forGo_inv (i := 5) (g := b_law_drawn_names_1) (enc := PyData.int) (fun xs ρ => ∃ (k : Int) (left N : List Int) (o5 : Option Sl), ρ = [some (.d (li D)), some (.d (.int 3)), some (.d (.int W)), some (.own (left.map .int)), some (.own (N.map .int)), o5] ∧ xs = rangeI k 3 ∧ 0 ≤ k ∧ k ≤ 3 ∧ (N.length : Int) = k ∧ (N ++ left).Perm (rangeI 0 W)) (by
    rintro x xs ρ ⟨k, left, N, o5, rfl, hx, k0, k1, hl, hp⟩
    obtain ⟨hk1, rfl, rfl⟩ := rangeI_inv hx
    have hs : (N.map PyData.int).length < sizeLine := by rw [List.length_map]; exact line_lt (by omega)
    have ll : (left.length : Int) = W - x := by
      have := hp.length_eq
      rw [List.length_append, rangeI_len] at this
      omega
    have ed := ix_li (L := D) (i := x) k0 (by omega)
    have z0 := fmod_lo (ixv D x) (b := (left.length : Int)) (by omega)
    have z1 := fmod_hi (ixv D x) (b := (left.length : Int)) (by omega)
    have em := oMod_int (i := ixv D x) (j := (left.length : Int)) (by omega)
    generalize (ixv D x).fmod (left.length : Int) = z at z0 z1 em
    have hl2 : z.toNat < left.length := by omega
    have bl : bLen [.list (left.map PyData.int)] = .ok (.int (left.length : Nat)) := by simp [bLen]
    have ef : (dThaw (dTwo oMod (dArg bInt (dCons (dTwo oIx (dVar 0) (dVar 5)) dNil)) (dArg bLen (dCons (dVar 3) dNil)))) [some (.d (li D)), some (.d (.int 3)), some (.d (.int W)), some (.own (left.map .int)), some (.own (N.map .int)), some (.d (.int x))] = .ok (.int z) := by
      generalize (left.map PyData.int) = LM at bl ⊢
      generalize ((left.length : Nat) : Int) = lz at bl em
      simp [ed, bl, em]
    refine ⟨[some (.d (li D)), some (.d (.int 3)), some (.d (.int W)), some (.own ((left.eraseIdx z.toNat).map .int)), some (.own ((N ++ [left[z.toNat]]).map .int)), some (.d (.int x))], ?_, x + 1, left.eraseIdx z.toNat, N ++ [left[z.toNat]], _, rfl, rfl, by omega, by omega, by simp; omega, ?_⟩
    · have st := ev_appPop (i := 4) (j := 3) (f := dThaw (dTwo oMod (dArg bInt (dCons (dTwo oIx (dVar 0) (dVar 5)) dNil)) (dArg bLen (dCons (dVar 3) dNil)))) (ρ := [some (.d (li D)), some (.d (.int 3)), some (.d (.int W)), some (.own (left.map .int)), some (.own (N.map .int)), some (.d (.int x))]) (ds := N.map .int) (es := left.map .int) (z := z) (y := .int left[z.toNat]) rfl rfl ef z0 (by rw [List.length_map]; exact z1) (by omega) hs (by rw [List.getElem?_map, List.getElem?_eq_getElem hl2]; rfl)
      show b_law_drawn_names_1 [some (.d (li D)), some (.d (.int 3)), some (.d (.int W)), some (.own (left.map .int)), some (.own (N.map .int)), some (.d (.int x))] = _
      unfold b_law_drawn_names_1
      rw [st, List.map_append, ← eraseIdx_map']
      rfl
    · have pe : left.Perm (left[z.toNat] :: left.eraseIdx z.toNat) := by
        rw [List.eraseIdx_eq_take_drop_succ]
        have e : left = left.take z.toNat ++ left[z.toNat] :: left.drop (z.toNat + 1) := by
          rw [← List.drop_eq_getElem_cons hl2, List.take_append_drop]
        have := List.perm_middle (a := left[z.toNat]) (l₁ := left.take z.toNat) (l₂ := left.drop (z.toNat + 1))
        rwa [← e] at this
      have : (N ++ [left[z.toNat]] ++ left.eraseIdx z.toNat).Perm (N ++ left) := by
        rw [List.append_assoc]
        exact (List.Perm.append_left N pe.symm)
      exact this.trans hp)
  obtain ⟨ρ', e, k, left, N, o5, rfl, hx, k0, k1, hl, hp⟩ := key (rangeI 0 3) [some (.d (li D)), some (.d (.int 3)), some (.d (.int W)), some (.own ((rangeI 0 W).map .int)), some (.own []), none] ⟨0, rangeI 0 W, [], none, rfl, rfl, by decide, by decide, rfl, .refl _⟩
  have ek : k = 3 := by
    by_cases h : k < 3
    · rw [rangeI_cons h] at hx; cases hx
    · omega
  have nd : (N ++ left).Nodup := hp.nodup_iff.mpr ((rangeI_asc 0 W).imp fun h => by omega)
  refine ⟨N, ?_, by omega, (List.nodup_append.mp nd).1, fun x hx => mem_rangeI.mp (hp.mem_iff.mp (List.mem_append_left _ hx))⟩
  have er := rngA1_ok (n := 3) (by decide) (by decide)
  have eb := bLstR1_ok (n := W) (decide_eq_true ⟨by omega, by omega, by omega, by omega, by omega⟩)
  simp [g_law_drawn_names, eb, er, e]
theorem v_named85 {N row : List Int} (hN : N.length = 3) (hr : ∀ x ∈ row, 0 ≤ x ∧ x < 3) : m_law_named [tu row, tu N] = .ok (tu (nmd N row)) := by
  show endR (g_law_named [some (.d (tu row)), some (.d (tu N)), none]) = _
  have r := lc_of (enc := PyData.int) (fi := dItems (dVar 0)) (t := .nm 2) (ft := dYes) (fe := dTwo oIx (dVar 1) (dVar 2)) (vs := [2]) (ρ := [some (.d (tu row)), some (.d (tu N)), none]) (xs := row) (st := fun x => [some (.d (tu row)), some (.d (tu N)), some (.d (.int x))]) (q := fun _ => true) (g := fun x => PyData.int (ixv N x)) (by simp) (fun x hx => by
    obtain ⟨x0, x1⟩ := hr x hx
    have := ix_tu (L := N) x0 (by omega)
    exact ⟨rfl, rfl, fun _ => by simp [this]⟩)
  rw [List.filter_eq_self.mpr (fun _ _ => rfl)] at r
  have el : PyData.list (row.map fun x => PyData.int (ixv N x)) = li (row.map (ixv N)) := by
    show _ = PyData.list ((row.map (ixv N)).map PyData.int)
    rw [List.map_map]; rfl
  rw [el] at r
  unfold g_law_named nmd
  generalize row.map (ixv N) = Z at r ⊢
  simp [-ev_lc]
  rw [r]
  simp
theorem v_renamed85 {N r1 r2 : List Int} (hN : N.length = 3) (h1 : ∀ x ∈ r1, 0 ≤ x ∧ x < 3) (h2 : ∀ x ∈ r2, 0 ≤ x ∧ x < 3) : m_law_renamed [.tuple [tu r1, tu r2], tu N] = .ok (tt (sortT [nmd N r1, nmd N r2])) := by
  show endR (g_law_renamed [some (.d (.tuple [tu r1, tu r2])), some (.d (tu N)), none]) = _
  have e1 := v_named85 hN h1
  have e2 := v_named85 hN h2
  have r := lc_of (enc := tu) (fi := dItems (dVar 0)) (t := .nm 2) (ft := dYes) (fe := dArg m_law_named (dCons (dVar 2) (dCons (dVar 1) dNil))) (vs := [2]) (ρ := [some (.d (.tuple [tu r1, tu r2])), some (.d (tu N)), none]) (xs := [r1, r2]) (st := fun x => [some (.d (.tuple [tu r1, tu r2])), some (.d (tu N)), some (.d (tu x))]) (q := fun _ => true) (g := fun x => tu (nmd N x)) (by simp) (fun x hx => by
    simp only [List.mem_cons, List.not_mem_nil, or_false] at hx
    rcases hx with rfl | rfl
    · exact ⟨rfl, rfl, fun _ => by simp [e1]⟩
    · exact ⟨rfl, rfl, fun _ => by simp [e2]⟩)
  rw [List.filter_eq_self.mpr (fun _ _ => rfl)] at r
  have el : PyData.list ([r1, r2].map fun x => tu (nmd N x)) = lt [nmd N r1, nmd N r2] := rfl
  rw [el] at r
  unfold g_law_renamed
  generalize [nmd N r1, nmd N r2] = Z at r ⊢
  simp [-ev_lc]
  rw [r]
  simp
end LW
set_option Elab.async false
set_option maxRecDepth 100000
set_option linter.all false
set_option maxHeartbeats 2000000
namespace LW
open PySem PySem.Spec PyProof.Rows L2 PD
def rw85 (k t : Int) : List Int := if k = 0 then (if t = 0 then [1, 4, 4] else if t = 1 then [2, 3, 3] else [0, 0, 0]) else if k = 1 then (if t = 0 then [0, 0, 0] else if t = 1 then [1, 4, 4] else [2, 3, 3]) else (if t = 0 then [2, 3, 3] else if t = 1 then [0, 0, 0] else [1, 4, 4])
def rows85 : PyData := .tuple [.tuple [tu [1, 4, 4], tu [2, 3, 3], tu [0, 0, 0]], .tuple [tu [0, 0, 0], tu [1, 4, 4], tu [2, 3, 3]], .tuple [tu [2, 3, 3], tu [0, 0, 0], tu [1, 4, 4]]]
def of85 (k : Int) : List Int := if k = 0 then [0, 1] else if k = 1 then [1, 2] else [0, 2]
def offs85 : PyData := .tuple [.tuple [tu [0], tu [1]], .tuple [tu [1], tu [2]], .tuple [tu [0], tu [2]]]
theorem three85 {k : Int} (h0 : 0 ≤ k) (h1 : k < 3) : k = 0 ∨ k = 1 ∨ k = 2 := by omega
theorem ix_rows85 {k t : Int} (k0 : 0 ≤ k) (k1 : k < 3) (t0 : 0 ≤ t) (t1 : t < 3) : ∃ Y, oIx rows85 (.int k) = .ok Y ∧ oIx Y (.int t) = .ok (tu (rw85 k t)) := by
  rcases three85 k0 k1 with rfl | rfl | rfl <;> rcases three85 t0 t1 with rfl | rfl | rfl <;> exact ⟨_, rfl, rfl⟩
theorem rw_ok85 {k t : Int} (k0 : 0 ≤ k) (k1 : k < 3) (t0 : 0 ≤ t) (t1 : t < 3) : (rw85 k t).length = 3 ∧ (rw85 k t).Pairwise (· ≤ ·) ∧ ∀ c ∈ rw85 k t, 0 ≤ c ∧ c ≤ 4 := by
  rcases three85 k0 k1 with rfl | rfl | rfl <;> rcases three85 t0 t1 with rfl | rfl | rfl <;> (refine ⟨rfl, ?_, ?_⟩ <;> decide)
theorem ix_offs85 {k : Int} (k0 : 0 ≤ k) (k1 : k < 3) : ∃ a b : Int, oIx offs85 (.int k) = .ok (.tuple [tu [a], tu [b]]) ∧ of85 k = [a, b] ∧ a ≠ b ∧ (0 ≤ a ∧ a < 3) ∧ (0 ≤ b ∧ b < 3) := by
  rcases three85 k0 k1 with rfl | rfl | rfl
  · exact ⟨0, 1, rfl, rfl, by decide, by decide, by decide⟩
  · exact ⟨1, 2, rfl, rfl, by decide, by decide, by decide⟩
  · exact ⟨0, 2, rfl, rfl, by decide, by decide, by decide⟩
theorem ixv_in85 {N : List Int} {W x : Int} (hN : N.length = 3) (hb : ∀ y ∈ N, 0 ≤ y ∧ y < W) (h0 : 0 ≤ x) (h1 : x < 3) : 0 ≤ ixv N x ∧ ixv N x < W := hb _ (ixv_mem h0 (by omega))
theorem ixv_ne85 {N : List Int} (hN : N.length = 3) (nd : N.Nodup) {x y : Int} (x0 : 0 ≤ x) (x1 : x < 3) (y0 : 0 ≤ y) (y1 : y < 3) (h : x ≠ y) : ixv N x ≠ ixv N y := fun e => by
  have hx : x.toNat < N.length := by omega
  have hy : y.toNat < N.length := by omega
  unfold ixv at e
  rw [List.getElem?_eq_getElem hx, List.getElem?_eq_getElem hy] at e
  have e : N[x.toNat] = N[y.toNat] := e
  have := (List.getElem_inj nd).mp e
  omega
theorem nmd_one85 (N : List Int) (x : Int) : nmd N [x] = [ixv N x] := by
  unfold nmd
  exact List.perm_singleton.mp (sortD_ints [ixv N x]).2
theorem good85 {W u v : Int} (hu : 0 ≤ u ∧ u < W) (hv : 0 ≤ v ∧ v < W) (h : u ≠ v) : Good W (sortT [[u], [v]]) := by
  have pm := sortT_perm [[u], [v]]
  refine ⟨fun l hl => ?_, asd_sortT (by simp [h]), fun z => ?_, ?_⟩
  · have := mem_sortT.mp hl
    simp only [List.mem_cons, List.not_mem_nil, or_false] at this
    rcases this with rfl | rfl
    · exact ⟨by simp, fun x hx => by rw [List.mem_singleton.mp hx]; exact hu⟩
    · exact ⟨by simp, fun x hx => by rw [List.mem_singleton.mp hx]; exact hv⟩
  · rw [z] at pm
    have := pm.length_eq
    simp at this
  · rw [pm.length_eq]
    show 2 ≤ 1000
    decide
/-- a row of the table: three numbers that rise -/
def Rise85 (T : List (List Int)) (W : Int) : Prop := (T.length : Int) = W ∧ ∀ r ∈ T, r.length = 3 ∧ r.Pairwise (· ≤ ·)
theorem new_row85 {k t F e : Int} (k0 : 0 ≤ k) (k1 : k < 3) (t0 : 0 ≤ t) (t1 : t < 3) (hF : 0 ≤ F) : ((rw85 k t).map fun c => c * F + e).length = 3 ∧ ((rw85 k t).map fun c => c * F + e).Pairwise (· ≤ ·) := by
  obtain ⟨h1, h2, _⟩ := rw_ok85 k0 k1 t0 t1
  refine ⟨by rw [List.length_map]; exact h1, List.Pairwise.map _ (fun a b h => ?_) h2⟩
  have := Int.mul_le_mul_of_nonneg_right h hF
  omega
theorem table85 {W F v k : Int} {N D : List Int} {o10 o11 o12 : Option Sl} {TK : List PyData} (w1 : W ≤ 10) (hN : N.length = 3) (hb : ∀ y ∈ N, 0 ≤ y ∧ y < W) (hF : 0 ≤ F) (k0 : 0 ≤ k) (k1 : k < 3) (hD : D.length = 9) (hv : v = (ixv D (5 + k)).fmod 9) (OFS : PyData) {T0 : List (List Int)} (r0 : Rise85 T0 W) (o9 : Option Sl) :
    ∃ (T : List (List Int)) (p9 p12 : Option Sl), forGo (.nm 9) b_law_own_round_1 ((rangeI 0 3).map .int) [some (.d (li D)), some (.d (.int W)), some (.d (tu N)), some (.d OFS), some (.d rows85), some (.own TK), some (.d (.int k)), some (.d (.int F)), some (.own (T0.map tu)), o9, o10, o11, o12] = .nx [some (.d (li D)), some (.d (.int W)), some (.d (tu N)), some (.d OFS), some (.d rows85), some (.own TK), some (.d (.int k)), some (.d (.int F)), some (.own (T.map tu)), p9, o10, o11, p12] ∧ Rise85 T W := by
  have key := forGo_inv (i := 9) (g := b_law_own_round_1) (enc := PyData.int) (fun xs ρ => ∃ (T : List (List Int)) (o9 o12 : Option Sl), ρ = [some (.d (li D)), some (.d (.int W)), some (.d (tu N)), some (.d OFS), some (.d rows85), some (.own TK), some (.d (.int k)), some (.d (.int F)), some (.own (T.map tu)), o9, o10, o11, o12] ∧ Rise85 T W ∧ ∀ x ∈ xs, 0 ≤ x ∧ x < 3) (by
    rintro y xs ρ ⟨T, o9, o12, rfl, hT, hx⟩
    obtain ⟨y0, y1⟩ := hx y List.mem_cons_self
    obtain ⟨Y, g1, g2⟩ := ix_rows85 k0 k1 y0 y1
    have nb := ixv_in85 hN hb y0 y1
    have nx := ix_tu (L := N) y0 (by omega)
    have d5 := ix_li (L := D) (i := 5 + k) (by omega) (by omega)
    have m9 := oMod_int (i := ixv D (5 + k)) (j := 9) (by decide)
    rw [← hv] at m9
    have rb := (rw_ok85 k0 k1 y0 y1).2.2
    have r := lc_of (enc := PyData.int) (fi := dItems (dTwo oIx (dTwo oIx (dVar 4) (dVar 6)) (dVar 9))) (t := .nm 12) (ft := dYes) (fe := dTwo oSub (dTwo oAdd (dTwo oMul (dVar 12) (dVar 7)) (dTwo oMod (dArg bInt (dCons (dTwo oIx (dVar 0) (dTwo oAdd (dC (.int 5)) (dVar 6))) dNil)) (dC (.int 9)))) (dC (.int 4))) (vs := [12]) (ρ := [some (.d (li D)), some (.d (.int W)), some (.d (tu N)), some (.d OFS), some (.d rows85), some (.own TK), some (.d (.int k)), some (.d (.int F)), some (.own (T.map tu)), some (.d (.int y)), o10, o11, o12]) (xs := rw85 k y) (st := fun c => [some (.d (li D)), some (.d (.int W)), some (.d (tu N)), some (.d OFS), some (.d rows85), some (.own TK), some (.d (.int k)), some (.d (.int F)), some (.own (T.map tu)), some (.d (.int y)), o10, o11, some (.d (.int c))]) (q := fun _ => true) (g := fun c => PyData.int (c * F + (v - 4))) (by
      have ei : items (tu (rw85 k y)) = .ok ((rw85 k y).map .int) := rfl
      generalize tu (rw85 k y) = Z at *
      generalize rows85 = RW at *
      generalize T.map tu = TM at *
      simp [g1, g2, ei]) (fun c hc => ⟨rfl, rfl, fun _ => by
      have mu : oMul (.int c) (.int F) = .ok (.int (c * F)) := oMul_l (by have := (rb c hc).1; omega) (by have := (rb c hc).2; omega)
      have e1 : c * F + v - 4 = c * F + (v - 4) := by omega
      generalize rows85 = RW at *
      generalize T.map tu = TM at *
      generalize li D = DD at *
      simp [mu, d5, m9, e1]⟩)
    rw [List.filter_eq_self.mpr (fun _ _ => rfl)] at r
    have el : PyData.list ((rw85 k y).map fun c => PyData.int (c * F + (v - 4))) = li ((rw85 k y).map fun c => c * F + (v - 4)) := by unfold li; rw [List.map_map]; rfl
    rw [el] at r
    have nr := new_row85 (e := v - 4) k0 k1 y0 y1 hF
    generalize ((rw85 k y).map fun c => c * F + (v - 4)) = row at *
    have bt : bTuple [li row] = .ok (tu row) := rfl
    refine ⟨[some (.d (li D)), some (.d (.int W)), some (.d (tu N)), some (.d OFS), some (.d rows85), some (.own TK), some (.d (.int k)), some (.d (.int F)), some (.own ((T.set (ixv N y).toNat row).map tu)), some (.d (.int y)), o10, o11, o12], ?_, T.set (ixv N y).toNat row, _, _, rfl, ⟨by rw [List.length_set]; exact hT.1, fun r hr => ?_⟩, fun x hx2 => hx x (List.mem_cons_of_mem _ hx2)⟩
    · have iy := ixN_ok (n := (T.map tu).length) nb.1 (by rw [List.length_map]; have := hT.1; omega)
      rw [List.map_set]
      generalize T.map tu = TM at *
      generalize tu N = ND at *
      generalize rows85 = RW at *
      generalize li D = DD at *
      generalize li row = RL at *
      generalize tu row = RT at *
      simp [b_law_own_round_1, -ev_lc, r, bt, nx, iy]
    · rcases List.mem_or_eq_of_mem_set hr with h | h
      · exact hT.2 r h
      · rw [h]; exact nr)
  obtain ⟨ρ', e, T, p9, p12, rfl, hT, _⟩ := key (rangeI 0 3) [some (.d (li D)), some (.d (.int W)), some (.d (tu N)), some (.d OFS), some (.d rows85), some (.own TK), some (.d (.int k)), some (.d (.int F)), some (.own (T0.map tu)), o9, o10, o11, o12] ⟨T0, _, _, rfl, r0, fun x hx => mem_rangeI.mp hx⟩
  exact ⟨T, p9, p12, e, hT⟩
end LW
set_option Elab.async false
set_option maxRecDepth 100000
set_option linter.all false
set_option maxHeartbeats 2000000
namespace LW
open PySem PySem.Spec PyProof.Rows L2 PD
theorem pick3 {u : Int} (h0 : 0 ≤ u) (h1 : u < 3) : ∃ F : Int, 0 ≤ F ∧ oIx (.tuple [.int 1, .int 3, .int 1000000000000000000000000000000]) (.int u) = .ok (.int F) := by
  rcases three85 h0 h1 with rfl | rfl | rfl
  · exact ⟨1, by decide, rfl⟩
  · exact ⟨3, by decide, rfl⟩
  · exact ⟨1000000000000000000000000000000, by decide, rfl⟩
theorem own_step85 {W k x4 u F : Int} {DD ND OFS RW OK LS CT Z : PyData} {TK TM0 TM : List PyData} {o7 o8 o9 o10 o11 o12 p9 p12 : Option Sl} (fl : TK.length < sizeLine) (d4 : oIx DD (.int 4) = .ok (.int x4)) (m3 : oMod (.int x4) (.int 3) = .ok (.int u)) (ef : oIx (.tuple [.int 1, .int 3, .int 1000000000000000000000000000000]) (.int u) = .ok (.int F))
    (lc : dLc (dRng1 (dCons (dVar 1) dNil)) (.nm 9) dYes (dTup (dCons (dC (.int 0)) (dCons (dC (.int 0)) (dCons (dC (.int 0)) dNil)))) [9] [some (.d DD), some (.d (.int W)), some (.d ND), some (.d OFS), some (.d RW), some (.own TK), some (.d (.int k)), some (.d (.int F)), o8, o9, o10, o11, o12] = .ok (.list TM0))
    (lp : forGo (.nm 9) b_law_own_round_1 ((rangeI 0 3).map .int) [some (.d DD), some (.d (.int W)), some (.d ND), some (.d OFS), some (.d RW), some (.own TK), some (.d (.int k)), some (.d (.int F)), some (.own TM0), o9, o10, o11, o12] = .nx [some (.d DD), some (.d (.int W)), some (.d ND), some (.d OFS), some (.d RW), some (.own TK), some (.d (.int k)), some (.d (.int F)), some (.own TM), p9, o10, o11, p12])
    (ofs : oIx OFS (.int k) = .ok OK) (rn : m_law_renamed [OK, ND] = .ok LS) (bt : bTuple [.list TM] = .ok CT) (td : PyData.tuple [.tuple [.int W, LS], CT] = Z) :
    b_law_own_round_2 [some (.d DD), some (.d (.int W)), some (.d ND), some (.d OFS), some (.d RW), some (.own TK), some (.d (.int k)), o7, o8, o9, o10, o11, o12] = .nx [some (.d DD), some (.d (.int W)), some (.d ND), some (.d OFS), some (.d RW), some (.own (TK ++ [Z])), some (.d (.int k)), some (.d (.int F)), some (.d (.list TM)), p9, o10, o11, p12] := by
  have ef2 : oIx (tu [1, 3, 1000000000000000000000000000000]) (.int u) = .ok (.int F) := ef
  have s1 : gOwn (dLc (dRng1 (dCons (dVar 1) dNil)) (.nm 9) dYes (dTup (dCons (dC (.int 0)) (dCons (dC (.int 0)) (dCons (dC (.int 0)) dNil)))) [9]) 8 [some (.d DD), some (.d (.int W)), some (.d ND), some (.d OFS), some (.d RW), some (.own TK), some (.d (.int k)), some (.d (.int F)), o8, o9, o10, o11, o12] = .nx [some (.d DD), some (.d (.int W)), some (.d ND), some (.d OFS), some (.d RW), some (.own TK), some (.d (.int k)), some (.d (.int F)), some (.own TM0), o9, o10, o11, o12] := by
    unfold gOwn
    rw [lc]
    rfl
  have rg3 := rngA1_ok (n := 3) (by decide) (by decide)
  unfold b_law_own_round_2
  rw [ev_seq]
  have s0 : gSet (dTwo oIx (dTup (dCons (dC (.int 1)) (dCons (dC (.int 3)) (dCons (dTwo oPow (dC (.int 10)) (dC (.int 30))) dNil)))) (dTwo oMod (dArg bInt (dCons (dTwo oIx (dVar 0) (dC (.int 4))) dNil)) (dC (.int 3)))) (.nm 7) [some (.d DD), some (.d (.int W)), some (.d ND), some (.d OFS), some (.d RW), some (.own TK), some (.d (.int k)), o7, o8, o9, o10, o11, o12] = .nx [some (.d DD), some (.d (.int W)), some (.d ND), some (.d OFS), some (.d RW), some (.own TK), some (.d (.int k)), some (.d (.int F)), o8, o9, o10, o11, o12] := by
    simp [d4, m3, ef, ef2]
  rw [s0, seqO_nx, ev_seq, s1, seqO_nx]
  simp [rg3, lp, ofs, rn, bt, td, fl]
end LW
set_option Elab.async false
set_option maxRecDepth 100000
set_option linter.all false
set_option maxHeartbeats 4000000
namespace LW
open PySem PySem.Spec PyProof.Rows L2 PD
theorem anti_self85 (ls : List (List Int)) (asd : Asd ls) (an : ∀ a ∈ ls, ∀ b ∈ ls, (∀ y ∈ a, y ∈ b) → a = b) (hz : ls.length ≤ 5000) : m_law_antichain [tt ls] = .ok (tt ls) := by
  show endR (g_law_antichain [some (.d (tt ls)), none, none, none]) = _
  have nd := asd.nodup
  have key := forGo_inv (i := 2) (g := b_law_antichain_1) (enc := tu) (fun xs ρ => ∃ (dn : List (List Int)) (o2 : Option Sl), ρ = [some (.d (tt ls)), some (.own (dn.map tu)), o2, none] ∧ ls = dn ++ xs) (by
    rintro x xs ρ ⟨dn, o2, rfl, e⟩
    have hs : dn.length < sizeLine := line_lt (by
      have := congrArg List.length e
      rw [List.length_append, List.length_cons] at this
      omega)
    have hx : x ∈ ls := by rw [e]; simp
    have nx : ¬ x ∈ dn := fun h => by
      rw [e] at nd
      exact (List.nodup_append.mp nd).2.2 x h x (by simp) rfl
    have tp : Top ls x := fun o ho ne s => ne (an x hx o ho s)
    refine ⟨[some (.d (tt ls)), some (.own ((dn ++ [x]).map tu)), some (.d (tu x)), none], ?_, dn ++ [x], _, rfl, by rw [e]; simp⟩
    clear e
    simp [b_law_antichain_1, v_within, nx, hs]
    exact top_iff.mp tp)
  obtain ⟨ρ', e, dn, o2, rfl, hd⟩ := key ls [some (.d (tt ls)), some (.own []), none, none] ⟨[], none, rfl, rfl⟩
  rw [List.append_nil] at hd
  subst hd
  have b : bSorted [tt ls] = .ok (lt ls) := by
    have : bSorted [tt ls] = .ok (lt (sortT ls)) := bSorted_lt ls
    rw [this, show sortT ls = ls from asd_ext (asd_sortT nd) asd fun k => mem_sortT]
  simp [g_law_antichain, b, e]
def lots85 : PyData := .tuple [.tuple [.int 0], .tuple [.int 1], .tuple [.int 2]]
theorem anti85 : m_law_antichain [lots85] = .ok lots85 := by
  refine anti_self85 [[0], [1], [2]] ?_ ?_ (by decide)
  · unfold Asd
    decide
  · intro a ha b hb
    have ha : a = [0] ∨ a = [1] ∨ a = [2] := by simpa using ha
    have hb : b = [0] ∨ b = [1] ∨ b = [2] := by simpa using hb
    rcases ha with rfl | rfl | rfl <;> rcases hb with rfl | rfl | rfl <;> simp
theorem fault85 : m_law_fault [lots85] = .ok .none := by
  have h := v_law_fault [[0], [1], [2]] (by simp)
  have e : faultD [[0], [1], [2]] = .none := by
    refine faultD_none ?_
    intro l hl x hx o ho nx
    have one : ∀ l ∈ ([[0], [1], [2]] : List (List Int)), ∃ i, l = [i] := fun l h => by
      have h : l = [0] ∨ l = [1] ∨ l = [2] := by simpa using h
      rcases h with rfl | rfl | rfl <;> exact ⟨_, rfl⟩
    obtain ⟨i, rfl⟩ := one l hl
    obtain ⟨j, rfl⟩ := one o ho
    have hx : x = i := List.mem_singleton.mp hx
    subst hx
    have e1 : exch [x] x j = [j] := by
      unfold exch
      have e2 : ([x].filter fun y => !(y == x)) ++ [j] = [j] := by simp
      rw [e2]
      exact List.perm_singleton.mp (sortD_ints [j]).2
    exact ⟨j, by simp, fun z => nx (by rw [List.mem_singleton.mp z]; simp), by rw [e1]; exact ho⟩
  rw [e] at h
  exact h
theorem taker85 {C : PyData} {r0 : PyData} {Z ZB : PyData} (t1 : m_law_are_two [.tuple [off85, C]] = .ok (.bool true)) (isC : oIsi "tuple" C = .ok (.bool true)) (lC : bLen [C] = .ok (.int 3))
    (lc1 : dLc (dItems (dVar 4)) (.nm 6) dYes (dArg m_law_is_row (dCons (dVar 6) (dCons (dVar 2) dNil))) [6] [some (.d (.tuple [off85, C])), some (.d (.int 3)), some (.d (.int 3)), some (.d lots85), some (.d C), none, none] = .ok Z) (b1 : bAll [Z] = .ok (.bool true))
    (lc2 : dLc (dItems (dVar 4)) (.nm 6) dYes (dTwo oEq (dArg bLen (dCons (dVar 6) dNil)) (dArg bLen (dCons (dTwo oIx (dVar 4) (dC (.int 0))) dNil))) [6] [some (.d (.tuple [off85, C])), some (.d (.int 3)), some (.d (.int 3)), some (.d lots85), some (.d C), none, none] = .ok ZB) (b2 : bAll [ZB] = .ok (.bool true)) :
    m_law_is_smooth_taker [.tuple [off85, C], .int 3, .int 3] = .ok (.bool true) := by
  have a := anti85
  have f := fault85
  show endR (g_law_is_smooth_taker [some (.d (.tuple [off85, C])), some (.d (.int 3)), some (.d (.int 3)), none, none, none, none]) = _
  have t2 : m_law_are_two [off85] = .ok (.bool true) := rfl
  have x0 : oIx (.tuple [off85, C]) (.int 0) = .ok off85 := rfl
  have x1 : oIx (.tuple [off85, C]) (.int 1) = .ok C := rfl
  have y0 : oIx off85 (.int 0) = .ok (.int 3) := rfl
  have y1 : oIx off85 (.int 1) = .ok lots85 := rfl
  have it : m_law_is_integer [.int 3] = .ok (.bool true) := rfl
  have isL : oIsi "tuple" lots85 = .ok (.bool true) := rfl
  have lL : bLen [lots85] = .ok (.int 3) := rfl
  have neL : oNe lots85 lots85 = .ok (.bool false) := by
    show oNe (tt [[0], [1], [2]]) (tt [[0], [1], [2]]) = _
    rw [oNe_tt]
    rfl
  have lc0 : dLc (dItems (dVar 3)) (.nm 5) dYes (dArg m_law_is_set (dCons (dVar 5) (dCons (dVar 1) dNil))) [5] [some (.d (.tuple [off85, C])), some (.d (.int 3)), some (.d (.int 3)), some (.d lots85), some (.d C), none, none] = .ok (.list [.bool true, .bool true, .bool true]) := rfl
  have b0 : bAll [.list [.bool true, .bool true, .bool true]] = .ok (.bool true) := rfl
  generalize PyData.list [.bool true, .bool true, .bool true] = Z0 at *
  generalize PyData.tuple [off85, C] = T at *
  generalize off85 = OF at *
  generalize lots85 = LT at *
  simp [g_law_is_smooth_taker, t1, t2, x0, x1, y0, y1, it, isL, lL, neL, -ev_lc, lc0, b0, a, isC, lC, lc1, b1, lc2, b2, f]
  rfl
theorem taker85_0 : m_law_is_smooth_taker [.tuple [off85, .tuple [row85 2 3 3, row85 1 4 4, row85 5 5 5]], .int 3, .int 3] = .ok (.bool true) := taker85 (Z := .list [.bool true, .bool true, .bool true]) (ZB := .list [.bool true, .bool true, .bool true]) (r0 := .none) rfl rfl rfl rfl rfl rfl rfl
theorem taker85_1 : m_law_is_smooth_taker [.tuple [off85, .tuple [row85 5 5 5, row85 2 3 3, row85 1 4 4]], .int 3, .int 3] = .ok (.bool true) := taker85 (Z := .list [.bool true, .bool true, .bool true]) (ZB := .list [.bool true, .bool true, .bool true]) (r0 := .none) rfl rfl rfl rfl rfl rfl rfl
theorem taker85_2 : m_law_is_smooth_taker [.tuple [off85, .tuple [row85 1 4 4, row85 5 5 5, row85 2 3 3]], .int 3, .int 3] = .ok (.bool true) := taker85 (Z := .list [.bool true, .bool true, .bool true]) (ZB := .list [.bool true, .bool true, .bool true]) (r0 := .none) rfl rfl rfl rfl rfl rfl rfl
theorem told_ok85 : m_law_is_round [.tuple [game85, ring85]] = .ok (.bool true) := by
  show endR (g_law_is_round [some (.d (.tuple [game85, ring85])), none, none, none, none]) = _
  have t1 : m_law_are_two [.tuple [game85, ring85]] = .ok (.bool true) := rfl
  have x0 : oIx (.tuple [game85, ring85]) (.int 0) = .ok game85 := rfl
  have x1 : oIx (.tuple [game85, ring85]) (.int 1) = .ok ring85 := rfl
  have isG : oIsi "tuple" game85 = .ok (.bool true) := rfl
  have isR : oIsi "tuple" ring85 = .ok (.bool true) := rfl
  have lG : bLen [game85] = .ok (.int 3) := rfl
  have lR : bLen [ring85] = .ok (.int 6) := rfl
  have g0 : oIx game85 (.int 0) = .ok (.tuple [off85, .tuple [row85 2 3 3, row85 1 4 4, row85 5 5 5]]) := rfl
  have t2 : m_law_are_two [.tuple [off85, .tuple [row85 2 3 3, row85 1 4 4, row85 5 5 5]]] = .ok (.bool true) := rfl
  have g00 : oIx (.tuple [off85, .tuple [row85 2 3 3, row85 1 4 4, row85 5 5 5]]) (.int 0) = .ok off85 := rfl
  have t3 : m_law_are_two [off85] = .ok (.bool true) := rfl
  have g000 : oIx off85 (.int 0) = .ok (.int 3) := rfl
  have it : m_law_is_integer [.int 3] = .ok (.bool true) := rfl
  have lcT : dLc (dItems (dVar 1)) (.nm 3) dYes (dArg m_law_is_smooth_taker (dCons (dVar 3) (dCons (dVar 2) (dCons (dArg bLen (dCons (dVar 1) dNil)) dNil)))) [3] [some (.d (.tuple [game85, ring85])), some (.d game85), some (.d (.int 3)), none, none] = .ok (.list [.bool true, .bool true, .bool true]) := by
    have ei : items game85 = .ok [.tuple [off85, .tuple [row85 2 3 3, row85 1 4 4, row85 5 5 5]], .tuple [off85, .tuple [row85 5 5 5, row85 2 3 3, row85 1 4 4]], .tuple [off85, .tuple [row85 1 4 4, row85 5 5 5, row85 2 3 3]]] := rfl
    have a := taker85_0
    have b := taker85_1
    have c := taker85_2
    generalize PyData.tuple [off85, .tuple [row85 2 3 3, row85 1 4 4, row85 5 5 5]] = T0 at *
    generalize PyData.tuple [off85, .tuple [row85 5 5 5, row85 2 3 3, row85 1 4 4]] = T1 at *
    generalize PyData.tuple [off85, .tuple [row85 1 4 4, row85 5 5 5, row85 2 3 3]] = T2 at *
    have := lc_of (enc := fun d : PyData => d) (fi := dItems (dVar 1)) (t := .nm 3) (ft := dYes) (fe := dArg m_law_is_smooth_taker (dCons (dVar 3) (dCons (dVar 2) (dCons (dArg bLen (dCons (dVar 1) dNil)) dNil)))) (vs := [3]) (ρ := [some (.d (.tuple [game85, ring85])), some (.d game85), some (.d (.int 3)), none, none]) (xs := [T0, T1, T2]) (st := fun d => [some (.d (.tuple [game85, ring85])), some (.d game85), some (.d (.int 3)), some (.d d), none]) (q := fun _ => true) (g := fun _ => PyData.bool true) (by
      generalize PyData.tuple [game85, ring85] = Q
      generalize game85 = GM at *
      simp [ei]) (fun d hd => ⟨rfl, rfl, fun _ => by
      have hd : d = T0 ∨ d = T1 ∨ d = T2 := by simpa using hd
      generalize PyData.tuple [game85, ring85] = Q
      generalize game85 = GM at *
      rcases hd with rfl | rfl | rfl <;> simp [lG, a, b, c]⟩)
    rw [this]
    rfl
  have bT : bAll [.list [.bool true, .bool true, .bool true]] = .ok (.bool true) := rfl
  have lcC : dLc (dItems (dTwo oIx (dVar 0) (dC (.int 1)))) (.nm 4) dYes (dArg m_law_are_lots (dCons (dVar 4) (dCons (dVar 1) dNil))) [4] [some (.d (.tuple [game85, ring85])), some (.d game85), some (.d (.int 3)), none, none] = .ok (.list [.bool true, .bool true, .bool true, .bool true, .bool true, .bool true]) := rfl
  have bC : bAll [.list [.bool true, .bool true, .bool true, .bool true, .bool true, .bool true]] = .ok (.bool true) := rfl
  have lr := lring_ok85
  generalize PyData.list [.bool true, .bool true, .bool true, .bool true, .bool true, .bool true] = Z6 at *
  generalize PyData.list [.bool true, .bool true, .bool true] = Z3 at *
  generalize PyData.tuple [off85, .tuple [row85 2 3 3, row85 1 4 4, row85 5 5 5]] = T0 at *
  generalize PyData.tuple [game85, ring85] = Q at *
  generalize game85 = GM at *
  generalize ring85 = RM at *
  generalize off85 = OF at *
  simp [g_law_is_round, t1, x0, x1, isG, isR, lG, lR, g0, t2, g00, t3, g000, it, -ev_lc, lcT, bT, lcC, bC, lr]
end LW
set_option Elab.async false
set_option maxRecDepth 100000
set_option linter.all false
set_option maxHeartbeats 2000000
namespace LW
open PySem PySem.Spec PyProof.Rows L2 PD
def S85 : List (List Int) := [[1, 1, 2], [1, 2, 2], [0, 2, 2], [0, 2, 0], [0, 1, 0], [1, 1, 0]]
theorem S_ok85 : ∀ s ∈ S85, s.length = 3 ∧ (∀ x ∈ s, 0 ≤ x ∧ x < 3) ∧ ∀ j ∈ ([0, 1, 2] : List Int), ixv s j ∈ of85 j := by decide
structure Tk85 (N : List Int) (W j : Int) (p : Pl) : Prop where
  w : p.w = 1
  ls : p.ls = sortT ((of85 j).map fun x => [ixv N x])
  rise : Rise85 p.C W
theorem plx_snoc {ps : List Pl} {p : Pl} {j : Int} (h0 : 0 ≤ j) (h1 : j < (ps.length : Int)) : plx (ps ++ [p]) j = plx ps j := by
  unfold plx
  rw [List.getElem?_append_left (by omega)]
theorem plx_last {ps : List Pl} {p : Pl} {j : Int} (h : j = (ps.length : Int)) : plx (ps ++ [p]) j = p := by
  unfold plx
  have : j.toNat = ps.length := by omega
  rw [this, List.getElem?_append_right (Nat.le_refl _)]
  simp
theorem game85_of {N : List Int} {W : Int} {ps : List Pl} (hN : N.length = 3) (nd : N.Nodup) (hb : ∀ y ∈ N, 0 ≤ y ∧ y < W) (w0 : 3 ≤ W) (w1 : W ≤ 10) (hl : ps.length = 3) (h : ∀ j : Int, 0 ≤ j → j < 3 → Tk85 N W j (plx ps j)) : Game W ps ∧ ∀ p ∈ ps, ∀ r ∈ p.C, r.length ≤ 100 := by
  have at' : ∀ p ∈ ps, ∃ j : Int, 0 ≤ j ∧ j < 3 ∧ p = plx ps j := fun p hp => by
    obtain ⟨j, hj⟩ := List.getElem?_of_mem hp
    have := (List.getElem?_eq_some_iff.mp hj).1
    exact ⟨j, by omega, by omega, by unfold plx; rw [Int.toNat_natCast, hj]; rfl⟩
  have ws : ∀ p ∈ ps, p.w = 1 := fun p hp => by
    obtain ⟨j, a, b, e⟩ := at' p hp
    rw [e]; exact (h j a b).w
  have ri : ∀ p ∈ ps, Rise85 p.C W := fun p hp => by
    obtain ⟨j, a, b, e⟩ := at' p hp
    rw [e]; exact (h j a b).rise
  refine ⟨{ n0 := by omega, n1 := by omega, good := fun p hp => ?_, rows := fun p hp => (ri p hp).1, room := fun p hp r hr => ?_, w1 := fun p hp => by rw [ws p hp]; decide, one := ws, up := fun p hp r hr => ((ri p hp).2 r hr).2 }, fun p hp r hr => by rw [((ri p hp).2 r hr).1]; decide⟩
  · obtain ⟨j, a, b, e⟩ := at' p hp
    obtain ⟨x, y, _, eo, ne, xb, yb⟩ := ix_offs85 a b
    rw [e, (h j a b).ls, eo]
    exact good85 (ixv_in85 hN hb xb.1 xb.2) (ixv_in85 hN hb yb.1 yb.2) (ixv_ne85 hN nd xb.1 xb.2 yb.1 yb.2 ne)
  · rw [LW.sum_one ws, hl, ((ri p hp).2 r hr).1]; decide
theorem chs85_of {N : List Int} {W : Int} {ps : List Pl} (hl : ps.length = 3) (h : ∀ j : Int, 0 ≤ j → j < 3 → Tk85 N W j (plx ps j)) : ∀ s ∈ S85, Chs ps (s.map fun x => [ixv N x]) := fun s hs => by
  obtain ⟨s1, s2, s3⟩ := S_ok85 s hs
  refine ⟨by rw [List.length_map, s1, hl], fun j j0 j1 => ?_⟩
  have j3 : j < 3 := by omega
  rw [(h j j0 j3).ls, mem_sortT, List.mem_map]
  have hj : j.toNat < s.length := by omega
  refine ⟨ixv s j, s3 j (by rcases three85 j0 j3 with rfl | rfl | rfl <;> simp), ?_⟩
  unfold ixr
  rw [List.getElem?_map, List.getElem?_eq_getElem hj]
  show [ixv N (ixv s j)] = [ixv N s[j.toNat]]
  have : ixv s j = s[j.toNat] := by unfold ixv; rw [List.getElem?_eq_getElem hj]; rfl
  rw [this]
theorem v_own85 (D : List Int) (hD : D.length = 9) : ∃ (W : Int) (ps : List Pl) (R : List (List (List Int))), m_law_own_round [li D] = .ok (.tuple [gmD W ps, .list (R.map tt)]) ∧ Game W ps ∧ ps.length ≤ 3 ∧ (∀ p ∈ ps, ∀ r ∈ p.C, r.length ≤ 100) ∧ (∀ r ∈ R, Chs ps r) ∧ R.length ≤ 20 := by
  show ∃ (W : Int) (ps : List Pl) (R : List (List (List Int))), endR (g_law_own_round [some (.d (li D)), none, none, none, none, none, none, none, none, none, none, none, none]) = _ ∧ _
  have e0 := ix_li (L := D) (i := 0) (by decide) (by omega)
  have e4 := ix_li (L := D) (i := 4) (by decide) (by omega)
  have a0 := fmod_lo (ixv D 0) (b := 2) (by decide)
  have a1 := fmod_hi (ixv D 0) (b := 2) (by decide)
  have m2 := oMod_int (i := ixv D 0) (j := 2) (by decide)
  generalize hW : 3 + (ixv D 0).fmod 2 = W
  have w0 : 3 ≤ W := by omega
  have w1 : W ≤ 10 := by omega
  obtain ⟨N, eN, hN, nd, hb⟩ := v_names85 (D.drop 1) W w0 w1 (by rw [List.length_drop]; omega)
  have cu := cut_li D 1 (by omega)
  have cu : oCut (li D) (some 1) none = .ok (li (D.drop 1)) := cu
  have u0 := fmod_lo (ixv D 4) (b := 3) (by decide)
  have u1 := fmod_hi (ixv D 4) (b := 3) (by decide)
  have m3 := oMod_int (i := ixv D 4) (j := 3) (by decide)
  generalize (ixv D 4).fmod 3 = u at u0 u1 m3
  obtain ⟨F, hF, ef⟩ := pick3 u0 u1
  have key := forGo_inv (i := 6) (g := b_law_own_round_2) (enc := PyData.int) (fun xs ρ => ∃ (k : Int) (ps : List Pl) (o6 o7 o8 o9 : Option Sl) (o12 : Option Sl), ρ = [some (.d (li D)), some (.d (.int W)), some (.d (tu N)), some (.d offs85), some (.d rows85), some (.own (ps.map (tkD W))), o6, o7, o8, o9, none, none, o12] ∧ xs = rangeI k 3 ∧ 0 ≤ k ∧ k ≤ 3 ∧ (ps.length : Int) = k ∧ ∀ j : Int, 0 ≤ j → j < k → Tk85 N W j (plx ps j)) (by
    rintro y xs ρ ⟨k, ps, o6, o7, o8, o9, o12, rfl, hx, k0, k1, hl, hp⟩
    obtain ⟨hk1, rfl, rfl⟩ := rangeI_inv hx
    have fl : (ps.map (tkD W)).length < sizeLine := line_lt (by rw [List.length_map]; omega)
    have rgW := rngA1_ok (n := W) (by omega) (by omega)
    have lc := lc_of (enc := PyData.int) (fi := dRng1 (dCons (dVar 1) dNil)) (t := .nm 9) (ft := dYes) (fe := dTup (dCons (dC (.int 0)) (dCons (dC (.int 0)) (dCons (dC (.int 0)) dNil)))) (vs := [9]) (ρ := [some (.d (li D)), some (.d (.int W)), some (.d (tu N)), some (.d offs85), some (.d rows85), some (.own (ps.map (tkD W))), some (.d (.int y)), some (.d (.int F)), o8, o9, none, none, o12]) (xs := rangeI 0 W) (st := fun x => [some (.d (li D)), some (.d (.int W)), some (.d (tu N)), some (.d offs85), some (.d rows85), some (.own (ps.map (tkD W))), some (.d (.int y)), some (.d (.int F)), o8, some (.d (.int x)), none, none, o12]) (q := fun _ => true) (g := fun _ => tu [0, 0, 0]) (by simp [rgW]) (fun x hx => ⟨rfl, rfl, fun _ => rfl⟩)
    rw [List.filter_eq_self.mpr (fun _ _ => rfl)] at lc
    have el : ((rangeI 0 W).map fun _ => tu [0, 0, 0]) = ((rangeI 0 W).map fun _ => ([0, 0, 0] : List Int)).map tu := by rw [List.map_map]; rfl
    rw [el] at lc
    have r0 : Rise85 ((rangeI 0 W).map fun _ => ([0, 0, 0] : List Int)) W := ⟨by rw [List.length_map, rangeI_len]; omega, fun r hr => by
      obtain ⟨_, _, rfl⟩ := List.mem_map.mp hr
      exact ⟨rfl, by decide⟩⟩
    obtain ⟨T, p9, p12, lp, hT⟩ := table85 (W := W) (F := F) (k := y) (N := N) (D := D) (o10 := none) (o11 := none) (o12 := o12) (TK := ps.map (tkD W)) w1 hN hb hF k0 hk1 hD rfl offs85 r0 o9
    obtain ⟨a, b, eo, eo2, ne, ab, bb⟩ := ix_offs85 k0 hk1
    have rn := v_renamed85 (N := N) (r1 := [a]) (r2 := [b]) hN (fun x hx => by rw [List.mem_singleton.mp hx]; exact ab) (fun x hx => by rw [List.mem_singleton.mp hx]; exact bb)
    rw [nmd_one85, nmd_one85] at rn
    have st := own_step85 (o7 := o7) (o8 := o8) (o9 := o9) (o10 := none) (o11 := none) (o12 := o12) fl e4 m3 ef lc lp eo rn (CT := tt T) rfl (Z := tkD W ⟨sortT [[ixv N a], [ixv N b]], T, 1⟩) rfl
    have em : ps.map (tkD W) ++ [tkD W ⟨sortT [[ixv N a], [ixv N b]], T, 1⟩] = (ps ++ [(⟨sortT [[ixv N a], [ixv N b]], T, 1⟩ : Pl)]).map (tkD W) := by simp
    rw [em] at st
    refine ⟨_, st, y + 1, ps ++ [(⟨sortT [[ixv N a], [ixv N b]], T, 1⟩ : Pl)], _, _, _, _, _, rfl, rfl, by omega, by omega, by simp; omega, fun j j0 j1 => ?_⟩
    by_cases q : j < y
    · rw [plx_snoc j0 (by omega)]; exact hp j j0 q
    · have ej : j = y := by omega
      rw [plx_last (by omega), ej]
      exact ⟨rfl, by rw [eo2]; rfl, hT⟩)
  obtain ⟨ρ', e, k, ps, o6, o7, o8, o9, o12, rfl, hx, k0, k1, hl, hp⟩ := key (rangeI 0 3) [some (.d (li D)), some (.d (.int W)), some (.d (tu N)), some (.d offs85), some (.d rows85), some (.own []), none, none, none, none, none, none, none] ⟨0, [], none, none, none, none, none, rfl, rfl, by decide, by decide, rfl, fun j a b => by omega⟩
  have ek : k = 3 := by
    by_cases h : k < 3
    · rw [rangeI_cons h] at hx; cases hx
    · omega
  subst ek
  have pl : ps.length = 3 := by omega
  have key2 := forGo_inv (i := 11) (g := b_law_own_round_3) (enc := tu) (fun xs ρ => ∃ (Q : List (List Int)) (o9 o11 : Option Sl), ρ = [some (.d (li D)), some (.d (.int W)), some (.d (tu N)), some (.d offs85), some (.d rows85), some (.own (ps.map (tkD W))), o6, o7, o8, o9, some (.own ((Q.map fun s => s.map fun x => [ixv N x]).map tt)), o11, o12] ∧ S85 = Q ++ xs) (by
    rintro s xs ρ ⟨Q, o9, o11, rfl, hq⟩
    have hs : s ∈ S85 := by rw [hq]; simp
    obtain ⟨s1, s2, _⟩ := S_ok85 s hs
    have ql : Q.length ≤ 6 := by
      have := congrArg List.length hq
      rw [List.length_append] at this
      have e6 : S85.length = 6 := rfl
      omega
    have fl : ((Q.map fun s => s.map fun x => [ixv N x]).map tt).length < sizeLine := line_lt (by rw [List.length_map, List.length_map]; omega)
    have lc := lc_of (enc := PyData.int) (fi := dItems (dVar 11)) (t := .nm 9) (ft := dYes) (fe := dTup (dCons (dTwo oIx (dVar 2) (dVar 9)) dNil)) (vs := [9]) (ρ := [some (.d (li D)), some (.d (.int W)), some (.d (tu N)), some (.d offs85), some (.d rows85), some (.own (ps.map (tkD W))), o6, o7, o8, o9, some (.own ((Q.map fun s => s.map fun x => [ixv N x]).map tt)), some (.d (tu s)), o12]) (xs := s) (st := fun x => [some (.d (li D)), some (.d (.int W)), some (.d (tu N)), some (.d offs85), some (.d rows85), some (.own (ps.map (tkD W))), o6, o7, o8, some (.d (.int x)), some (.own ((Q.map fun s => s.map fun x => [ixv N x]).map tt)), some (.d (tu s)), o12]) (q := fun _ => true) (g := fun x => tu [ixv N x]) (by
      generalize (Q.map fun s => s.map fun x => [ixv N x]).map tt = QM at *
      generalize ps.map (tkD W) = PM at *
      simp) (fun x hx => ⟨rfl, rfl, fun _ => by
      obtain ⟨x0, x1⟩ := s2 x hx
      have nx := ix_tu (L := N) x0 (by omega)
      generalize (Q.map fun s => s.map fun x => [ixv N x]).map tt = QM at *
      generalize ps.map (tkD W) = PM at *
      generalize tu N = ND at *
      simp [nx]⟩)
    rw [List.filter_eq_self.mpr (fun _ _ => rfl)] at lc
    have el : PyData.list (s.map fun x => tu [ixv N x]) = lt (s.map fun x => [ixv N x]) := by unfold lt; rw [List.map_map]; rfl
    rw [el] at lc
    have bt : bTuple [lt (s.map fun x => [ixv N x])] = .ok (tt (s.map fun x => [ixv N x])) := bTuple_lt _
    refine ⟨[some (.d (li D)), some (.d (.int W)), some (.d (tu N)), some (.d offs85), some (.d rows85), some (.own (ps.map (tkD W))), o6, o7, o8, o9, some (.own (((Q ++ [s]).map fun s => s.map fun x => [ixv N x]).map tt)), some (.d (tu s)), o12], ?_, Q ++ [s], _, _, rfl, by rw [hq]; simp⟩
    rw [List.map_append, List.map_append, List.map_cons, List.map_nil, List.map_cons, List.map_nil]
    generalize (Q.map fun s => s.map fun x => [ixv N x]).map tt = QM at *
    generalize ps.map (tkD W) = PM at *
    generalize tt (s.map fun x => [ixv N x]) = T1 at *
    generalize lt (s.map fun x => [ixv N x]) = T2 at *
    generalize tu s = TS at *
    simp [b_law_own_round_3, -ev_lc, lc, bt, fl])
  obtain ⟨ρ', e2, Q, p9, p11, rfl, hq⟩ := key2 S85 [some (.d (li D)), some (.d (.int W)), some (.d (tu N)), some (.d offs85), some (.d rows85), some (.own (ps.map (tkD W))), o6, o7, o8, o9, some (.own []), none, o12] ⟨[], _, _, rfl, rfl⟩
  rw [List.append_nil] at hq
  obtain ⟨G, hrow⟩ := game85_of hN nd hb w0 w1 pl hp
  refine ⟨W, ps, Q.map fun s => s.map fun x => [ixv N x], ?_, G, by omega, hrow, fun r hr => ?_, by rw [List.length_map, ← hq]; decide⟩
  · have hS : S85.map tu = [PyData.tuple [PyData.int 1, PyData.int 1, PyData.int 2], PyData.tuple [PyData.int 1, PyData.int 2, PyData.int 2], PyData.tuple [PyData.int 0, PyData.int 2, PyData.int 2], PyData.tuple [PyData.int 0, PyData.int 2, PyData.int 0], PyData.tuple [PyData.int 0, PyData.int 1, PyData.int 0], PyData.tuple [PyData.int 1, PyData.int 1, PyData.int 0]] := rfl
    rw [hS] at e2
    have rg3 := rngA1_ok (n := 3) (by decide) (by decide)
    have fz : bTuple [.list (ps.map (tkD W))] = .ok (gmD W ps) := rfl
    generalize gmD W ps = GD at *
    generalize (Q.map fun s => s.map fun x => [ixv N x]).map tt = QM at *
    generalize ps.map (tkD W) = PM at *
    have ho : PyData.tuple [PyData.tuple [tu [0], tu [1]], PyData.tuple [tu [1], tu [2]], PyData.tuple [tu [0], tu [2]]] = offs85 := rfl
    have hr : PyData.tuple [PyData.tuple [PyData.tuple [PyData.int 1, PyData.int 4, PyData.int 4], PyData.tuple [PyData.int 2, PyData.int 3, PyData.int 3], PyData.tuple [PyData.int 0, PyData.int 0, PyData.int 0]], PyData.tuple [PyData.tuple [PyData.int 0, PyData.int 0, PyData.int 0], PyData.tuple [PyData.int 1, PyData.int 4, PyData.int 4], PyData.tuple [PyData.int 2, PyData.int 3, PyData.int 3]], PyData.tuple [PyData.tuple [PyData.int 2, PyData.int 3, PyData.int 3], PyData.tuple [PyData.int 0, PyData.int 0, PyData.int 0], PyData.tuple [PyData.int 1, PyData.int 4, PyData.int 4]]] = rows85 := rfl
    generalize offs85 = OFS at *
    generalize rows85 = RWS at *
    generalize li (List.drop 1 D) = DT at *
    generalize li D = DD at *
    generalize tu N = ND at *
    simp [g_law_own_round, e0, m2, hW, cu, eN, ho, hr, rg3, e, e2, fz]

  · obtain ⟨s, hs, rfl⟩ := List.mem_map.mp hr
    exact chs85_of pl hp s (by rw [hq]; exact hs)
end LW
set_option Elab.async false
set_option maxRecDepth 100000
set_option linter.all false
set_option maxHeartbeats 2000000
namespace LW
open PySem PySem.Spec PyProof.Rows L2 PD
theorem law_key85 {S LD GD RL LD2 GD2 RT G0 R0 : PyData} {c0 x8 c9 c10 : Int} {b : Bool} (a0 : m_law_cell [S, .int 0] = .ok (.int c0)) (a1 : m_law_draws [.int c0, .int 9] = .ok LD) (i8 : oIx LD (.int 8) = .ok (.int x8))
    (br : (x8.fmod 2 = 0 ∧ m_law_own_round [LD] = .ok (.tuple [GD, RL])) ∨ (¬ x8.fmod 2 = 0 ∧ m_law_game_k86 [S, .int 1, .bool false] = .ok GD ∧ m_law_cell [S, .int 9] = .ok (.int c9) ∧ m_law_walk [.int c9, GD] = .ok RL))
    (a10 : m_law_cell [S, .int 10] = .ok (.int c10)) (d10 : m_law_draws [.int c10, .int 5] = .ok LD2) (ch : m_law_changed_k85 [GD, RL, LD2] = .ok (.tuple [GD2, RT])) (r1 : m_is_ring [GD2, RT] = .ok (.bool b)) (r2 : m_law_is_ring [GD2, RT] = .ok (.bool b))
    (rd : m_round_game [] = .ok (.tuple [G0, R0])) (ok : m_law_is_round [.tuple [G0, R0]] = .ok (.bool true)) (r3 : m_is_ring [G0, R0] = .ok (.bool true)) :
    endR (g_law_k85 [some (.d S), none, none, none, none, none]) = .ok (.bool true) := by
  have m2 := oMod_int (i := x8) (j := 2) (by decide)
  generalize x8.fmod 2 = w at *
  have u0 : oIx (.tuple [GD, RL]) (.int 0) = .ok GD := rfl
  have u1 : oIx (.tuple [GD, RL]) (.int 1) = .ok RL := rfl
  have v0 : oIx (.tuple [GD2, RT]) (.int 0) = .ok GD2 := rfl
  have v1 : oIx (.tuple [GD2, RT]) (.int 1) = .ok RT := rfl
  have t0 : oIx (.tuple [G0, R0]) (.int 0) = .ok G0 := rfl
  have t1 : oIx (.tuple [G0, R0]) (.int 1) = .ok R0 := rfl
  have ib : oIsi "bool" (.bool b) = .ok (.bool true) := rfl
  have nb : oNe (.bool b) (.bool b) = .ok (.bool false) := by simp
  have ii : oIs (.bool true) (.bool true) = .ok (.bool true) := rfl
  rcases br with ⟨q, e⟩ | ⟨q, e1, e2, e3⟩
  · generalize PyData.tuple [GD, RL] = B at *
    generalize PyData.tuple [GD2, RT] = B2 at *
    generalize PyData.tuple [G0, R0] = B3 at *
    simp [g_law_k85, a0, a1, i8, m2, q, e, u0, u1, a10, d10, ch, v0, v1, r1, r2, ib, nb, rd, ok, t0, t1, r3, ii]
  · have q2 : (w == 0) = false := by simpa using q
    have eB : PyData.tuple [GD, RL] = PyData.tuple [GD, RL] := rfl
    generalize PyData.tuple [GD2, RT] = B2 at *
    generalize PyData.tuple [G0, R0] = B3 at *
    simp [g_law_k85, a0, a1, i8, m2, q, q2, e1, e2, e3, u0, u1, a10, d10, ch, v0, v1, r1, r2, ib, nb, rd, ok, t0, t1, r3, ii]
theorem main_k85 (ns : List Int) (hn : ns.length ≤ 63) : m_law_k85 [.list (ns.map .int)] = .ok (.bool true) := by
  show endR (g_law_k85 [some (.d (li ns)), none, none, none, none, none]) = _
  obtain ⟨c0, e0⟩ := v_cell ns 0 (by decide)
  obtain ⟨c9, e9⟩ := v_cell ns 9 (by decide)
  obtain ⟨c10, e10⟩ := v_cell ns 10 (by decide)
  obtain ⟨L, eL, hL, bL⟩ := v_draws c0 9 (by decide) (by decide)
  have hL9 : L.length = 9 := hL
  obtain ⟨L2, eL2, hL2, bL2⟩ := v_draws c10 5 (by decide) (by decide)
  have hL5 : L2.length = 5 := hL2
  have i8 := ix_li (L := L) (i := 8) (by decide) (by omega)
  have fin : ∀ (W : Int) (ps : List Pl) (R : List (List (List Int))), Game W ps → ps.length ≤ 3 → (∀ p ∈ ps, ∀ r ∈ p.C, r.length ≤ 100) → (∀ r ∈ R, Chs ps r) → R.length ≤ 20 → ((ixv L 8).fmod 2 = 0 ∧ m_law_own_round [li L] = .ok (.tuple [gmD W ps, .list (R.map tt)])) ∨ (¬ (ixv L 8).fmod 2 = 0 ∧ m_law_game_k86 [li ns, .int 1, .bool false] = .ok (gmD W ps) ∧ m_law_cell [li ns, .int 9] = .ok (.int c9) ∧ m_law_walk [.int c9, gmD W ps] = .ok (.list (R.map tt))) → endR (g_law_k85 [some (.d (li ns)), none, none, none, none, none]) = .ok (.bool true) := by
    intro W ps R G pl hrow hR hl br
    obtain ⟨ps', R', ec, G', hl', hR', hlR⟩ := v_changed85 G (by omega) hrow hR hl hL5
    have r1 := v_is_ring85 G' (by omega) hR' hlR
    have r2 := v_law_ring85 G' (by omega) hR' hlR
    exact law_key85 e0 eL i8 br e10 eL2 ec r1 r2 round85 told_ok85 ring_ok85
  by_cases q : (ixv L 8).fmod 2 = 0
  · obtain ⟨W, ps, R, e, G, pl, hrow, hR, hl⟩ := v_own85 L hL9
    exact fin W ps R G pl hrow hR hl (.inl ⟨q, e⟩)
  · obtain ⟨n, ps, e, G, pl, hrow⟩ := v_game85 ns 1 (by decide)
    obtain ⟨R, ew, hR, hl⟩ := v_walk85 c9 n ps G (by omega)
    exact fin n ps R G pl hrow hR (by omega) (.inr ⟨q, e, e9, ew⟩)
end LW
set_option Elab.async false
set_option linter.all false
set_option maxRecDepth 100000
set_option maxHeartbeats 4000000
namespace LW
open PySem PySem.Spec PyProof.Rows L2 PD
theorem all_mk {l : PySem.W.OpenLaw} {w : World} {K : PySem.W.Frag} {h : Heap} {mg : Str → Option Value} {fa : Addr} (X : K.In h) (G : h.Ns mainGlobals mg) (hfa : mg "law" = some (.ref fa))
    {f1 f2 f3 f4 f5 f6 f7 f8 f9 f10 f11 f12 f13 f14 f15 f16 f17 f18 f19 f20 f21 f22 f23 f24 f25 f26 f27 f28 f29 f30 f31 f32 f33 f34 f35 f36 f37 f38 f39 f40 f41 f42 f43 f44 f45 f46 f47 f48 f49 f50 f51 f52 f53 : Addr} {od1 an1 od2 an2 od3 an3 od4 an4 od5 an5 od6 an6 od7 an7 od8 an8 od9 an9 od10 an10 od11 an11 od12 an12 od13 an13 od14 an14 od15 an15 od16 an16 od17 an17 od18 an18 od19 an19 od20 an20 od21 an21 od22 an22 od23 an23 od24 an24 od25 an25 od26 an26 od27 an27 od28 an28 od29 an29 od30 an30 od31 an31 od32 an32 od33 an33 od34 an34 od35 an35 od36 an36 od37 an37 od38 an38 od39 an39 od40 an40 od41 an41 od42 an42 od43 an43 od44 an44 od45 an45 od46 an46 od47 an47 od48 an48 od49 an49 od50 an50 od51 an51 od52 an52 od53 an53 : Option Addr} {sl1 sl2 sl3 sl4 sl5 sl6 sl7 sl8 sl9 sl10 sl11 sl12 sl13 sl14 sl15 sl16 sl17 sl18 sl19 sl20 sl21 sl22 sl23 sl24 sl25 sl26 sl27 sl28 sl29 sl30 sl31 sl32 sl33 sl34 sl35 sl36 sl37 sl38 sl39 sl40 sl41 sl42 sl43 sl44 sl45 sl46 sl47 sl48 sl49 sl50 sl51 sl52 sl53 : Array (Option Value)} {oc1 kV1 dc1 pm1 ct1 cd1 oc2 kV2 dc2 pm2 ct2 cd2 oc3 kV3 dc3 pm3 ct3 cd3 oc4 kV4 dc4 pm4 ct4 cd4 oc5 kV5 dc5 pm5 ct5 cd5 oc6 kV6 dc6 pm6 ct6 cd6 oc7 kV7 dc7 pm7 ct7 cd7 oc8 kV8 dc8 pm8 ct8 cd8 oc9 kV9 dc9 pm9 ct9 cd9 oc10 kV10 dc10 pm10 ct10 cd10 oc11 kV11 dc11 pm11 ct11 cd11 oc12 kV12 dc12 pm12 ct12 cd12 oc13 kV13 dc13 pm13 ct13 cd13 oc14 kV14 dc14 pm14 ct14 cd14 oc15 kV15 dc15 pm15 ct15 cd15 oc16 kV16 dc16 pm16 ct16 cd16 oc17 kV17 dc17 pm17 ct17 cd17 oc18 kV18 dc18 pm18 ct18 cd18 oc19 kV19 dc19 pm19 ct19 cd19 oc20 kV20 dc20 pm20 ct20 cd20 oc21 kV21 dc21 pm21 ct21 cd21 oc22 kV22 dc22 pm22 ct22 cd22 oc23 kV23 dc23 pm23 ct23 cd23 oc24 kV24 dc24 pm24 ct24 cd24 oc25 kV25 dc25 pm25 ct25 cd25 oc26 kV26 dc26 pm26 ct26 cd26 oc27 kV27 dc27 pm27 ct27 cd27 oc28 kV28 dc28 pm28 ct28 cd28 oc29 kV29 dc29 pm29 ct29 cd29 oc30 kV30 dc30 pm30 ct30 cd30 oc31 kV31 dc31 pm31 ct31 cd31 oc32 kV32 dc32 pm32 ct32 cd32 oc33 kV33 dc33 pm33 ct33 cd33 oc34 kV34 dc34 pm34 ct34 cd34 oc35 kV35 dc35 pm35 ct35 cd35 oc36 kV36 dc36 pm36 ct36 cd36 oc37 kV37 dc37 pm37 ct37 cd37 oc38 kV38 dc38 pm38 ct38 cd38 oc39 kV39 dc39 pm39 ct39 cd39 oc40 kV40 dc40 pm40 ct40 cd40 oc41 kV41 dc41 pm41 ct41 cd41 oc42 kV42 dc42 pm42 ct42 cd42 oc43 kV43 dc43 pm43 ct43 cd43 oc44 kV44 dc44 pm44 ct44 cd44 oc45 kV45 dc45 pm45 ct45 cd45 oc46 kV46 dc46 pm46 ct46 cd46 oc47 kV47 dc47 pm47 ct47 cd47 oc48 kV48 dc48 pm48 ct48 cd48 oc49 kV49 dc49 pm49 ct49 cd49 oc50 kV50 dc50 pm50 ct50 cd50 oc51 kV51 dc51 pm51 ct51 cd51 oc52 kV52 dc52 pm52 ct52 cd52 oc53 kV53 dc53 pm53 ct53 cd53 : Value}
    (a1 : PySem.W.nsIn K mainGlobals "_law_draws" = some (some (.ref f1))) (l1 : K.lookup f1 = some ⟨oc1, od1, .func (PySem.W.fnOf "_law_draws" "_law_draws" (defArgs s_law_draws) (defBody s_law_draws) (defScope s_law_draws) .none kV1 dc1 pm1 an1 cd1 ct1), sl1⟩) (c1 : PySem.W.codeIn K cd1 "_law_draws" = true) (k1 : PySem.W.keepIn K (.ref f1) = true)
    (a2 : PySem.W.nsIn K mainGlobals "_law_with" = some (some (.ref f2))) (l2 : K.lookup f2 = some ⟨oc2, od2, .func (PySem.W.fnOf "_law_with" "_law_with" (defArgs s_law_with) (defBody s_law_with) (defScope s_law_with) .none kV2 dc2 pm2 an2 cd2 ct2), sl2⟩) (c2 : PySem.W.codeIn K cd2 "_law_with" = true) (k2 : PySem.W.keepIn K (.ref f2) = true)
    (a3 : PySem.W.nsIn K mainGlobals "_law_choice" = some (some (.ref f3))) (l3 : K.lookup f3 = some ⟨oc3, od3, .func (PySem.W.fnOf "_law_choice" "_law_choice" (defArgs s_law_choice) (defBody s_law_choice) (defScope s_law_choice) .none kV3 dc3 pm3 an3 cd3 ct3), sl3⟩) (c3 : PySem.W.codeIn K cd3 "_law_choice" = true) (k3 : PySem.W.keepIn K (.ref f3) = true)
    (a4 : PySem.W.nsIn K mainGlobals "_law_changed" = some (some (.ref f4))) (l4 : K.lookup f4 = some ⟨oc4, od4, .func (PySem.W.fnOf "_law_changed" "_law_changed" (defArgs s_law_changed) (defBody s_law_changed) (defScope s_law_changed) .none kV4 dc4 pm4 an4 cd4 ct4), sl4⟩) (c4 : PySem.W.codeIn K cd4 "_law_changed" = true) (k4 : PySem.W.keepIn K (.ref f4) = true)
    (a5 : PySem.W.nsIn K mainGlobals "_movers" = some (some (.ref f5))) (l5 : K.lookup f5 = some ⟨oc5, od5, .func (PySem.W.fnOf "_movers" "_movers" (defArgs s_movers) (defBody s_movers) (defScope s_movers) .none kV5 dc5 pm5 an5 cd5 ct5), sl5⟩) (c5 : PySem.W.codeIn K cd5 "_movers" = true) (k5 : PySem.W.keepIn K (.ref f5) = true)
    (a6 : PySem.W.nsIn K mainGlobals "price" = some (some (.ref f6))) (l6 : K.lookup f6 = some ⟨oc6, od6, .func (PySem.W.fnOf "price" "price" (defArgs s_price) (defBody s_price) (defScope s_price) .none kV6 dc6 pm6 an6 cd6 ct6), sl6⟩) (c6 : PySem.W.codeIn K cd6 "price" = true) (k6 : PySem.W.keepIn K (.ref f6) = true)
    (a7 : PySem.W.nsIn K mainGlobals "count_loads" = some (some (.ref f7))) (l7 : K.lookup f7 = some ⟨oc7, od7, .func (PySem.W.fnOf "count_loads" "count_loads" (defArgs s_count_loads) (defBody s_count_loads) (defScope s_count_loads) .none kV7 dc7 pm7 an7 cd7 ct7), sl7⟩) (c7 : PySem.W.codeIn K cd7 "count_loads" = true) (k7 : PySem.W.keepIn K (.ref f7) = true)
    (a8 : PySem.W.nsIn K mainGlobals "cost_at" = some (some (.ref f8))) (l8 : K.lookup f8 = some ⟨oc8, od8, .func (PySem.W.fnOf "cost_at" "cost_at" (defArgs s_cost_at) (defBody s_cost_at) (defScope s_cost_at) .none kV8 dc8 pm8 an8 cd8 ct8), sl8⟩) (c8 : PySem.W.codeIn K cd8 "cost_at" = true) (k8 : PySem.W.keepIn K (.ref f8) = true)
    (a9 : PySem.W.nsIn K mainGlobals "prices_for" = some (some (.ref f9))) (l9 : K.lookup f9 = some ⟨oc9, od9, .func (PySem.W.fnOf "prices_for" "prices_for" (defArgs s_prices_for) (defBody s_prices_for) (defScope s_prices_for) .none kV9 dc9 pm9 an9 cd9 ct9), sl9⟩) (c9 : PySem.W.codeIn K cd9 "prices_for" = true) (k9 : PySem.W.keepIn K (.ref f9) = true)
    (a10 : PySem.W.nsIn K mainGlobals "_players" = some (some (.ref f10))) (l10 : K.lookup f10 = some ⟨oc10, od10, .func (PySem.W.fnOf "_players" "_players" (defArgs s_players) (defBody s_players) (defScope s_players) .none kV10 dc10 pm10 an10 cd10 ct10), sl10⟩) (c10 : PySem.W.codeIn K cd10 "_players" = true) (k10 : PySem.W.keepIn K (.ref f10) = true)
    (a11 : PySem.W.nsIn K mainGlobals "own_prices" = some (some (.ref f11))) (l11 : K.lookup f11 = some ⟨oc11, od11, .func (PySem.W.fnOf "own_prices" "own_prices" (defArgs s_own_prices) (defBody s_own_prices) (defScope s_own_prices) .none kV11 dc11 pm11 an11 cd11 ct11), sl11⟩) (c11 : PySem.W.codeIn K cd11 "own_prices" = true) (k11 : PySem.W.keepIn K (.ref f11) = true)
    (a12 : PySem.W.nsIn K mainGlobals "pay" = some (some (.ref f12))) (l12 : K.lookup f12 = some ⟨oc12, od12, .func (PySem.W.fnOf "pay" "pay" (defArgs s_pay) (defBody s_pay) (defScope s_pay) .none kV12 dc12 pm12 an12 cd12 ct12), sl12⟩) (c12 : PySem.W.codeIn K cd12 "pay" = true) (k12 : PySem.W.keepIn K (.ref f12) = true)
    (a13 : PySem.W.nsIn K mainGlobals "_all_pay_less" = some (some (.ref f13))) (l13 : K.lookup f13 = some ⟨oc13, od13, .func (PySem.W.fnOf "_all_pay_less" "_all_pay_less" (defArgs s_all_pay_less) (defBody s_all_pay_less) (defScope s_all_pay_less) .none kV13 dc13 pm13 an13 cd13 ct13), sl13⟩) (c13 : PySem.W.codeIn K cd13 "_all_pay_less" = true) (k13 : PySem.W.keepIn K (.ref f13) = true)
    (a14 : PySem.W.nsIn K mainGlobals "_is_step" = some (some (.ref f14))) (l14 : K.lookup f14 = some ⟨oc14, od14, .func (PySem.W.fnOf "_is_step" "_is_step" (defArgs s_is_step) (defBody s_is_step) (defScope s_is_step) .none kV14 dc14 pm14 an14 cd14 ct14), sl14⟩) (c14 : PySem.W.codeIn K cd14 "_is_step" = true) (k14 : PySem.W.keepIn K (.ref f14) = true)
    (a15 : PySem.W.nsIn K mainGlobals "is_ring" = some (some (.ref f15))) (l15 : K.lookup f15 = some ⟨oc15, od15, .func (PySem.W.fnOf "is_ring" "is_ring" (defArgs s_is_ring) (defBody s_is_ring) (defScope s_is_ring) .none kV15 dc15 pm15 an15 cd15 ct15), sl15⟩) (c15 : PySem.W.codeIn K cd15 "is_ring" = true) (k15 : PySem.W.keepIn K (.ref f15) = true)
    (a16 : PySem.W.nsIn K mainGlobals "make_game" = some (some (.ref f16))) (l16 : K.lookup f16 = some ⟨oc16, od16, .func (PySem.W.fnOf "make_game" "make_game" (defArgs s_make_game) (defBody s_make_game) (defScope s_make_game) .none kV16 dc16 pm16 an16 cd16 ct16), sl16⟩) (c16 : PySem.W.codeIn K cd16 "make_game" = true) (k16 : PySem.W.keepIn K (.ref f16) = true)
    (a17 : PySem.W.nsIn K mainGlobals "subsets" = some (some (.ref f17))) (l17 : K.lookup f17 = some ⟨oc17, od17, .func (PySem.W.fnOf "subsets" "subsets" (defArgs s_subsets) (defBody s_subsets) (defScope s_subsets) .none kV17 dc17 pm17 an17 cd17 ct17), sl17⟩) (c17 : PySem.W.codeIn K cd17 "subsets" = true) (k17 : PySem.W.keepIn K (.ref f17) = true)
    (a18 : PySem.W.nsIn K mainGlobals "choose" = some (some (.ref f18))) (l18 : K.lookup f18 = some ⟨oc18, od18, .func (PySem.W.fnOf "choose" "choose" (defArgs s_choose) (defBody s_choose) (defScope s_choose) .none kV18 dc18 pm18 an18 cd18 ct18), sl18⟩) (c18 : PySem.W.codeIn K cd18 "choose" = true) (k18 : PySem.W.keepIn K (.ref f18) = true)
    (a19 : PySem.W.nsIn K mainGlobals "_round_costs" = some (some (.ref f19))) (l19 : K.lookup f19 = some ⟨oc19, od19, .func (PySem.W.fnOf "_round_costs" "_round_costs" (defArgs s_round_costs) (defBody s_round_costs) (defScope s_round_costs) .none kV19 dc19 pm19 an19 cd19 ct19), sl19⟩) (c19 : PySem.W.codeIn K cd19 "_round_costs" = true) (k19 : PySem.W.keepIn K (.ref f19) = true)
    (a20 : PySem.W.nsIn K mainGlobals "_round_choice" = some (some (.ref f20))) (l20 : K.lookup f20 = some ⟨oc20, od20, .func (PySem.W.fnOf "_round_choice" "_round_choice" (defArgs s_round_choice) (defBody s_round_choice) (defScope s_round_choice) .none kV20 dc20 pm20 an20 cd20 ct20), sl20⟩) (c20 : PySem.W.codeIn K cd20 "_round_choice" = true) (k20 : PySem.W.keepIn K (.ref f20) = true)
    (a21 : PySem.W.nsIn K mainGlobals "round_game" = some (some (.ref f21))) (l21 : K.lookup f21 = some ⟨oc21, od21, .func (PySem.W.fnOf "round_game" "round_game" (defArgs s_round_game) (defBody s_round_game) (defScope s_round_game) .none kV21 dc21 pm21 an21 cd21 ct21), sl21⟩) (c21 : PySem.W.codeIn K cd21 "round_game" = true) (k21 : PySem.W.keepIn K (.ref f21) = true)
    (a22 : PySem.W.nsIn K mainGlobals "_law_cell" = some (some (.ref f22))) (l22 : K.lookup f22 = some ⟨oc22, od22, .func (PySem.W.fnOf "_law_cell" "_law_cell" (defArgs s_law_cell) (defBody s_law_cell) (defScope s_law_cell) .none kV22 dc22 pm22 an22 cd22 ct22), sl22⟩) (c22 : PySem.W.codeIn K cd22 "_law_cell" = true) (k22 : PySem.W.keepIn K (.ref f22) = true)
    (a23 : PySem.W.nsIn K mainGlobals "_law_drawn_names" = some (some (.ref f23))) (l23 : K.lookup f23 = some ⟨oc23, od23, .func (PySem.W.fnOf "_law_drawn_names" "_law_drawn_names" (defArgs s_law_drawn_names) (defBody s_law_drawn_names) (defScope s_law_drawn_names) .none kV23 dc23 pm23 an23 cd23 ct23), sl23⟩) (c23 : PySem.W.codeIn K cd23 "_law_drawn_names" = true) (k23 : PySem.W.keepIn K (.ref f23) = true)
    (a24 : PySem.W.nsIn K mainGlobals "_law_named" = some (some (.ref f24))) (l24 : K.lookup f24 = some ⟨oc24, od24, .func (PySem.W.fnOf "_law_named" "_law_named" (defArgs s_law_named) (defBody s_law_named) (defScope s_law_named) .none kV24 dc24 pm24 an24 cd24 ct24), sl24⟩) (c24 : PySem.W.codeIn K cd24 "_law_named" = true) (k24 : PySem.W.keepIn K (.ref f24) = true)
    (a25 : PySem.W.nsIn K mainGlobals "_law_renamed" = some (some (.ref f25))) (l25 : K.lookup f25 = some ⟨oc25, od25, .func (PySem.W.fnOf "_law_renamed" "_law_renamed" (defArgs s_law_renamed) (defBody s_law_renamed) (defScope s_law_renamed) .none kV25 dc25 pm25 an25 cd25 ct25), sl25⟩) (c25 : PySem.W.codeIn K cd25 "_law_renamed" = true) (k25 : PySem.W.keepIn K (.ref f25) = true)
    (a26 : PySem.W.nsIn K mainGlobals "_law_own_round" = some (some (.ref f26))) (l26 : K.lookup f26 = some ⟨oc26, od26, .func (PySem.W.fnOf "_law_own_round" "_law_own_round" (defArgs s_law_own_round) (defBody s_law_own_round) (defScope s_law_own_round) .none kV26 dc26 pm26 an26 cd26 ct26), sl26⟩) (c26 : PySem.W.codeIn K cd26 "_law_own_round" = true) (k26 : PySem.W.keepIn K (.ref f26) = true)
    (a27 : PySem.W.nsIn K mainGlobals "_law_costs" = some (some (.ref f27))) (l27 : K.lookup f27 = some ⟨oc27, od27, .func (PySem.W.fnOf "_law_costs" "_law_costs" (defArgs s_law_costs) (defBody s_law_costs) (defScope s_law_costs) .none kV27 dc27 pm27 an27 cd27 ct27), sl27⟩) (c27 : PySem.W.codeIn K cd27 "_law_costs" = true) (k27 : PySem.W.keepIn K (.ref f27) = true)
    (a28 : PySem.W.nsIn K mainGlobals "_law_parts_of" = some (some (.ref f28))) (l28 : K.lookup f28 = some ⟨oc28, od28, .func (PySem.W.fnOf "_law_parts_of" "_law_parts_of" (defArgs s_law_parts_of) (defBody s_law_parts_of) (defScope s_law_parts_of) .none kV28 dc28 pm28 an28 cd28 ct28), sl28⟩) (c28 : PySem.W.codeIn K cd28 "_law_parts_of" = true) (k28 : PySem.W.keepIn K (.ref f28) = true)
    (a29 : PySem.W.nsIn K mainGlobals "_law_count" = some (some (.ref f29))) (l29 : K.lookup f29 = some ⟨oc29, od29, .func (PySem.W.fnOf "_law_count" "_law_count" (defArgs s_law_count) (defBody s_law_count) (defScope s_law_count) .none kV29 dc29 pm29 an29 cd29 ct29), sl29⟩) (c29 : PySem.W.codeIn K cd29 "_law_count" = true) (k29 : PySem.W.keepIn K (.ref f29) = true)
    (a30 : PySem.W.nsIn K mainGlobals "_law_bounded_lots" = some (some (.ref f30))) (l30 : K.lookup f30 = some ⟨oc30, od30, .func (PySem.W.fnOf "_law_bounded_lots" "_law_bounded_lots" (defArgs s_law_bounded_lots) (defBody s_law_bounded_lots) (defScope s_law_bounded_lots) .none kV30 dc30 pm30 an30 cd30 ct30), sl30⟩) (c30 : PySem.W.codeIn K cd30 "_law_bounded_lots" = true) (k30 : PySem.W.keepIn K (.ref f30) = true)
    (a31 : PySem.W.nsIn K mainGlobals "_law_is_forest" = some (some (.ref f31))) (l31 : K.lookup f31 = some ⟨oc31, od31, .func (PySem.W.fnOf "_law_is_forest" "_law_is_forest" (defArgs s_law_is_forest) (defBody s_law_is_forest) (defScope s_law_is_forest) .none kV31 dc31 pm31 an31 cd31 ct31), sl31⟩) (c31 : PySem.W.codeIn K cd31 "_law_is_forest" = true) (k31 : PySem.W.keepIn K (.ref f31) = true)
    (a32 : PySem.W.nsIn K mainGlobals "_law_forest_lots" = some (some (.ref f32))) (l32 : K.lookup f32 = some ⟨oc32, od32, .func (PySem.W.fnOf "_law_forest_lots" "_law_forest_lots" (defArgs s_law_forest_lots) (defBody s_law_forest_lots) (defScope s_law_forest_lots) .none kV32 dc32 pm32 an32 cd32 ct32), sl32⟩) (c32 : PySem.W.codeIn K cd32 "_law_forest_lots" = true) (k32 : PySem.W.keepIn K (.ref f32) = true)
    (a33 : PySem.W.nsIn K mainGlobals "_law_rest_of" = some (some (.ref f33))) (l33 : K.lookup f33 = some ⟨oc33, od33, .func (PySem.W.fnOf "_law_rest_of" "_law_rest_of" (defArgs s_law_rest_of) (defBody s_law_rest_of) (defScope s_law_rest_of) .none kV33 dc33 pm33 an33 cd33 ct33), sl33⟩) (c33 : PySem.W.codeIn K cd33 "_law_rest_of" = true) (k33 : PySem.W.keepIn K (.ref f33) = true)
    (a34 : PySem.W.nsIn K mainGlobals "_law_smooth_lots" = some (some (.ref f34))) (l34 : K.lookup f34 = some ⟨oc34, od34, .func (PySem.W.fnOf "_law_smooth_lots" "_law_smooth_lots" (defArgs s_law_smooth_lots) (defBody s_law_smooth_lots) (defScope s_law_smooth_lots) .none kV34 dc34 pm34 an34 cd34 ct34), sl34⟩) (c34 : PySem.W.codeIn K cd34 "_law_smooth_lots" = true) (k34 : PySem.W.keepIn K (.ref f34) = true)
    (a35 : PySem.W.nsIn K mainGlobals "_law_within" = some (some (.ref f35))) (l35 : K.lookup f35 = some ⟨oc35, od35, .func (PySem.W.fnOf "_law_within" "_law_within" (defArgs s_law_within) (defBody s_law_within) (defScope s_law_within) .none kV35 dc35 pm35 an35 cd35 ct35), sl35⟩) (c35 : PySem.W.codeIn K cd35 "_law_within" = true) (k35 : PySem.W.keepIn K (.ref f35) = true)
    (a36 : PySem.W.nsIn K mainGlobals "_law_antichain" = some (some (.ref f36))) (l36 : K.lookup f36 = some ⟨oc36, od36, .func (PySem.W.fnOf "_law_antichain" "_law_antichain" (defArgs s_law_antichain) (defBody s_law_antichain) (defScope s_law_antichain) .none kV36 dc36 pm36 an36 cd36 ct36), sl36⟩) (c36 : PySem.W.codeIn K cd36 "_law_antichain" = true) (k36 : PySem.W.keepIn K (.ref f36) = true)
    (a37 : PySem.W.nsIn K mainGlobals "_law_any_lots" = some (some (.ref f37))) (l37 : K.lookup f37 = some ⟨oc37, od37, .func (PySem.W.fnOf "_law_any_lots" "_law_any_lots" (defArgs s_law_any_lots) (defBody s_law_any_lots) (defScope s_law_any_lots) .none kV37 dc37 pm37 an37 cd37 ct37), sl37⟩) (c37 : PySem.W.codeIn K cd37 "_law_any_lots" = true) (k37 : PySem.W.keepIn K (.ref f37) = true)
    (a38 : PySem.W.nsIn K mainGlobals "_law_lots" = some (some (.ref f38))) (l38 : K.lookup f38 = some ⟨oc38, od38, .func (PySem.W.fnOf "_law_lots" "_law_lots" (defArgs s_law_lots) (defBody s_law_lots) (defScope s_law_lots) .none kV38 dc38 pm38 an38 cd38 ct38), sl38⟩) (c38 : PySem.W.codeIn K cd38 "_law_lots" = true) (k38 : PySem.W.keepIn K (.ref f38) = true)
    (a39 : PySem.W.nsIn K mainGlobals "_law_game" = some (some (.ref f39))) (l39 : K.lookup f39 = some ⟨oc39, od39, .func (PySem.W.fnOf "_law_game" "_law_game" (defArgs s_law_game) (defBody s_law_game) (defScope s_law_game) .none kV39 dc39 pm39 an39 cd39 ct39), sl39⟩) (c39 : PySem.W.codeIn K cd39 "_law_game" = true) (k39 : PySem.W.keepIn K (.ref f39) = true)
    (a40 : PySem.W.nsIn K mainGlobals "_law_loads" = some (some (.ref f40))) (l40 : K.lookup f40 = some ⟨oc40, od40, .func (PySem.W.fnOf "_law_loads" "_law_loads" (defArgs s_law_loads) (defBody s_law_loads) (defScope s_law_loads) .none kV40 dc40 pm40 an40 cd40 ct40), sl40⟩) (c40 : PySem.W.codeIn K cd40 "_law_loads" = true) (k40 : PySem.W.keepIn K (.ref f40) = true)
    (a41 : PySem.W.nsIn K mainGlobals "_law_pay" = some (some (.ref f41))) (l41 : K.lookup f41 = some ⟨oc41, od41, .func (PySem.W.fnOf "_law_pay" "_law_pay" (defArgs s_law_pay) (defBody s_law_pay) (defScope s_law_pay) .none kV41 dc41 pm41 an41 cd41 ct41), sl41⟩) (c41 : PySem.W.codeIn K cd41 "_law_pay" = true) (k41 : PySem.W.keepIn K (.ref f41) = true)
    (a42 : PySem.W.nsIn K mainGlobals "_law_is_ring" = some (some (.ref f42))) (l42 : K.lookup f42 = some ⟨oc42, od42, .func (PySem.W.fnOf "_law_is_ring" "_law_is_ring" (defArgs s_law_is_ring) (defBody s_law_is_ring) (defScope s_law_is_ring) .none kV42 dc42 pm42 an42 cd42 ct42), sl42⟩) (c42 : PySem.W.codeIn K cd42 "_law_is_ring" = true) (k42 : PySem.W.keepIn K (.ref f42) = true)
    (a43 : PySem.W.nsIn K mainGlobals "_law_are_two" = some (some (.ref f43))) (l43 : K.lookup f43 = some ⟨oc43, od43, .func (PySem.W.fnOf "_law_are_two" "_law_are_two" (defArgs s_law_are_two) (defBody s_law_are_two) (defScope s_law_are_two) .none kV43 dc43 pm43 an43 cd43 ct43), sl43⟩) (c43 : PySem.W.codeIn K cd43 "_law_are_two" = true) (k43 : PySem.W.keepIn K (.ref f43) = true)
    (a44 : PySem.W.nsIn K mainGlobals "_law_is_integer" = some (some (.ref f44))) (l44 : K.lookup f44 = some ⟨oc44, od44, .func (PySem.W.fnOf "_law_is_integer" "_law_is_integer" (defArgs s_law_is_integer) (defBody s_law_is_integer) (defScope s_law_is_integer) .none kV44 dc44 pm44 an44 cd44 ct44), sl44⟩) (c44 : PySem.W.codeIn K cd44 "_law_is_integer" = true) (k44 : PySem.W.keepIn K (.ref f44) = true)
    (a45 : PySem.W.nsIn K mainGlobals "_law_is_set" = some (some (.ref f45))) (l45 : K.lookup f45 = some ⟨oc45, od45, .func (PySem.W.fnOf "_law_is_set" "_law_is_set" (defArgs s_law_is_set) (defBody s_law_is_set) (defScope s_law_is_set) .none kV45 dc45 pm45 an45 cd45 ct45), sl45⟩) (c45 : PySem.W.codeIn K cd45 "_law_is_set" = true) (k45 : PySem.W.keepIn K (.ref f45) = true)
    (a46 : PySem.W.nsIn K mainGlobals "_law_are_lots" = some (some (.ref f46))) (l46 : K.lookup f46 = some ⟨oc46, od46, .func (PySem.W.fnOf "_law_are_lots" "_law_are_lots" (defArgs s_law_are_lots) (defBody s_law_are_lots) (defScope s_law_are_lots) .none kV46 dc46 pm46 an46 cd46 ct46), sl46⟩) (c46 : PySem.W.codeIn K cd46 "_law_are_lots" = true) (k46 : PySem.W.keepIn K (.ref f46) = true)
    (a47 : PySem.W.nsIn K mainGlobals "_law_exchanged" = some (some (.ref f47))) (l47 : K.lookup f47 = some ⟨oc47, od47, .func (PySem.W.fnOf "_law_exchanged" "_law_exchanged" (defArgs s_law_exchanged) (defBody s_law_exchanged) (defScope s_law_exchanged) .none kV47 dc47 pm47 an47 cd47 ct47), sl47⟩) (c47 : PySem.W.codeIn K cd47 "_law_exchanged" = true) (k47 : PySem.W.keepIn K (.ref f47) = true)
    (a48 : PySem.W.nsIn K mainGlobals "_law_fault" = some (some (.ref f48))) (l48 : K.lookup f48 = some ⟨oc48, od48, .func (PySem.W.fnOf "_law_fault" "_law_fault" (defArgs s_law_fault) (defBody s_law_fault) (defScope s_law_fault) .none kV48 dc48 pm48 an48 cd48 ct48), sl48⟩) (c48 : PySem.W.codeIn K cd48 "_law_fault" = true) (k48 : PySem.W.keepIn K (.ref f48) = true)
    (a49 : PySem.W.nsIn K mainGlobals "_law_is_row" = some (some (.ref f49))) (l49 : K.lookup f49 = some ⟨oc49, od49, .func (PySem.W.fnOf "_law_is_row" "_law_is_row" (defArgs s_law_is_row) (defBody s_law_is_row) (defScope s_law_is_row) .none kV49 dc49 pm49 an49 cd49 ct49), sl49⟩) (c49 : PySem.W.codeIn K cd49 "_law_is_row" = true) (k49 : PySem.W.keepIn K (.ref f49) = true)
    (a50 : PySem.W.nsIn K mainGlobals "_law_is_smooth_taker" = some (some (.ref f50))) (l50 : K.lookup f50 = some ⟨oc50, od50, .func (PySem.W.fnOf "_law_is_smooth_taker" "_law_is_smooth_taker" (defArgs s_law_is_smooth_taker) (defBody s_law_is_smooth_taker) (defScope s_law_is_smooth_taker) .none kV50 dc50 pm50 an50 cd50 ct50), sl50⟩) (c50 : PySem.W.codeIn K cd50 "_law_is_smooth_taker" = true) (k50 : PySem.W.keepIn K (.ref f50) = true)
    (a51 : PySem.W.nsIn K mainGlobals "_law_is_round" = some (some (.ref f51))) (l51 : K.lookup f51 = some ⟨oc51, od51, .func (PySem.W.fnOf "_law_is_round" "_law_is_round" (defArgs s_law_is_round) (defBody s_law_is_round) (defScope s_law_is_round) .none kV51 dc51 pm51 an51 cd51 ct51), sl51⟩) (c51 : PySem.W.codeIn K cd51 "_law_is_round" = true) (k51 : PySem.W.keepIn K (.ref f51) = true)
    (a52 : PySem.W.nsIn K mainGlobals "_law_walk" = some (some (.ref f52))) (l52 : K.lookup f52 = some ⟨oc52, od52, .func (PySem.W.fnOf "_law_walk" "_law_walk" (defArgs s_law_walk) (defBody s_law_walk) (defScope s_law_walk) .none kV52 dc52 pm52 an52 cd52 ct52), sl52⟩) (c52 : PySem.W.codeIn K cd52 "_law_walk" = true) (k52 : PySem.W.keepIn K (.ref f52) = true)
    (a53 : PySem.W.nsIn K mainGlobals "law" = some (some (.ref f53))) (l53 : K.lookup f53 = some ⟨oc53, od53, .func (PySem.W.fnOf "law" "law" (defArgs s_law) (defBody s_law) (defScope s_law) .none kV53 dc53 pm53 an53 cd53 ct53), sl53⟩) (c53 : PySem.W.codeIn K cd53 "law" = true) (k53 : PySem.W.keepIn K (.ref f53) = true)
    (zt_combinations : PySem.W.nsIn K mainGlobals "combinations" = some (some (.type "itertools.combinations")))
    (z_len : PySem.W.nsIn K mainGlobals "len" = some none)
    (z_int : PySem.W.nsIn K mainGlobals "int" = some none)
    (z_bool : PySem.W.nsIn K mainGlobals "bool" = some none)
    (z_abs : PySem.W.nsIn K mainGlobals "abs" = some none)
    (z_tuple : PySem.W.nsIn K mainGlobals "tuple" = some none)
    (z_list : PySem.W.nsIn K mainGlobals "list" = some none)
    (z_sum : PySem.W.nsIn K mainGlobals "sum" = some none)
    (z_max : PySem.W.nsIn K mainGlobals "max" = some none)
    (z_min : PySem.W.nsIn K mainGlobals "min" = some none)
    (z_any : PySem.W.nsIn K mainGlobals "any" = some none)
    (z_all : PySem.W.nsIn K mainGlobals "all" = some none)
    (z_range : PySem.W.nsIn K mainGlobals "range" = some none)
    (z_isinstance : PySem.W.nsIn K mainGlobals "isinstance" = some none)
    (z_sorted : PySem.W.nsIn K mainGlobals "sorted" = some none)
    (z_enumerate : PySem.W.nsIn K mainGlobals "enumerate" = some none)
    (z_zip : PySem.W.nsIn K mainGlobals "zip" = some none)
    (z_set : PySem.W.nsIn K mainGlobals "set" = some none) :
    ∃ fd : FuncData, (∀ (s : Shared) (v : Value), BindsTo s fd ⟨[v], []⟩ [("script", v)]) ∧ ∀ base : Heap, K.In base → base.Ns mainGlobals mg → FnOk l.prog w K mg base (L2N.CX l.prog w) 8 fa fd ["script"] (spD K [] m_law_k85) := by
  have e := hfa.symm.trans (PySem.W.mg_of X G a53)
  cases e
  have B : Bi mg := ⟨PySem.W.mg_none_of X G z_len, PySem.W.mg_none_of X G z_int, PySem.W.mg_none_of X G z_bool, PySem.W.mg_none_of X G z_abs, PySem.W.mg_none_of X G z_tuple, PySem.W.mg_none_of X G z_list, PySem.W.mg_none_of X G z_sum, PySem.W.mg_none_of X G z_max, PySem.W.mg_none_of X G z_min, PySem.W.mg_none_of X G z_any, PySem.W.mg_none_of X G z_all, PySem.W.mg_none_of X G z_range, PySem.W.mg_none_of X G z_isinstance, PySem.W.mg_none_of X G z_sorted, PySem.W.mg_none_of X G z_enumerate, PySem.W.mg_none_of X G z_zip, PySem.W.mg_none_of X G z_set⟩
  have F1 := fun_mk (st := s_law_draws) l1 c1 k1
  have b1 := F1.binds (ps := ["cell", "count"]) fun _ _ _ _ _ _ us hl => match us, hl with | [_, _], _ => rfl
  have F2 := fun_mk (st := s_law_with) l2 c2 k2
  have b2 := F2.binds (ps := ["choice", "taker", "lot"]) fun _ _ _ _ _ _ us hl => match us, hl with | [_, _, _], _ => rfl
  have F3 := fun_mk (st := s_law_choice) l3 c3 k3
  have b3 := F3.binds (ps := ["cell", "game"]) fun _ _ _ _ _ _ us hl => match us, hl with | [_, _], _ => rfl
  have F4 := fun_mk (st := s_law_changed) l4 c4 k4
  have b4 := F4.binds (ps := ["game", "ring", "draws"]) fun _ _ _ _ _ _ us hl => match us, hl with | [_, _, _], _ => rfl
  have F5 := fun_mk (st := s_movers) l5 c5 k5
  have b5 := F5.binds (ps := ["choice", "reached"]) fun _ _ _ _ _ _ us hl => match us, hl with | [_, _], _ => rfl
  have F6 := fun_mk (st := s_price) l6 c6 k6
  have b6 := F6.binds (ps := ["things", "prices"]) fun _ _ _ _ _ _ us hl => match us, hl with | [_, _], _ => rfl
  have F7 := fun_mk (st := s_count_loads) l7 c7 k7
  have b7 := F7.binds (ps := ["size", "players", "choice"]) fun _ _ _ _ _ _ us hl => match us, hl with | [_, _, _], _ => rfl
  have F8 := fun_mk (st := s_cost_at) l8 c8 k8
  have b8 := F8.binds (ps := ["costs", "thing", "load"]) fun _ _ _ _ _ _ us hl => match us, hl with | [_, _, _], _ => rfl
  have F9 := fun_mk (st := s_prices_for) l9 c9 k9
  have b9 := F9.binds (ps := ["players", "choice", "taker"]) fun _ _ _ _ _ _ us hl => match us, hl with | [_, _, _], _ => rfl
  have F10 := fun_mk (st := s_players) l10 c10 k10
  have b10 := F10.binds (ps := ["game"]) fun _ _ _ _ _ _ us hl => match us, hl with | [_], _ => rfl
  have F11 := fun_mk (st := s_own_prices) l11 c11 k11
  have b11 := F11.binds (ps := ["game", "choice", "taker"]) fun _ _ _ _ _ _ us hl => match us, hl with | [_, _, _], _ => rfl
  have F12 := fun_mk (st := s_pay) l12 c12 k12
  have b12 := F12.binds (ps := ["game", "choice", "taker"]) fun _ _ _ _ _ _ us hl => match us, hl with | [_, _, _], _ => rfl
  have F13 := fun_mk (st := s_all_pay_less) l13 c13 k13
  have b13 := F13.binds (ps := ["game", "takers", "choice", "reached"]) fun _ _ _ _ _ _ us hl => match us, hl with | [_, _, _, _], _ => rfl
  have F14 := fun_mk (st := s_is_step) l14 c14 k14
  have b14 := F14.binds (ps := ["game", "choice", "reached"]) fun _ _ _ _ _ _ us hl => match us, hl with | [_, _, _], _ => rfl
  have F15 := fun_mk (st := s_is_ring) l15 c15 k15
  have b15 := F15.binds (ps := ["game", "ring"]) fun _ _ _ _ _ _ us hl => match us, hl with | [_, _], _ => rfl
  have F16 := fun_mk (st := s_make_game) l16 c16 k16
  have b16 := F16.binds (ps := ["takers"]) fun _ _ _ _ _ _ us hl => match us, hl with | [_], _ => rfl
  have F17 := fun_mk (st := s_subsets) l17 c17 k17
  have b17 := F17.binds (ps := ["things", "count"]) fun _ _ _ _ _ _ us hl => match us, hl with | [_, _], _ => rfl
  have F18 := fun_mk (st := s_choose) l18 c18 k18
  have b18 := F18.binds (ps := ["size", "count"]) fun _ _ _ _ _ _ us hl => match us, hl with | [_, _], _ => rfl
  have F19 := fun_mk (st := s_round_costs) l19 c19 k19
  have b19 := F19.binds (ps := ["taker"]) fun _ _ _ _ _ _ us hl => match us, hl with | [_], _ => rfl
  have F20 := fun_mk (st := s_round_choice) l20 c20 k20
  have b20 := F20.binds (ps := ["seconds"]) fun _ _ _ _ _ _ us hl => match us, hl with | [_], _ => rfl
  have F21 := fun_mk (st := s_round_game) l21 c21 k21
  have b21 := F21.binds (ps := []) fun _ _ _ _ _ _ us hl => match us, hl with | [], _ => rfl
  have F22 := fun_mk (st := s_law_cell) l22 c22 k22
  have b22 := F22.binds (ps := ["script", "k"]) fun _ _ _ _ _ _ us hl => match us, hl with | [_, _], _ => rfl
  have F23 := fun_mk (st := s_law_drawn_names) l23 c23 k23
  have b23 := F23.binds (ps := ["draws", "count", "wide"]) fun _ _ _ _ _ _ us hl => match us, hl with | [_, _, _], _ => rfl
  have F24 := fun_mk (st := s_law_named) l24 c24 k24
  have b24 := F24.binds (ps := ["lot", "names"]) fun _ _ _ _ _ _ us hl => match us, hl with | [_, _], _ => rfl
  have F25 := fun_mk (st := s_law_renamed) l25 c25 k25
  have b25 := F25.binds (ps := ["lots", "names"]) fun _ _ _ _ _ _ us hl => match us, hl with | [_, _], _ => rfl
  have F26 := fun_mk (st := s_law_own_round) l26 c26 k26
  have b26 := F26.binds (ps := ["draws"]) fun _ _ _ _ _ _ us hl => match us, hl with | [_], _ => rfl
  have F27 := fun_mk (st := s_law_costs) l27 c27 k27
  have b27 := F27.binds (ps := ["cell", "size", "room", "great"]) fun _ _ _ _ _ _ us hl => match us, hl with | [_, _, _, _], _ => rfl
  have F28 := fun_mk (st := s_law_parts_of) l28 c28 k28
  have b28 := F28.binds (ps := ["size"]) fun _ _ _ _ _ _ us hl => match us, hl with | [_], _ => rfl
  have F29 := fun_mk (st := s_law_count) l29 c29 k29
  have b29 := F29.binds (ps := ["row", "classes", "c"]) fun _ _ _ _ _ _ us hl => match us, hl with | [_, _, _], _ => rfl
  have F30 := fun_mk (st := s_law_bounded_lots) l30 c30 k30
  have b30 := F30.binds (ps := ["draws", "size"]) fun _ _ _ _ _ _ us hl => match us, hl with | [_, _], _ => rfl
  have F31 := fun_mk (st := s_law_is_forest) l31 c31 k31
  have b31 := F31.binds (ps := ["row", "roads", "points"]) fun _ _ _ _ _ _ us hl => match us, hl with | [_, _, _], _ => rfl
  have F32 := fun_mk (st := s_law_forest_lots) l32 c32 k32
  have b32 := F32.binds (ps := ["draws", "size"]) fun _ _ _ _ _ _ us hl => match us, hl with | [_, _], _ => rfl
  have F33 := fun_mk (st := s_law_rest_of) l33 c33 k33
  have b33 := F33.binds (ps := ["lot", "size"]) fun _ _ _ _ _ _ us hl => match us, hl with | [_, _], _ => rfl
  have F34 := fun_mk (st := s_law_smooth_lots) l34 c34 k34
  have b34 := F34.binds (ps := ["cell", "size"]) fun _ _ _ _ _ _ us hl => match us, hl with | [_, _], _ => rfl
  have F35 := fun_mk (st := s_law_within) l35 c35 k35
  have b35 := F35.binds (ps := ["inner", "outer"]) fun _ _ _ _ _ _ us hl => match us, hl with | [_, _], _ => rfl
  have F36 := fun_mk (st := s_law_antichain) l36 c36 k36
  have b36 := F36.binds (ps := ["rows"]) fun _ _ _ _ _ _ us hl => match us, hl with | [_], _ => rfl
  have F37 := fun_mk (st := s_law_any_lots) l37 c37 k37
  have b37 := F37.binds (ps := ["cell", "size"]) fun _ _ _ _ _ _ us hl => match us, hl with | [_, _], _ => rfl
  have F38 := fun_mk (st := s_law_lots) l38 c38 k38
  have b38 := F38.binds (ps := ["cell", "size"]) fun _ _ _ _ _ _ us hl => match us, hl with | [_, _], _ => rfl
  have F39 := fun_mk (st := s_law_game) l39 c39 k39
  have b39 := F39.binds (ps := ["script", "first", "smooth"]) fun _ _ _ _ _ _ us hl => match us, hl with | [_, _, _], _ => rfl
  have F40 := fun_mk (st := s_law_loads) l40 c40 k40
  have b40 := F40.binds (ps := ["choice", "size"]) fun _ _ _ _ _ _ us hl => match us, hl with | [_, _], _ => rfl
  have F41 := fun_mk (st := s_law_pay) l41 c41 k41
  have b41 := F41.binds (ps := ["game", "choice", "taker"]) fun _ _ _ _ _ _ us hl => match us, hl with | [_, _, _], _ => rfl
  have F42 := fun_mk (st := s_law_is_ring) l42 c42 k42
  have b42 := F42.binds (ps := ["game", "ring"]) fun _ _ _ _ _ _ us hl => match us, hl with | [_, _], _ => rfl
  have F43 := fun_mk (st := s_law_are_two) l43 c43 k43
  have b43 := F43.binds (ps := ["value"]) fun _ _ _ _ _ _ us hl => match us, hl with | [_], _ => rfl
  have F44 := fun_mk (st := s_law_is_integer) l44 c44 k44
  have b44 := F44.binds (ps := ["value"]) fun _ _ _ _ _ _ us hl => match us, hl with | [_], _ => rfl
  have F45 := fun_mk (st := s_law_is_set) l45 c45 k45
  have b45 := F45.binds (ps := ["value", "size"]) fun _ _ _ _ _ _ us hl => match us, hl with | [_, _], _ => rfl
  have F46 := fun_mk (st := s_law_are_lots) l46 c46 k46
  have b46 := F46.binds (ps := ["told", "game"]) fun _ _ _ _ _ _ us hl => match us, hl with | [_, _], _ => rfl
  have F47 := fun_mk (st := s_law_exchanged) l47 c47 k47
  have b47 := F47.binds (ps := ["lot", "out", "put"]) fun _ _ _ _ _ _ us hl => match us, hl with | [_, _, _], _ => rfl
  have F48 := fun_mk (st := s_law_fault) l48 c48 k48
  have b48 := F48.binds (ps := ["lots"]) fun _ _ _ _ _ _ us hl => match us, hl with | [_], _ => rfl
  have F49 := fun_mk (st := s_law_is_row) l49 c49 k49
  have b49 := F49.binds (ps := ["row", "least"]) fun _ _ _ _ _ _ us hl => match us, hl with | [_, _], _ => rfl
  have F50 := fun_mk (st := s_law_is_smooth_taker) l50 c50 k50
  have b50 := F50.binds (ps := ["taker", "size", "count"]) fun _ _ _ _ _ _ us hl => match us, hl with | [_, _, _], _ => rfl
  have F51 := fun_mk (st := s_law_is_round) l51 c51 k51
  have b51 := F51.binds (ps := ["told"]) fun _ _ _ _ _ _ us hl => match us, hl with | [_], _ => rfl
  have F52 := fun_mk (st := s_law_walk) l52 c52 k52
  have b52 := F52.binds (ps := ["cell", "game"]) fun _ _ _ _ _ _ us hl => match us, hl with | [_, _], _ => rfl
  have F53 := fun_mk (st := s_law) l53 c53 k53
  refine ⟨PySem.W.fnOf "law" "law" (defArgs s_law) (defBody s_law) (defScope s_law) .none kV53 dc53 pm53 an53 cd53 ct53, fun s v => .of_eq rfl, fun base _ _ => ?_⟩
  have D1 := ok_law_draws (P := l.prog) (w := w) (base := base) (Tb := []) F1 (PySem.W.mg_of X G a1) b1 B
  have D2 := ok_law_with (P := l.prog) (w := w) (base := base) (Tb := []) F2 (PySem.W.mg_of X G a2) b2 B
  have D3 := ok_law_choice (P := l.prog) (w := w) (base := base) (Tb := []) F3 D1 (PySem.W.mg_of X G a3) b3 B
  have D4 := ok_law_changed (P := l.prog) (w := w) (base := base) (Tb := []) F4 D2 D3 (PySem.W.mg_of X G a4) b4 B
  have D5 := ok_movers (P := l.prog) (w := w) (base := base) (Tb := []) F5 (PySem.W.mg_of X G a5) b5 B
  have D6 := ok_price (P := l.prog) (w := w) (base := base) (Tb := []) F6 (PySem.W.mg_of X G a6) b6 B
  have D7 := ok_count_loads (P := l.prog) (w := w) (base := base) (Tb := []) F7 (PySem.W.mg_of X G a7) b7 B
  have D8 := ok_cost_at (P := l.prog) (w := w) (base := base) (Tb := []) F8 (PySem.W.mg_of X G a8) b8 B
  have D9 := ok_prices_for (P := l.prog) (w := w) (base := base) (Tb := []) F9 D7 D8 (PySem.W.mg_of X G a9) b9 B
  have D10 := ok_players (P := l.prog) (w := w) (base := base) (Tb := []) F10 (PySem.W.mg_of X G a10) b10 B
  have D11 := ok_own_prices (P := l.prog) (w := w) (base := base) (Tb := []) F11 D9 D10 (PySem.W.mg_of X G a11) b11 B
  have D12 := ok_pay (P := l.prog) (w := w) (base := base) (Tb := []) F12 D6 D11 (PySem.W.mg_of X G a12) b12 B
  have D13 := ok_all_pay_less (P := l.prog) (w := w) (base := base) (Tb := []) F13 D12 (PySem.W.mg_of X G a13) b13 B
  have D14 := ok_is_step (P := l.prog) (w := w) (base := base) (Tb := []) F14 D5 D13 (PySem.W.mg_of X G a14) b14 B
  have D15 := ok_is_ring (P := l.prog) (w := w) (base := base) (Tb := []) F15 D14 (PySem.W.mg_of X G a15) b15 B
  have D16 := ok_make_game (P := l.prog) (w := w) (base := base) (Tb := []) F16 (PySem.W.mg_of X G a16) b16 B
  have D17 := ok_subsets (P := l.prog) (w := w) (base := base) (Tb := []) F17 (PySem.W.mg_of X G zt_combinations) (PySem.W.mg_of X G a17) b17 B
  have D18 := ok_choose (P := l.prog) (w := w) (base := base) (Tb := []) F18 D17 (PySem.W.mg_of X G a18) b18 B
  have D19 := ok_round_costs (P := l.prog) (w := w) (base := base) (Tb := []) F19 (PySem.W.mg_of X G a19) b19 B
  have D20 := ok_round_choice (P := l.prog) (w := w) (base := base) (Tb := []) F20 (PySem.W.mg_of X G a20) b20 B
  have D21 := ok_round_game (P := l.prog) (w := w) (base := base) (Tb := []) F21 D16 D18 D19 D20 (PySem.W.mg_of X G a21) b21 B
  have D22 := ok_law_cell (P := l.prog) (w := w) (base := base) (Tb := []) F22 (PySem.W.mg_of X G a22) b22 B
  have D23 := ok_law_drawn_names (P := l.prog) (w := w) (base := base) (Tb := []) F23 (PySem.W.mg_of X G a23) b23 B
  have D24 := ok_law_named (P := l.prog) (w := w) (base := base) (Tb := []) F24 (PySem.W.mg_of X G a24) b24 B
  have D25 := ok_law_renamed (P := l.prog) (w := w) (base := base) (Tb := []) F25 D24 (PySem.W.mg_of X G a25) b25 B
  have D26 := ok_law_own_round (P := l.prog) (w := w) (base := base) (Tb := []) F26 D23 D25 (PySem.W.mg_of X G a26) b26 B
  have D27 := ok_law_costs (P := l.prog) (w := w) (base := base) (Tb := []) F27 D1 (PySem.W.mg_of X G a27) b27 B
  have D28 := ok_law_parts_of (P := l.prog) (w := w) (base := base) (Tb := []) F28 (PySem.W.mg_of X G a28) b28 B
  have D29 := ok_law_count (P := l.prog) (w := w) (base := base) (Tb := []) F29 (PySem.W.mg_of X G a29) b29 B
  have D30 := ok_law_bounded_lots (P := l.prog) (w := w) (base := base) (Tb := []) F30 D28 D29 (PySem.W.mg_of X G a30) b30 B
  have D31 := ok_law_is_forest (P := l.prog) (w := w) (base := base) (Tb := []) F31 (PySem.W.mg_of X G a31) b31 B
  have D32 := ok_law_forest_lots (P := l.prog) (w := w) (base := base) (Tb := []) F32 D28 D31 (PySem.W.mg_of X G a32) b32 B
  have D33 := ok_law_rest_of (P := l.prog) (w := w) (base := base) (Tb := []) F33 (PySem.W.mg_of X G a33) b33 B
  have D34 := ok_law_smooth_lots (P := l.prog) (w := w) (base := base) (Tb := []) F34 D1 D30 D32 D33 (PySem.W.mg_of X G a34) b34 B
  have D35 := ok_law_within (P := l.prog) (w := w) (base := base) (Tb := []) F35 (PySem.W.mg_of X G a35) b35 B
  have D36 := ok_law_antichain (P := l.prog) (w := w) (base := base) (Tb := []) F36 D35 (PySem.W.mg_of X G a36) b36 B
  have D37 := ok_law_any_lots (P := l.prog) (w := w) (base := base) (Tb := []) F37 D1 D28 D36 (PySem.W.mg_of X G a37) b37 B
  have D38 := ok_law_lots (P := l.prog) (w := w) (base := base) (Tb := []) F38 D1 D37 D34 (PySem.W.mg_of X G a38) b38 B
  have D39 := ok_law_game (P := l.prog) (w := w) (base := base) (Tb := []) F39 D1 D22 D27 D34 D38 (PySem.W.mg_of X G a39) b39 B
  have D40 := ok_law_loads (P := l.prog) (w := w) (base := base) (Tb := []) F40 (PySem.W.mg_of X G a40) b40 B
  have D41 := ok_law_pay (P := l.prog) (w := w) (base := base) (Tb := []) F41 D40 (PySem.W.mg_of X G a41) b41 B
  have D42 := ok_law_is_ring (P := l.prog) (w := w) (base := base) (Tb := []) F42 D41 (PySem.W.mg_of X G a42) b42 B
  have D43 := ok_law_are_two (P := l.prog) (w := w) (base := base) (Tb := []) F43 (PySem.W.mg_of X G a43) b43 B
  have D44 := ok_law_is_integer (P := l.prog) (w := w) (base := base) (Tb := []) F44 (PySem.W.mg_of X G a44) b44 B
  have D45 := ok_law_is_set (P := l.prog) (w := w) (base := base) (Tb := []) F45 D44 (PySem.W.mg_of X G a45) b45 B
  have D46 := ok_law_are_lots (P := l.prog) (w := w) (base := base) (Tb := []) F46 D45 (PySem.W.mg_of X G a46) b46 B
  have D47 := ok_law_exchanged (P := l.prog) (w := w) (base := base) (Tb := []) F47 (PySem.W.mg_of X G a47) b47 B
  have D48 := ok_law_fault (P := l.prog) (w := w) (base := base) (Tb := []) F48 D47 (PySem.W.mg_of X G a48) b48 B
  have D49 := ok_law_is_row (P := l.prog) (w := w) (base := base) (Tb := []) F49 D44 (PySem.W.mg_of X G a49) b49 B
  have D50 := ok_law_is_smooth_taker (P := l.prog) (w := w) (base := base) (Tb := []) F50 D43 D44 D36 D48 D45 D49 (PySem.W.mg_of X G a50) b50 B
  have D51 := ok_law_is_round (P := l.prog) (w := w) (base := base) (Tb := []) F51 D42 D43 D44 D46 D50 (PySem.W.mg_of X G a51) b51 B
  have D52 := ok_law_walk (P := l.prog) (w := w) (base := base) (Tb := []) F52 D1 D3 D2 (PySem.W.mg_of X G a52) b52 B
  exact okF_law F53 D1 D4 D15 D21 D22 D26 D39 D51 D52 D42 B
end LW
open PySem PySem.W PyProof.Rows
set_option maxHeartbeats 0 in
theorem PySem.Challenge.cw_takersrest_k85_round_game_and_rings_holds : PySem.Challenge.rw_takersrest_k85_round_game_and_rings.Holds := by
  w_on; o_law; k_head; (case hw => w_witness2)
  k_fill
  refine L2.walk_of (l := PySem.Challenge.rw_takersrest_k85_round_game_and_rings) (n := 63) (k := 8) (x := "script") (CX := fun w => L2N.CX PySem.Challenge.rw_takersrest_k85_round_game_and_rings.prog w) (sp := fun w => PD.spD _ [] LW.m_law_k85) rfl (by decide) rfl ⟨rfl, by decide, by decide⟩ (fun w h Y => by first | exact PySem.W.kIn_of Y | exact PySem.W.km_in_of Y) ?F (fun _ _ a ns hl hH hS => PD.spD_law0 LW.main_k85 hl hS) PD.cx_no
  case F =>
    intro w mg fa h KX G hmg
    refine' LW.all_mk KX G hmg ?a1 ?l1 ?c1 ?k1 ?a2 ?l2 ?c2 ?k2 ?a3 ?l3 ?c3 ?k3 ?a4 ?l4 ?c4 ?k4 ?a5 ?l5 ?c5 ?k5 ?a6 ?l6 ?c6 ?k6 ?a7 ?l7 ?c7 ?k7 ?a8 ?l8 ?c8 ?k8 ?a9 ?l9 ?c9 ?k9 ?a10 ?l10 ?c10 ?k10 ?a11 ?l11 ?c11 ?k11 ?a12 ?l12 ?c12 ?k12 ?a13 ?l13 ?c13 ?k13 ?a14 ?l14 ?c14 ?k14 ?a15 ?l15 ?c15 ?k15 ?a16 ?l16 ?c16 ?k16 ?a17 ?l17 ?c17 ?k17 ?a18 ?l18 ?c18 ?k18 ?a19 ?l19 ?c19 ?k19 ?a20 ?l20 ?c20 ?k20 ?a21 ?l21 ?c21 ?k21 ?a22 ?l22 ?c22 ?k22 ?a23 ?l23 ?c23 ?k23 ?a24 ?l24 ?c24 ?k24 ?a25 ?l25 ?c25 ?k25 ?a26 ?l26 ?c26 ?k26 ?a27 ?l27 ?c27 ?k27 ?a28 ?l28 ?c28 ?k28 ?a29 ?l29 ?c29 ?k29 ?a30 ?l30 ?c30 ?k30 ?a31 ?l31 ?c31 ?k31 ?a32 ?l32 ?c32 ?k32 ?a33 ?l33 ?c33 ?k33 ?a34 ?l34 ?c34 ?k34 ?a35 ?l35 ?c35 ?k35 ?a36 ?l36 ?c36 ?k36 ?a37 ?l37 ?c37 ?k37 ?a38 ?l38 ?c38 ?k38 ?a39 ?l39 ?c39 ?k39 ?a40 ?l40 ?c40 ?k40 ?a41 ?l41 ?c41 ?k41 ?a42 ?l42 ?c42 ?k42 ?a43 ?l43 ?c43 ?k43 ?a44 ?l44 ?c44 ?k44 ?a45 ?l45 ?c45 ?k45 ?a46 ?l46 ?c46 ?k46 ?a47 ?l47 ?c47 ?k47 ?a48 ?l48 ?c48 ?k48 ?a49 ?l49 ?c49 ?k49 ?a50 ?l50 ?c50 ?k50 ?a51 ?l51 ?c51 ?k51 ?a52 ?l52 ?c52 ?k52 ?a53 ?l53 ?c53 ?k53 ?zt_combinations ?z_len ?z_int ?z_bool ?z_abs ?z_tuple ?z_list ?z_sum ?z_max ?z_min ?z_any ?z_all ?z_range ?z_isinstance ?z_sorted ?z_enumerate ?z_zip ?z_set
    (case a1 => k_is); (case l1 => k_is); (case c1 => k_is); (case k1 => k_is); (case a2 => k_is); (case l2 => k_is); (case c2 => k_is); (case k2 => k_is); (case a3 => k_is); (case l3 => k_is); (case c3 => k_is); (case k3 => k_is); (case a4 => k_is); (case l4 => k_is); (case c4 => k_is); (case k4 => k_is); (case a5 => k_is); (case l5 => k_is); (case c5 => k_is); (case k5 => k_is); (case a6 => k_is); (case l6 => k_is); (case c6 => k_is); (case k6 => k_is); (case a7 => k_is); (case l7 => k_is); (case c7 => k_is); (case k7 => k_is); (case a8 => k_is); (case l8 => k_is); (case c8 => k_is); (case k8 => k_is); (case a9 => k_is); (case l9 => k_is); (case c9 => k_is); (case k9 => k_is); (case a10 => k_is); (case l10 => k_is); (case c10 => k_is); (case k10 => k_is); (case a11 => k_is); (case l11 => k_is); (case c11 => k_is); (case k11 => k_is); (case a12 => k_is); (case l12 => k_is); (case c12 => k_is); (case k12 => k_is); (case a13 => k_is); (case l13 => k_is); (case c13 => k_is); (case k13 => k_is); (case a14 => k_is); (case l14 => k_is); (case c14 => k_is); (case k14 => k_is); (case a15 => k_is); (case l15 => k_is); (case c15 => k_is); (case k15 => k_is); (case a16 => k_is); (case l16 => k_is); (case c16 => k_is); (case k16 => k_is); (case a17 => k_is); (case l17 => k_is); (case c17 => k_is); (case k17 => k_is); (case a18 => k_is); (case l18 => k_is); (case c18 => k_is); (case k18 => k_is); (case a19 => k_is); (case l19 => k_is); (case c19 => k_is); (case k19 => k_is); (case a20 => k_is); (case l20 => k_is); (case c20 => k_is); (case k20 => k_is); (case a21 => k_is); (case l21 => k_is); (case c21 => k_is); (case k21 => k_is); (case a22 => k_is); (case l22 => k_is); (case c22 => k_is); (case k22 => k_is); (case a23 => k_is); (case l23 => k_is); (case c23 => k_is); (case k23 => k_is); (case a24 => k_is); (case l24 => k_is); (case c24 => k_is); (case k24 => k_is); (case a25 => k_is); (case l25 => k_is); (case c25 => k_is); (case k25 => k_is); (case a26 => k_is); (case l26 => k_is); (case c26 => k_is); (case k26 => k_is); (case a27 => k_is); (case l27 => k_is); (case c27 => k_is); (case k27 => k_is); (case a28 => k_is); (case l28 => k_is); (case c28 => k_is); (case k28 => k_is); (case a29 => k_is); (case l29 => k_is); (case c29 => k_is); (case k29 => k_is); (case a30 => k_is); (case l30 => k_is); (case c30 => k_is); (case k30 => k_is); (case a31 => k_is); (case l31 => k_is); (case c31 => k_is); (case k31 => k_is); (case a32 => k_is); (case l32 => k_is); (case c32 => k_is); (case k32 => k_is); (case a33 => k_is); (case l33 => k_is); (case c33 => k_is); (case k33 => k_is); (case a34 => k_is); (case l34 => k_is); (case c34 => k_is); (case k34 => k_is); (case a35 => k_is); (case l35 => k_is); (case c35 => k_is); (case k35 => k_is); (case a36 => k_is); (case l36 => k_is); (case c36 => k_is); (case k36 => k_is); (case a37 => k_is); (case l37 => k_is); (case c37 => k_is); (case k37 => k_is); (case a38 => k_is); (case l38 => k_is); (case c38 => k_is); (case k38 => k_is); (case a39 => k_is); (case l39 => k_is); (case c39 => k_is); (case k39 => k_is); (case a40 => k_is); (case l40 => k_is); (case c40 => k_is); (case k40 => k_is); (case a41 => k_is); (case l41 => k_is); (case c41 => k_is); (case k41 => k_is); (case a42 => k_is); (case l42 => k_is); (case c42 => k_is); (case k42 => k_is); (case a43 => k_is); (case l43 => k_is); (case c43 => k_is); (case k43 => k_is); (case a44 => k_is); (case l44 => k_is); (case c44 => k_is); (case k44 => k_is); (case a45 => k_is); (case l45 => k_is); (case c45 => k_is); (case k45 => k_is); (case a46 => k_is); (case l46 => k_is); (case c46 => k_is); (case k46 => k_is); (case a47 => k_is); (case l47 => k_is); (case c47 => k_is); (case k47 => k_is); (case a48 => k_is); (case l48 => k_is); (case c48 => k_is); (case k48 => k_is); (case a49 => k_is); (case l49 => k_is); (case c49 => k_is); (case k49 => k_is); (case a50 => k_is); (case l50 => k_is); (case c50 => k_is); (case k50 => k_is); (case a51 => k_is); (case l51 => k_is); (case c51 => k_is); (case k51 => k_is); (case a52 => k_is); (case l52 => k_is); (case c52 => k_is); (case k52 => k_is); (case a53 => k_is); (case l53 => k_is); (case c53 => k_is); (case k53 => k_is); (case zt_combinations => k_is); (case z_len => k_is); (case z_int => k_is); (case z_bool => k_is); (case z_abs => k_is); (case z_tuple => k_is); (case z_list => k_is); (case z_sum => k_is); (case z_max => k_is); (case z_min => k_is); (case z_any => k_is); (case z_all => k_is); (case z_range => k_is); (case z_isinstance => k_is); (case z_sorted => k_is); (case z_enumerate => k_is); (case z_zip => k_is); (case z_set => k_is)

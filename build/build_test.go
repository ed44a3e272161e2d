package build_test

import (
	"testing"

	"cocoon/api"
	"cocoon/build"
	"cocoon/mir"
)

// TestExamples holds those of the document.
func TestExamples(t *testing.T) {
	s := source(t, "co f(x: int) { return x; }")
	want := api.Body{
		Name:   "f",
		Params: 1,
		Locals: []api.Local{{Name: "x", Ty: api.Ty{K: api.TyInt}}, {Ty: api.Ty{K: api.TyInt}}},
		Blocks: []api.Block{{
			Ins: []api.In{
				{K: api.InSet, At: 15, S: api.Spot{Local: 1}, V: api.Value{Uses: []api.Use{{}}}},
				{K: api.InDead, At: 15},
			},
			End: api.Tm{K: api.TmReturn, At: 15, U: api.Use{S: api.Spot{Local: 1}}},
		}},
	}
	if got := build.Body(s, 0); !alike(got, want) {
		t.Errorf("%+v\nwant %+v", got, want)
	}
	if got := mir.Text(build.Body(s, 0)); got != "f 1\n\t0 x int\n\t1  int\nblock 0\n\tset 1 = 0 0 0 copy 0\n\tdead 0\n\treturn copy 1\n" {
		t.Error(got)
	}
	if got := build.Bodies(s); len(got) != 1 || !alike(got[0], want) {
		t.Errorf("%+v\nwant %+v", got, want)
	}
}

// TestLocals: parameters, then each let and each arm's name in the order of the text, then the result; their types are resolved.
func TestLocals(t *testing.T) {
	isBuilt(t, "no name", `
co f() {
	return 3;
}
`, `
f 0
	0  int
block 0
	set 0 = 0 0 0 #3 @2
	return copy 0 @2
`)
	isBuilt(t, "parameters, left the last one first", `
co f(a: int, b: box E, c: S, d: P, e: F, h: co h) {
	return a;
}
`, `
f 6
	0 a int
	1 b box E
	2 c S
	3 d P
	4 e F
	5 h co h
	6  int
block 0
	set 6 = 0 0 0 copy 0 @2
	end 5 @2
	dead 5 @2
	dead 4 @2
	dead 3 @2
	end 2 @2
	dead 2 @2
	end 1 @2
	dead 1 @2
	dead 0 @2
	return copy 6 @2
`)
	isBuilt(t, "names at all depths", `
co f(e: E, p: P) {
	if 1 {
		let b: int = 1;
	} else {
		let a: &P = &p;
	}
	let z: int = 3;
	match e {
		A => {}
		B(n) => {
			let m: int = n;
		}
		C(c) => {}
		X(x) => {}
		Y(y) => {}
		Z(d) => {}
	}
	let q: F = F::G;
	return z;
}
`, `
f 2
	0 e E
	1 p P
	2 b int
	3 a &P
	4 z int
	5 n int
	6 m int
	7 c P
	8 x box E
	9 y F
	10 d D
	11 q F
	12  int
block 0
	if #1 1 2 @2
block 1
	live 2 @3
	set 2 = 0 0 0 #1 @3
	dead 2 @2
	goto 3 @2
block 2
	live 3 @5
	set 3 = 6 0 0 1 @5
	dead 3 @2
	goto 3 @2
block 3
	live 4 @7
	set 4 = 0 0 0 #3 @7
	match 0 4 5 6 7 8 9 @8
block 4
	open 0 0 -1 @8
	goto 10 @8
block 5
	live 5 @8
	open 0 1 5 @8
	live 6 @11
	set 6 = 0 0 0 copy 5 @11
	dead 6 @8
	dead 5 @8
	goto 10 @8
block 6
	live 7 @8
	open 0 2 7 @8
	dead 7 @8
	goto 10 @8
block 7
	live 8 @8
	open 0 3 8 @8
	end 8 @8
	dead 8 @8
	goto 10 @8
block 8
	live 9 @8
	open 0 4 9 @8
	dead 9 @8
	goto 10 @8
block 9
	live 10 @8
	open 0 5 10 @8
	end 10 @8
	dead 10 @8
	goto 10 @8
block 10
	live 11 @18
	set 11 = 11 1 0 @18
	set 12 = 0 0 0 copy 4 @19
	dead 11 @19
	dead 4 @19
	dead 1 @19
	end 0 @19
	dead 0 @19
	return copy 12 @19
`)
	s := source(t, "co f(e: E, b: box E) { let r: & box E = &b; match e { A => {} B(n) => {} C(p) => {} X(x) => {} Y(y) => {} Z(z) => {} } return 0; }"+decls)
	e := api.Ty{K: api.TyEnum, Name: "E"}
	of := func(k api.TyKind, t api.Ty) api.Ty { return api.Ty{K: k, L: []api.Ty{t}} }
	for i, want := range []api.Local{
		{Name: "e", Ty: e}, {Name: "b", Ty: of(api.TyBox, e)}, {Name: "r", Ty: of(api.TyRef, of(api.TyBox, e))},
		{Name: "n", Ty: api.Ty{K: api.TyInt}}, {Name: "p", Ty: api.Ty{K: api.TyStruct, Name: "P"}}, {Name: "x", Ty: of(api.TyBox, e)},
		{Name: "y", Ty: api.Ty{K: api.TyEnum, Name: "F"}}, {Name: "z", Ty: api.Ty{K: api.TyStruct, Name: "D"}}, {Ty: api.Ty{K: api.TyInt}},
	} {
		if got := build.Body(s, 0).Locals[i]; !alike(got, want) {
			t.Errorf("%+v, want %+v", got, want)
		}
	}
}

// TestValues: each kind of what is set, with its operands, its place, and the places of its names.
func TestValues(t *testing.T) {
	isBuilt(t, "numbers, places, what is moved", `
co f(x: int, p: P, s: S, b: box int) {
	let a: int = -7;
	a = x;
	p.y = a;
	a = s.p.y;
	a = s.b.*.b.*.p.x;
	s.b.*.i.* = b.*;
	let q: P = p;
	let r: &S = &s;
	let r2: &S = r;
	a = r2.*.b.*.n;
	let m: &mut int = &mut s.d.n;
	let m2: &mut int = m;
	m2.* = 9223372036854775807;
	let t: S = s;
	p = q;
	return r.*.p.y;
}
`, `
f 4
	0 x int
	1 p P
	2 s S
	3 b box int
	4 a int
	5 q P
	6 r &S
	7 r2 &S
	8 m &mut int
	9 m2 &mut int
	10 t S
	11  int
block 0
	live 4 @2
	set 4 = 0 0 0 #-7 @2
	set 4 = 0 0 0 copy 0 @3
	set 1.1 = 0 0 0 copy 4 @4
	set 4 = 0 0 0 copy 2.1.1 @5
	set 4 = 0 0 0 copy 2.4.-1.4.-1.1.0 @6
	set 2.4.-1.5.-1 = 0 0 0 copy 3.-1 @7
	live 5 @8
	set 5 = 0 0 0 move 1 @8
	live 6 @9
	set 6 = 6 0 0 2 @9
	live 7 @10
	set 7 = 0 0 0 copy 6 @10
	set 4 = 0 0 0 copy 7.-1.4.-1.0 @11
	live 8 @12
	set 8 = 7 0 0 2.2.0 @12
	live 9 @13
	set 9 = 0 0 0 move 8 @13
	set 9.-1 = 0 0 0 #9223372036854775807 @14
	live 10 @15
	set 10 = 0 0 0 move 2 @15
	set 1 = 0 0 0 move 5 @16
	set 11 = 0 0 0 copy 6.-1.1.1 @17
	end 10 @17
	dead 10 @17
	dead 9 @17
	dead 8 @17
	dead 7 @17
	dead 6 @17
	dead 5 @17
	dead 4 @17
	end 3 @17
	dead 3 @17
	end 2 @17
	dead 2 @17
	dead 1 @17
	dead 0 @17
	return copy 11 @17
`)
	isBuilt(t, "what is reckoned, lent, boxed, made and started", `
co f(x: int, d: D, e: E) {
	x = x + 1;
	x = 2 - x;
	x = x * x;
	x = -1 < x;
	x = x == 0;
	let o: None = None();
	let p: P = P(x, -3);
	let b: box P = box p;
	let r: &P = &b.*;
	let m: &mut int = &mut b.*.y;
	p = unbox b;
	let i: box int = box p.x;
	let bb: box box int = box i;
	i = unbox bb;
	let g: co g = start g();
	let h: co h = start h(i.*, d, e);
	let again: co f = start f(1, d, e);
	e = E::A;
	e = E::B(x);
	e = E::C(p);
	let k: F = F::G;
	e = E::Y(k);
	d = D(r.*.x);
	e = E::Z(d);
	return 0;
}
`, `
f 3
	0 x int
	1 d D
	2 e E
	3 o None
	4 p P
	5 b box P
	6 r &P
	7 m &mut int
	8 i box int
	9 bb box box int
	10 g co g
	11 h co h
	12 again co f
	13 k F
	14  int
block 0
	set 0 = 1 0 0 copy 0 #1 @2
	set 0 = 2 0 0 #2 copy 0 @3
	set 0 = 3 0 0 copy 0 copy 0 @4
	set 0 = 4 0 0 #-1 copy 0 @5
	set 0 = 5 0 0 copy 0 #0 @6
	live 3 @7
	set 3 = 10 3 0 @7
	live 4 @8
	set 4 = 10 0 0 copy 0 #-3 @8
	live 5 @9
	set 5 = 8 0 0 move 4 @9
	live 6 @10
	set 6 = 6 0 0 5.-1 @10
	live 7 @11
	set 7 = 7 0 0 5.-1.1 @11
	set 4 = 9 0 0 5 @12
	live 8 @13
	set 8 = 8 0 0 copy 4.0 @13
	live 9 @14
	set 9 = 8 0 0 move 8 @14
	set 8 = 9 0 0 9 @15
	live 10 @16
	set 10 = 12 1 0 @16
	live 11 @17
	set 11 = 12 2 0 copy 8.-1 move 1 move 2 @17
	live 12 @18
	set 12 = 12 0 0 #1 move 1 move 2 @18
	set 2 = 11 0 0 @19
	set 2 = 11 0 1 copy 0 @20
	set 2 = 11 0 2 move 4 @21
	live 13 @22
	set 13 = 11 1 0 @22
	set 2 = 11 0 4 move 13 @23
	set 1 = 10 1 0 copy 6.-1.0 @24
	set 2 = 11 0 5 move 1 @25
	set 14 = 0 0 0 #0 @26
	dead 13 @26
	end 12 @26
	dead 12 @26
	end 11 @26
	dead 11 @26
	end 10 @26
	dead 10 @26
	end 9 @26
	dead 9 @26
	end 8 @26
	dead 8 @26
	dead 7 @26
	dead 6 @26
	end 5 @26
	dead 5 @26
	dead 4 @26
	dead 3 @26
	end 2 @26
	dead 2 @26
	end 1 @26
	dead 1 @26
	dead 0 @26
	return copy 14 @26
`)
	isBuilt(t, "what is waited for, in a let and in a set, also of a place with steps", `
co f(c: co h, g: co g, s: S) {
	let a: int = await c;
	let b: int = poll g;
	let d: int = wait a;
	a = await g;
	s.p.y = poll c;
	s.b.*.n = wait s.n;
	let m: &mut int = &mut a;
	m.* = wait -1;
	a = poll c;
	return b;
}
`, `
f 3
	0 c co h
	1 g co g
	2 s S
	3 a int
	4 b int
	5 d int
	6 m &mut int
	7  int
block 0
	live 3 @2
	await 3 0 1 @2
block 1
	live 4 @3
	poll 4 1 2 @3
block 2
	live 5 @4
	wait 5 copy 3 3 @4
block 3
	await 3 1 4 @5
block 4
	poll 2.1.1 0 5 @6
block 5
	wait 2.4.-1.0 copy 2.0 6 @7
block 6
	live 6 @8
	set 6 = 7 0 0 3 @8
	wait 6.-1 #-1 7 @9
block 7
	poll 3 0 8 @10
block 8
	set 7 = 0 0 0 copy 4 @11
	dead 6 @11
	dead 5 @11
	dead 4 @11
	dead 3 @11
	end 2 @11
	dead 2 @11
	end 1 @11
	dead 1 @11
	end 0 @11
	dead 0 @11
	return copy 7 @11
`)
}

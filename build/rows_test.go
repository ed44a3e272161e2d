package build_test

import "testing"

// TestIf: rows that end and rows that don't, in all four ways.
func TestIf(t *testing.T) {
	isBuilt(t, "neither row ends", `
co f(x: int) {
	if x {
		print 1;
	} else {
		print 2;
	}
	return 3;
}
`, `
f 1
	0 x int
	1  int
block 0
	if copy 0 1 2 @2
block 1
	print #1 @3
	goto 3 @2
block 2
	print #2 @5
	goto 3 @2
block 3
	set 1 = 0 0 0 #3 @7
	dead 0 @7
	return copy 1 @7
`)
	isBuilt(t, "the first row ends, the other one is not there", `
co f(x: int) {
	if x {
		return 1;
	}
	return 3;
}
`, `
f 1
	0 x int
	1  int
block 0
	if copy 0 1 2 @2
block 1
	set 1 = 0 0 0 #1 @3
	dead 0 @3
	return copy 1 @3
block 2
	goto 3 @2
block 3
	set 1 = 0 0 0 #3 @5
	dead 0 @5
	return copy 1 @5
`)
	isBuilt(t, "the other row ends, the first one is empty", `
co f(x: int) {
	if x {
	} else {
		return 2;
	}
	return 3;
}
`, `
f 1
	0 x int
	1  int
block 0
	if copy 0 1 2 @2
block 1
	goto 3 @2
block 2
	set 1 = 0 0 0 #2 @4
	dead 0 @4
	return copy 1 @4
block 3
	set 1 = 0 0 0 #3 @6
	dead 0 @6
	return copy 1 @6
`)
	isBuilt(t, "both rows end", `
co f(x: int) {
	if x {
		return 1;
	} else {
		return 2;
	}
}
`, `
f 1
	0 x int
	1  int
block 0
	if copy 0 1 2 @2
block 1
	set 1 = 0 0 0 #1 @3
	dead 0 @3
	return copy 1 @3
block 2
	set 1 = 0 0 0 #2 @5
	dead 0 @5
	return copy 1 @5
`)
}

// TestIfNested: a row goes on in the block in which an inner one ended; what it made is left there, at the statement that it stands in.
func TestIfNested(t *testing.T) {
	isBuilt(t, "rows in rows, with locals", `
co f(x: int) {
	let a: D = D(1);
	if x {
		let b: D = D(2);
		if 1 {
			let c: D = D(3);
			yield 4;
		} else {
			return 5;
		}
		let e: D = D(6);
	} else {
		let g: int = 7;
		if 8 {
			return g;
		} else {
			return x;
		}
	}
	return a.n;
}
`, `
f 1
	0 x int
	1 a D
	2 b D
	3 c D
	4 e D
	5 g int
	6  int
block 0
	live 1 @2
	set 1 = 10 1 0 #1 @2
	if copy 0 1 2 @3
block 1
	live 2 @4
	set 2 = 10 1 0 #2 @4
	if #1 3 4 @5
block 2
	live 5 @13
	set 5 = 0 0 0 #7 @13
	if #8 7 8 @14
block 3
	live 3 @6
	set 3 = 10 1 0 #3 @6
	yield #4 5 @7
block 4
	set 6 = 0 0 0 #5 @9
	end 2 @9
	dead 2 @9
	end 1 @9
	dead 1 @9
	dead 0 @9
	return copy 6 @9
block 5
	end 3 @5
	dead 3 @5
	goto 6 @5
block 6
	live 4 @11
	set 4 = 10 1 0 #6 @11
	end 4 @3
	dead 4 @3
	end 2 @3
	dead 2 @3
	goto 9 @3
block 7
	set 6 = 0 0 0 copy 5 @15
	dead 5 @15
	end 1 @15
	dead 1 @15
	dead 0 @15
	return copy 6 @15
block 8
	set 6 = 0 0 0 copy 0 @17
	dead 5 @17
	end 1 @17
	dead 1 @17
	dead 0 @17
	return copy 6 @17
block 9
	set 6 = 0 0 0 copy 1.0 @20
	end 1 @20
	dead 1 @20
	dead 0 @20
	return copy 6 @20
`)
}

// TestWhile: rows that go back to the head, and such as end.
func TestWhile(t *testing.T) {
	isBuilt(t, "a row that goes back", `
co f(x: int) {
	let d: D = D(1);
	while x {
		let b: box int = box x;
		x = x - 1;
	}
	return x;
}
`, `
f 1
	0 x int
	1 d D
	2 b box int
	3  int
block 0
	live 1 @2
	set 1 = 10 1 0 #1 @2
	goto 1 @3
block 1
	if copy 0 2 3 @3
block 2
	live 2 @4
	set 2 = 8 0 0 copy 0 @4
	set 0 = 2 0 0 copy 0 #1 @5
	end 2 @3
	dead 2 @3
	goto 1 @3
block 3
	set 3 = 0 0 0 copy 0 @7
	end 1 @7
	dead 1 @7
	dead 0 @7
	return copy 3 @7
`)
	isBuilt(t, "a row that ends, and one that is empty", `
co f(x: int) {
	while x {
		let y: int = 1;
		return y;
	}
	while 2 {
	}
	return x;
}
`, `
f 1
	0 x int
	1 y int
	2  int
block 0
	goto 1 @2
block 1
	if copy 0 2 3 @2
block 2
	live 1 @3
	set 1 = 0 0 0 #1 @3
	set 2 = 0 0 0 copy 1 @4
	dead 1 @4
	dead 0 @4
	return copy 2 @4
block 3
	goto 4 @6
block 4
	if #2 5 6 @6
block 5
	goto 4 @6
block 6
	set 2 = 0 0 0 copy 0 @8
	dead 0 @8
	return copy 2 @8
`)
	isBuilt(t, "rows in rows", `
co f(x: int) {
	while x {
		let y: int = 1;
		while y {
			let d: D = D(2);
			if x {
				return 1;
			} else {
				yield 2;
			}
		}
	}
	return 3;
}
`, `
f 1
	0 x int
	1 y int
	2 d D
	3  int
block 0
	goto 1 @2
block 1
	if copy 0 2 3 @2
block 2
	live 1 @3
	set 1 = 0 0 0 #1 @3
	goto 4 @4
block 3
	set 3 = 0 0 0 #3 @13
	dead 0 @13
	return copy 3 @13
block 4
	if copy 1 5 6 @4
block 5
	live 2 @5
	set 2 = 10 1 0 #2 @5
	if copy 0 7 8 @6
block 6
	dead 1 @2
	goto 1 @2
block 7
	set 3 = 0 0 0 #1 @7
	end 2 @7
	dead 2 @7
	dead 1 @7
	dead 0 @7
	return copy 3 @7
block 8
	yield #2 9 @9
block 9
	goto 10 @6
block 10
	end 2 @4
	dead 2 @4
	goto 4 @4
`)
}

// TestMatch: arms that end and arms that don't, with names and without.
func TestMatch(t *testing.T) {
	isBuilt(t, "some arms end", `
co f(x: int, e: E) {
	let a: int = 1;
	match e {
		A => {
			return 1;
		}
		B(n) => {
			print n;
		}
		C(p) => {
			let q: P = p;
			return q.x;
		}
		X(b) => {
			let c: box E = b;
			yield 2;
		}
		Y(y) => {
			match y {
				G => {
					let d: D = D(3);
				}
			}
		}
		Z(d2) => {
			drop d2;
		}
	}
	return x;
}
`, `
f 2
	0 x int
	1 e E
	2 a int
	3 n int
	4 p P
	5 q P
	6 b box E
	7 c box E
	8 y F
	9 d D
	10 d2 D
	11  int
block 0
	live 2 @2
	set 2 = 0 0 0 #1 @2
	match 1 1 2 3 4 5 6 @3
block 1
	open 1 0 -1 @3
	set 11 = 0 0 0 #1 @5
	dead 2 @5
	end 1 @5
	dead 1 @5
	dead 0 @5
	return copy 11 @5
block 2
	live 3 @3
	open 1 1 3 @3
	print copy 3 @8
	dead 3 @3
	goto 10 @3
block 3
	live 4 @3
	open 1 2 4 @3
	live 5 @11
	set 5 = 0 0 0 move 4 @11
	set 11 = 0 0 0 copy 5.0 @12
	dead 5 @12
	dead 4 @12
	dead 2 @12
	end 1 @12
	dead 1 @12
	dead 0 @12
	return copy 11 @12
block 4
	live 6 @3
	open 1 3 6 @3
	live 7 @15
	set 7 = 0 0 0 move 6 @15
	yield #2 7 @16
block 5
	live 8 @3
	open 1 4 8 @3
	match 8 8 @19
block 6
	live 10 @3
	open 1 5 10 @3
	drop 10 @26
	end 10 @3
	dead 10 @3
	goto 10 @3
block 7
	end 7 @3
	dead 7 @3
	end 6 @3
	dead 6 @3
	goto 10 @3
block 8
	open 8 0 -1 @19
	live 9 @21
	set 9 = 10 1 0 #3 @21
	end 9 @19
	dead 9 @19
	goto 9 @19
block 9
	dead 8 @3
	goto 10 @3
block 10
	set 11 = 0 0 0 copy 0 @29
	dead 2 @29
	end 1 @29
	dead 1 @29
	dead 0 @29
	return copy 11 @29
`)
	isBuilt(t, "all arms end", `
co f(e: E) {
	match e {
		A => {
			return 1;
		}
		B(n) => {
			return n;
		}
		C(p) => {
			if p.x {
				return p.y;
			} else {
				return 2;
			}
		}
		X(b) => {
			return 3;
		}
		Y(y) => {
			match y {
				G => {
					return 4;
				}
			}
		}
		Z(d) => {
			return d.n;
		}
	}
}
`, `
f 1
	0 e E
	1 n int
	2 p P
	3 b box E
	4 y F
	5 d D
	6  int
block 0
	match 0 1 2 3 4 5 6 @2
block 1
	open 0 0 -1 @2
	set 6 = 0 0 0 #1 @4
	end 0 @4
	dead 0 @4
	return copy 6 @4
block 2
	live 1 @2
	open 0 1 1 @2
	set 6 = 0 0 0 copy 1 @7
	dead 1 @7
	end 0 @7
	dead 0 @7
	return copy 6 @7
block 3
	live 2 @2
	open 0 2 2 @2
	if copy 2.0 7 8 @10
block 4
	live 3 @2
	open 0 3 3 @2
	set 6 = 0 0 0 #3 @17
	end 3 @17
	dead 3 @17
	end 0 @17
	dead 0 @17
	return copy 6 @17
block 5
	live 4 @2
	open 0 4 4 @2
	match 4 9 @20
block 6
	live 5 @2
	open 0 5 5 @2
	set 6 = 0 0 0 copy 5.0 @27
	end 5 @27
	dead 5 @27
	end 0 @27
	dead 0 @27
	return copy 6 @27
block 7
	set 6 = 0 0 0 copy 2.1 @11
	dead 2 @11
	end 0 @11
	dead 0 @11
	return copy 6 @11
block 8
	set 6 = 0 0 0 #2 @13
	dead 2 @13
	end 0 @13
	dead 0 @13
	return copy 6 @13
block 9
	open 4 0 -1 @20
	set 6 = 0 0 0 #4 @22
	dead 4 @22
	end 0 @22
	dead 0 @22
	return copy 6 @22
`)
	isBuilt(t, "one arm, which does not end, in a row that is then left", `
co f(k: F) {
	while 1 {
		let l: F = F::G;
		match k {
			G => {
			}
		}
	}
	return 0;
}
`, `
f 1
	0 k F
	1 l F
	2  int
block 0
	goto 1 @2
block 1
	if #1 2 3 @2
block 2
	live 1 @3
	set 1 = 11 1 0 @3
	match 0 4 @4
block 3
	set 2 = 0 0 0 #0 @9
	dead 0 @9
	return copy 2 @9
block 4
	open 0 0 -1 @4
	goto 5 @4
block 5
	dead 1 @2
	goto 1 @2
`)
}

// TestOthers: statements that stand in one block, or go on in a new one.
func TestOthers(t *testing.T) {
	isBuilt(t, "yields, prints, drops", `
co f(x: int, p: P, d: D, b: box int, c: co g) {
	yield x;
	yield -1;
	print p.y;
	print 5;
	drop d;
	drop x;
	drop p;
	drop b;
	drop c;
	let r: &P = &p;
	drop r;
	yield p.x;
	d = D(1);
	drop d;
	return b.*;
}
`, `
f 5
	0 x int
	1 p P
	2 d D
	3 b box int
	4 c co g
	5 r &P
	6  int
block 0
	yield copy 0 1 @2
block 1
	yield #-1 2 @3
block 2
	print copy 1.1 @4
	print #5 @5
	drop 2 @6
	drop 0 @7
	drop 1 @8
	drop 3 @9
	drop 4 @10
	live 5 @11
	set 5 = 6 0 0 1 @11
	drop 5 @12
	yield copy 1.0 3 @13
block 3
	set 2 = 10 1 0 #1 @14
	drop 2 @15
	set 6 = 0 0 0 copy 3.-1 @16
	dead 5 @16
	end 4 @16
	dead 4 @16
	end 3 @16
	dead 3 @16
	end 2 @16
	dead 2 @16
	dead 1 @16
	dead 0 @16
	return copy 6 @16
`)
	isBuilt(t, "a return leaves what was made on its way, whatever was made and left on others", `
co f(x: int, y: box int) {
	if x {
		let a: D = D(1);
	}
	while x {
		let b: D = D(2);
	}
	if x {
		let c: D = D(3);
		return 4;
	} else {
		let d: D = D(5);
		if x {
			return 6;
		}
		return 7;
	}
}
`, `
f 2
	0 x int
	1 y box int
	2 a D
	3 b D
	4 c D
	5 d D
	6  int
block 0
	if copy 0 1 2 @2
block 1
	live 2 @3
	set 2 = 10 1 0 #1 @3
	end 2 @2
	dead 2 @2
	goto 3 @2
block 2
	goto 3 @2
block 3
	goto 4 @5
block 4
	if copy 0 5 6 @5
block 5
	live 3 @6
	set 3 = 10 1 0 #2 @6
	end 3 @5
	dead 3 @5
	goto 4 @5
block 6
	if copy 0 7 8 @8
block 7
	live 4 @9
	set 4 = 10 1 0 #3 @9
	set 6 = 0 0 0 #4 @10
	end 4 @10
	dead 4 @10
	end 1 @10
	dead 1 @10
	dead 0 @10
	return copy 6 @10
block 8
	live 5 @12
	set 5 = 10 1 0 #5 @12
	if copy 0 9 10 @13
block 9
	set 6 = 0 0 0 #6 @14
	end 5 @14
	dead 5 @14
	end 1 @14
	dead 1 @14
	dead 0 @14
	return copy 6 @14
block 10
	goto 11 @13
block 11
	set 6 = 0 0 0 #7 @16
	end 5 @16
	dead 5 @16
	end 1 @16
	dead 1 @16
	dead 0 @16
	return copy 6 @16
`)
}

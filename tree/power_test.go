package tree_test

import (
	"maps"
	"slices"
	"testing"

	"chandler/api"
	"chandler/sector"
	"chandler/tree"
)

// cutCase is an Apply that the power cuts short: what the tree holds ahead of it, and the changes.
type cutCase struct {
	name    string
	ahead   [][]change
	changes []change
	// deep is of how many Opens behind one another each is cut at each of its writes.
	deep int
}

func cutCases() []cutCase {
	few, many, long := numbered(0, 12, 8), numbered(0, 40, api.MaxKey), numbered(100, 104, api.MaxKey)
	leaf, leaves := [][]change{puts(few, text(40))}, [][]change{puts(many[:20], text(180)), puts(many[20:], text(180))}
	return []cutCase{
		{"a first key", nil, []change{put("a", "1")}, 3},
		{"many first keys", nil, puts(many[:12], text(200)), 2},
		{"a leaf's keys", leaf, []change{put("000000055", "new"), gone(few[1]), put(few[2], "other")}, 3},
		{"a leaf is cut in two", leaf, puts(numbered(50, 54, 8), text(200)), 3},
		{"no key is left", leaf, allGone(few), 3},
		{"another key in the place of all", leaf, append(allGone(few), put("a", "1")), 3},
		{"leaves all over the tree", leaves, append(puts(long[:2], text(200)), put(many[0], "new"), put(many[19], "new"), gone(many[30]), gone(many[31])), 2},
		{"leaves become one", leaves, allGone(many[3:]), 2},
		{"leaves become none", leaves, allGone(many), 2},
		{"one leaf grows, another is gone", leaves, append(allGone(many[10:20]), puts(numbered(500, 512, 48), text(200))...), 1},
		{"behind what was there and is gone", append(leaves, allGone(many[5:])), puts(many[20:32], text(150)), 2},
	}
}

// TestPower holds P5.4: the power goes off at each write of an Apply, then at each write of an Open behind it, and of the Opens behind that one.
func TestPower(t *testing.T) {
	const room = 40
	for _, c := range cutCases() {
		d := diskFor(40, room)
		before := content{}
		for _, changes := range c.ahead {
			wantApply(t, open(t, d, room), api.OK, changes...)
			before = before.with(changes)
		}
		behind := before.with(c.changes)
		held := imageOf(t, d)
		for left, done := 0, false; !done; left++ {
			d := diskOf(t, held)
			x := open(t, d, room)
			d.Cut(left)
			e := x.Apply(c.changes...)
			done = e == api.OK
			if !done && (e != api.ErrOff || d.On()) {
				t.Fatalf("%s, with %d writes left: Apply = %d, the power is on: %v", c.name, left, e, d.On())
			}
			d.Start()
			switch {
			case done:
				wantHeld(t, x, behind)
				wantOpens(t, imageOf(t, d), room, behind, behind, 1)
			case left == 0:
				wantHeld(t, x, before)
				wantOpens(t, imageOf(t, d), room, before, before, 1)
			default:
				wantHeld(t, x, before)
				wantOpens(t, imageOf(t, d), room, before, behind, c.deep)
			}
		}
	}
}

// TestSameWrites holds that what an Apply writes hangs on nothing but the changes and the tree: on two disks the same stands behind each cut.
func TestSameWrites(t *testing.T) {
	const room = 40
	for _, c := range cutCases() {
		for left := range 60 {
			var disks [2]image
			for i := range disks {
				d := diskFor(40, room)
				for _, changes := range c.ahead {
					wantApply(t, open(t, d, room), api.OK, changes...)
				}
				x := open(t, d, room)
				d.Cut(left)
				x.Apply(c.changes...)
				d.Start()
				disks[i] = imageOf(t, d)
			}
			if !slices.Equal(disks[0], disks[1]) {
				t.Fatalf("%s, with %d writes left: the disks hold unlike sectors", c.name, left)
			}
		}
	}
}

// wantOpens lets the power go off at each write of an Open, so deep, and asks that the tree of the one answered OK holds one of the two, and goes on.
func wantOpens(t *testing.T, held image, room int, before, behind content, deep int) {
	t.Helper()
	for left := range len(held) {
		d := diskOf(t, held)
		d.Cut(left)
		x, e := tree.Open(d, room)
		d.Start()
		if e == api.OK {
			wantEither(t, x, before, behind)
			wantGoesOn(t, d, x, room)
			return
		}
		if e != api.ErrOff || x != nil {
			t.Fatalf("Open = %v, %d", x, e)
		}
		if deep > 1 {
			wantOpens(t, imageOf(t, d), room, before, behind, deep-1)
		}
	}
	t.Errorf("no Open is answered OK")
}

// holds tells whether the pairs of the tree are those of the content.
func holds(x *tree.Tree, want content) bool {
	return slices.Equal(x.Scan("", 1<<20), want.pairs())
}

func wantEither(t *testing.T, x *tree.Tree, before, behind content) {
	t.Helper()
	switch {
	case holds(x, before):
		wantHeld(t, x, before)
	case holds(x, behind):
		wantHeld(t, x, behind)
	default:
		t.Errorf("the tree holds %d pairs, neither the %d ahead nor the %d behind", x.Len(), len(before), len(behind))
	}
}

// wantGoesOn asks that a tree takes further changes as any other does.
func wantGoesOn(t *testing.T, d *sector.Disk, x *tree.Tree, room int) {
	t.Helper()
	held := content{}
	for _, p := range x.Scan("", 1<<20) {
		held[p.Key] = p.Value
	}
	changes := append(puts(numbered(20, 24, 30), text(199)), gone("00000003"), put("a", "again"))
	wantApply(t, x, api.OK, changes...)
	wantHeld(t, x, held.with(changes))
	wantHeld(t, open(t, d, room), held.with(changes))
}

// TestPowerAgain holds P5.4 of Applies one behind another that are all cut, so that older copies and nodes stand behind those of the last one.
func TestPowerAgain(t *testing.T) {
	const room = 40
	d := diskFor(60, room)
	held := content{}
	cut, kept := 0, 0
	for i := range 600 {
		var changes []change
		for j := range 1 + i%7 {
			key := numbered(i*37%97+j*13, i*37%97+j*13+1, 3+i%40)[0]
			if i%3 == 0 || i/100%2 == 1 {
				changes = append(changes, gone(key))
			} else {
				changes = append(changes, put(key, text(i%201)))
			}
		}
		x := open(t, d, room)
		d.Cut(i % 19)
		e := x.Apply(changes...)
		d.Start()
		behind := held.with(changes)
		if e == api.OK && !holds(x, behind) || e != api.OK && !holds(x, held) {
			t.Fatalf("Apply %d = %d, and the tree holds neither", i, e)
		}
		// Another cut, of the Open; then one that is answered OK.
		d.Cut(i % 5)
		tree.Open(d, room)
		d.Start()
		x = open(t, d, room)
		if e == api.OK && !holds(x, behind) {
			t.Fatalf("Apply %d was answered OK, and is lost", i)
		}
		wantEither(t, x, held, behind)
		if maps.Equal(held, behind) {
			continue
		}
		if holds(x, behind) {
			held = behind
			kept++
		} else {
			cut++
		}
	}
	if cut < 40 || kept < 40 {
		t.Errorf("%d were lost, %d kept: too few to tell", cut, kept)
	}
}

package rows_test

import (
	"math"
	"slices"
	"testing"

	"chandler/api"
	"chandler/rows"
	"chandler/tree"
)

// changesByWords is what P6.2 says.
func changesByWords(x rows.Table, old, fresh rows.Row) ([]tree.Change, api.Errno) {
	oldPair, oldIndex, oldFits := byWords(x, old)
	freshPair, freshIndex, freshFits := byWords(x, fresh)
	if len(old) > 0 && !oldFits || len(fresh) > 0 && !freshFits {
		return nil, api.ErrRow
	}
	if len(old) > 0 && len(fresh) > 0 && !slices.Equal(old[:x.Keys], fresh[:x.Keys]) {
		return nil, api.ErrRow
	}
	var changes []tree.Change
	if len(fresh) > 0 {
		changes = append(changes, tree.Change{Key: freshPair.Key, Value: freshPair.Value})
		if x.Index >= 0 && (len(old) == 0 || old[x.Index] != fresh[x.Index]) {
			changes = append(changes, tree.Change{Key: freshIndex.Key})
		}
		if x.Index >= 0 && len(old) > 0 && old[x.Index] != fresh[x.Index] {
			changes = append(changes, tree.Change{Key: oldIndex.Key, Gone: true})
		}
	} else if len(old) > 0 {
		changes = append(changes, tree.Change{Key: oldPair.Key, Gone: true})
		if x.Index >= 0 {
			changes = append(changes, tree.Change{Key: oldIndex.Key, Gone: true})
		}
	}
	return changes, api.OK
}

func wantChanges(t *testing.T, x rows.Table, old, fresh rows.Row, want api.Errno, changes ...tree.Change) {
	t.Helper()
	if got, e := rows.Changes(x, old, fresh); !slices.Equal(got, changes) || e != want {
		t.Errorf("Changes(%s, %s, %s) = %+v, %d, want %+v, %d", brief(x), brief(old), brief(fresh), got, e, changes, want)
	}
}

// TestChanges holds P6.2 by changes that are written out.
func TestChanges(t *testing.T) {
	const key, x, y = "a\x00\x80\x00\x00\x00\x00\x00\x00\x05", "a\x01x\x00\x80\x00\x00\x00\x00\x00\x00\x05", "a\x01y\x00\x80\x00\x00\x00\x00\x00\x00\x05"
	put := func(key, value string) tree.Change { return tree.Change{Key: key, Value: value} }
	gone := func(key string) tree.Change { return tree.Change{Key: key, Gone: true} }
	for _, none := range []rows.Row{nil, {}, make(rows.Row, 2)[:0]} {
		indexed, plain, inKey := table("iti", 1, 1), table("iti", 1, -1), table("it", 1, 0)
		wantChanges(t, indexed, none, none, api.OK)
		wantChanges(t, indexed, none, row(5, "x", 1), api.OK, put(key, "\x01x\x02"), put(x, ""))
		wantChanges(t, indexed, row(5, "x", 1), row(5, "y", 1), api.OK, put(key, "\x01y\x02"), put(y, ""), gone(x))
		wantChanges(t, indexed, row(5, "x", 1), row(5, "x", -1), api.OK, put(key, "\x01x\x01"))
		wantChanges(t, indexed, row(5, "x", 1), row(5, "x", 1), api.OK, put(key, "\x01x\x02"))
		wantChanges(t, indexed, row(5, "x", 1), none, api.OK, gone(key), gone(x))
		wantChanges(t, plain, none, none, api.OK)
		wantChanges(t, plain, none, row(5, "x", 1), api.OK, put(key, "\x01x\x02"))
		wantChanges(t, plain, row(5, "x", 1), row(5, "y", 2), api.OK, put(key, "\x01y\x04"))
		wantChanges(t, plain, row(5, "x", 1), none, api.OK, gone(key))
		wantChanges(t, inKey, none, row(5, "x"), api.OK, put(key, "\x01x"), put("a\x01"+key[2:]+key[2:], ""))
		wantChanges(t, inKey, row(5, "x"), row(5, "y"), api.OK, put(key, "\x01y"))
		wantChanges(t, inKey, row(5, "x"), none, api.OK, gone(key), gone("a\x01"+key[2:]+key[2:]))
	}
}

// TestChangesRefused holds P6.2 of rows that aren't fit, on either side, of unlike keys, and of tables that aren't fit.
func TestChangesRefused(t *testing.T) {
	x := table("iti", 1, 1)
	good := row(5, "x", 1)
	for _, bad := range []rows.Row{
		row(5), row(5, "x"), row(5, "x", 1, 1), row("", "x"), row("5", "x", 1), row(5, 1, 1), row(5, "x", "1"), row(5, "\x00", 1), row(5, text(38), 1),
		{{N: 5, S: "x"}, {S: "x"}, {N: 1}}, {{N: 5}, {N: 5, S: "x"}, {N: 1}}, {{N: 5}, {S: "x"}, {N: 1, S: "x"}}, make(rows.Row, 3000),
	} {
		for _, other := range []rows.Row{nil, {}, good, bad, row(6, "x", 1)} {
			wantChanges(t, x, bad, other, api.ErrRow)
			wantChanges(t, x, other, bad, api.ErrRow)
		}
	}
	for _, unlike := range []rows.Row{row(6, "x", 1), row(-5, "x", 1), row(math.MinInt64, "y", 1)} {
		wantChanges(t, x, good, unlike, api.ErrRow)
		wantChanges(t, x, unlike, good, api.ErrRow)
	}
	for _, c := range []struct{ old, fresh rows.Row }{{row("ab", "c"), row("a", "bc")}, {row("a", ""), row("", "a")}, {row("a", "b"), row("a", "c")}, {row("a", "b"), row("b", "b")}} {
		for index := -1; index < 2; index++ {
			wantChanges(t, table("tt", 2, index), c.old, c.fresh, api.ErrRow)
			wantChanges(t, table("tt", 2, index), c.fresh, c.old, api.ErrRow)
		}
	}
	for _, x := range unfitTables() {
		for _, r := range []rows.Row{row(1), row(1, "a"), row("a", 1), row(1, 1), row("a", "a"), row(1, "a", 1)} {
			wantChanges(t, x, r, nil, api.ErrRow)
			wantChanges(t, x, nil, r, api.ErrRow)
			wantChanges(t, x, r, r, api.ErrRow)
		}
		// There is no row that isn't fit, and both are none.
		wantChanges(t, x, nil, rows.Row{}, api.OK)
	}
}

// TestChangesByWords holds P6.2 by its words, at tables and rows of all kinds.
func TestChangesByWords(t *testing.T) {
	for _, x := range tables() {
		all := append(combined(x, []any{0, -5, rows.Value{S: "b"}}, []any{"", "b", "b\x00"}), nil, rows.Row{}, row(1, 1, 1, 1))
		for _, old := range all {
			for _, fresh := range all {
				changes, e := changesByWords(x, old, fresh)
				wantChanges(t, x, old, fresh, e, changes...)
			}
		}
	}
}

// TestChangesHold holds that P6.2's changes, made in a tree one behind the other, keep it at the pairs of the rows that there are, and P6.3 of that tree.
func TestChangesHold(t *testing.T) {
	for _, x := range []rows.Table{table("itt", 1, 1), table("tit", 2, 1), table("tti", 2, 2), table("it", 1, -1), table("tt", 2, 0), table("iii", 1, 2)} {
		held := newTree(t)
		all := combined(x, []any{0, -5, math.MinInt64}, []any{"", "b", "bb"})
		known := map[string]rows.Row{}
		for i := range 4 * len(all) {
			fresh := all[i*7%len(all)]
			p, _, _ := byWords(x, fresh)
			old := known[p.Key]
			if i%3 == 2 && old != nil {
				fresh = nil
			}
			changes, e := rows.Changes(x, old, fresh)
			if e != api.OK {
				t.Fatalf("Changes(%v, %v, %v): %d", x, old, fresh, e)
			}
			apply(t, held, changes...)
			if known[p.Key] = fresh; fresh == nil {
				delete(known, p.Key)
			}
			wantHeld(t, held, x, known)
		}
		for key, old := range known {
			changes, _ := rows.Changes(x, old, nil)
			apply(t, held, changes...)
			delete(known, key)
		}
		wantHeld(t, held, x, known)
	}
}

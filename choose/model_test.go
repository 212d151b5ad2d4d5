package choose_test

import (
	"fmt"
	"iter"
	"slices"
	"strings"
	"testing"

	"wardship/api"
	"wardship/choose"
	"wardship/path"
)

// expectPath is what the chapter means by a path: layer 9's.
func expectPath(s string) bool {
	_, err := path.Split(s)
	return err == api.OK
}

// expectBelow is what the chapter means by a path that lies below another one, told anew by their texts.
func expectBelow(s, top string) bool {
	if !expectPath(s) || !expectPath(top) || s == top {
		return false
	}
	return top == "/" || strings.HasPrefix(s, top+"/")
}

// expectWithin is what the chapter means by a path that is equal to another one, or lies below it.
func expectWithin(s, top string) bool {
	return expectPath(s) && s == top || expectBelow(s, top)
}

// expectCheck is what the chapter says of Check(l), told anew.
func expectCheck(l []string) api.Errno {
	if len(l) > 8 {
		return api.ErrLong
	}
	for i, at := range l {
		if !expectPath(at) {
			return api.ErrPath
		}
		if i > 0 && !(l[i-1] < at) {
			return api.ErrForm
		}
		for _, other := range l {
			if expectBelow(at, other) {
				return api.ErrForm
			}
		}
	}
	return api.OK
}

// expectClean is what the chapter says of Clean(l), told anew.
func expectClean(l []string) ([]string, api.Errno) {
	different := map[string]int{}
	for _, at := range l {
		if !expectPath(at) {
			return nil, api.ErrPath
		}
		different[at]++
	}
	var clean []string
	for at := range different {
		below := 0
		for top := range different {
			if expectBelow(at, top) {
				below++
			}
		}
		if below == 0 {
			clean = append(clean, at)
		}
	}
	if len(clean) > 8 {
		return nil, api.ErrLong
	}
	slices.Sort(clean)
	return clean, api.OK
}

// expectHas is what the chapter says of Has(l, at), told anew.
func expectHas(l []string, at string) bool {
	for _, top := range l {
		if expectWithin(at, top) {
			return true
		}
	}
	return len(l) == 0
}

// expectLeads is what the chapter says of Leads(l, at), told anew.
func expectLeads(l []string, at string) bool {
	for _, one := range l {
		if expectWithin(one, at) {
			return true
		}
	}
	return expectHas(l, at)
}

// brief is a list as a text, or how it begins.
func brief(l []string) string {
	if len(l) > 20 {
		return fmt.Sprintf("%.200q and %d more", l[:20], len(l)-20)
	}
	return fmt.Sprintf("%.200q", l)
}

// checks checks what Check says of a list.
func checks(t *testing.T, want api.Errno, l ...string) {
	t.Helper()
	if got := choose.Check(l); got != want {
		t.Errorf("Check(%s) = %d, not %d", brief(l), got, want)
	}
}

// cleans checks what Clean makes of a list: a choice, that stays what it is when it is cleaned again.
func cleans(t *testing.T, l []string, want ...string) {
	t.Helper()
	got, err := choose.Clean(l)
	if err != api.OK || !slices.Equal(got, want) {
		t.Errorf("Clean(%s) = %q, %d, not %q", brief(l), got, err, want)
	}
	checks(t, api.OK, got...)
	again, err := choose.Clean(got)
	if err != api.OK || !slices.Equal(again, got) {
		t.Errorf("Clean(%q) = %q, %d", got, again, err)
	}
}

// refuses checks that Clean refuses a list.
func refuses(t *testing.T, want api.Errno, l ...string) {
	t.Helper()
	if got, err := choose.Clean(l); err != want || len(got) != 0 {
		t.Errorf("Clean(%s) = %q, %d, not %d", brief(l), got, err, want)
	}
}

// tells checks what Has and Leads say of a text.
func tells(t *testing.T, l []string, at string, has, leads bool) {
	t.Helper()
	if got := choose.Has(l, at); got != has {
		t.Errorf("Has(%s, %.200q) = %v", brief(l), at, got)
	}
	if got := choose.Leads(l, at); got != leads {
		t.Errorf("Leads(%s, %.200q) = %v", brief(l), at, got)
	}
}

// asExpected holds all that is said of a list against the chapter's words told anew.
func asExpected(t *testing.T, l []string, texts []string) {
	t.Helper()
	checks(t, expectCheck(l), l...)
	clean, err := expectClean(l)
	if err == api.OK {
		cleans(t, l, clean...)
	} else {
		refuses(t, err, l...)
	}
	for _, at := range texts {
		tells(t, l, at, expectHas(l, at), expectLeads(l, at))
		if err == api.OK {
			tells(t, clean, at, expectHas(l, at), expectLeads(l, at))
		}
	}
}

// isPassed checks which nodes Only yields, by their paths.
func isPassed(t *testing.T, l []string, all iter.Seq[api.Node], want ...string) {
	t.Helper()
	if got := pathsOf(slices.Collect(choose.Only(l, all))); !slices.Equal(got, want) {
		t.Errorf("Only(%q) yields %q, not %q", l, got, want)
	}
}

// pathsOf are the paths of nodes.
func pathsOf(l []api.Node) []string {
	var paths []string
	for _, n := range l {
		paths = append(paths, n.Path)
	}
	return paths
}

// nodesAt are nodes with some paths.
func nodesAt(paths ...string) []api.Node {
	var l []api.Node
	for i, at := range paths {
		l = append(l, api.Node{Path: at, Obj: api.ID{Rep: 1, Seq: uint32(i + 1)}, Heads: []api.ID{{Rep: 2, Seq: 1}, {Rep: 2, Seq: 2}}, Data: at + at})
	}
	return l
}

// dice is numbers that a plain rule makes of a seed.
type dice uint32

// roll is a number below n.
func (d *dice) roll(n int) int {
	*d = *d*1664525 + 1013904223
	return int(uint32(*d)>>8) % n
}

// among is some of the texts, as many as n, each as often as it comes.
func (d *dice) among(texts []string, n int) []string {
	var l []string
	for range n {
		l = append(l, texts[d.roll(len(texts))])
	}
	return l
}

// noPaths is some texts that are no paths.
func noPaths() []string {
	return []string{
		"", "a", "a/b", "~", "/a/", "//", "//a", "/a//b", "/.", "/..", "/a/..", "/a b", " /a", "/a ", "/a\x00", "/é", "/\xff", "/a+b", "/lost+foun", "/lost+found~1.1",
		"/a~", "/a~1", "/a~01.1", "/abcdefghijklm", strings.Repeat("/a", 11), strings.Repeat("/abcdefghijk", 9) + "/abcdefghijkl",
	}
}

// longest is a path of as many parts, and as many bytes, as one may have.
func longest() string { return strings.Repeat("/abcdefghijk", 10) }

// first is the first n of some paths that rise, none below another one.
func first(n int) []string {
	return []string{"/a", "/b", "/c/d", "/c/e", "/d/a/b/c", "/e~1.20", "/lost+found", "/z", "/zz", "/zzz"}[:n]
}

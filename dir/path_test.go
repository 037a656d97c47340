package dir_test

import (
	"slices"
	"strings"
	"testing"

	"gatehouse/api"
	"gatehouse/dir"
)

// says tells whether Split answers those names.
func says(t *testing.T, path string, want ...string) {
	t.Helper()
	if got, e := dir.Split(path); e != api.OK || !slices.Equal(got, want) {
		t.Errorf("Split(%q) = %q, %d, not %q", path, got, e, want)
	}
}

// refuses tells whether Split answers that error, and nothing else.
func refuses(t *testing.T, path string, want api.Errno) {
	t.Helper()
	if got, e := dir.Split(path); e != want || len(got) > 0 {
		t.Errorf("Split(%q) = %q, %d, not error %d", path, got, e, want)
	}
}

func x(n int) string { return strings.Repeat("x", n) }

func TestSplit(t *testing.T) {
	says(t, "/a//./b/../c", "a", "c")
	says(t, "../x", "x")
	for _, path := range []string{"", "/", "//", ".", "./", "/.", "..", "/..", "../..", "a/..", "/a/../", "a/b/../..", "a/../..", "./../."} {
		says(t, path)
	}
	says(t, "a", "a")
	says(t, "/a", "a")
	says(t, "a/", "a")
	says(t, "//a//", "a")
	says(t, "a/b", "a", "b")
	says(t, "a/../../b", "b")
	says(t, "a/../b/../c/../d", "d")
	says(t, "a/b/c/../../d/e/..", "a", "d")
	says(t, "/.../..a/.b/c./d..", "...", "..a", ".b", "c.", "d..")
	says(t, "a b/\xff\xfe/é/\\/\n", "a b", "\xff\xfe", "é", "\\", "\n")
	says(t, "a/a/a", "a", "a", "a")
	says(t, ".. /. ", ".. ", ". ")
}

func TestSplitLongPath(t *testing.T) {
	says(t, strings.Repeat("/", 256))
	refuses(t, strings.Repeat("/", 257), api.ErrLong)
	says(t, strings.Repeat("a/../", 51)+"b", "b")
	refuses(t, strings.Repeat("a/../", 52), api.ErrLong)
	says(t, strings.Repeat("./", 127)+"ab", "ab")
	refuses(t, strings.Repeat("./", 127)+"abc", api.ErrLong)
	refuses(t, "\x00"+strings.Repeat("/", 256), api.ErrLong)
	says(t, "/"+strings.Repeat(x(32)+"/", 7)+strings.Repeat("y", 24), x(32), x(32), x(32), x(32), x(32), x(32), x(32), strings.Repeat("y", 24))
}

func TestSplitLongPart(t *testing.T) {
	says(t, x(32), x(32))
	refuses(t, x(33), api.ErrLong)
	says(t, "/a/"+x(32)+"/b", "a", x(32), "b")
	refuses(t, "/a/"+x(33)+"/b", api.ErrLong)
	refuses(t, x(256), api.ErrLong)
	refuses(t, strings.Repeat(".", 33), api.ErrLong)
	says(t, strings.Repeat(".", 32), strings.Repeat(".", 32))
}

func TestSplitByte0(t *testing.T) {
	for _, path := range []string{"\x00", "/\x00", "a\x00", "\x00a", "a/\x00/b", "a/b\x00", ".\x00", "..\x00", "./\x00", x(31) + "\x00", strings.Repeat("/", 255) + "\x00"} {
		refuses(t, path, api.ErrInval)
	}
}

// What is taken back must be right all the same.
func TestSplitTakenBack(t *testing.T) {
	refuses(t, x(33)+"/..", api.ErrLong)
	refuses(t, "a/"+x(33)+"/../..", api.ErrLong)
	refuses(t, "\x00/..", api.ErrInval)
	says(t, x(32)+"/..")
}

func TestSplitOrderOfErrors(t *testing.T) {
	refuses(t, x(40)+"\x00", api.ErrInval)
	refuses(t, "\x00"+x(40), api.ErrInval)
	refuses(t, "a\x00/"+x(33), api.ErrInval)
	refuses(t, x(33)+"/a\x00", api.ErrLong)
	refuses(t, strings.Repeat("a/", 17)+"\x00", api.ErrInval)
	refuses(t, strings.Repeat("a/", 17)+x(33), api.ErrLong)
	refuses(t, "\x00"+x(256), api.ErrLong)
}

// How many names are left in the end counts, not how many there are on the way.
func TestSplitDeep(t *testing.T) {
	says(t, strings.Repeat("a/", 16), slices.Repeat([]string{"a"}, 16)...)
	says(t, "/b"+strings.Repeat("/a", 15), append([]string{"b"}, slices.Repeat([]string{"a"}, 15)...)...)
	refuses(t, strings.Repeat("a/", 17), api.ErrLong)
	refuses(t, strings.Repeat("/a", 128), api.ErrLong)
	says(t, strings.Repeat("a/", 17)+"..", slices.Repeat([]string{"a"}, 16)...)
	says(t, strings.Repeat("a/", 40)+strings.Repeat("../", 39), "a")
	says(t, strings.Repeat("a/", 16)+"../b", append(slices.Repeat([]string{"a"}, 15), "b")...)
	refuses(t, strings.Repeat("a/", 18)+"..", api.ErrLong)
	refuses(t, "../"+strings.Repeat("a/", 17), api.ErrLong)
}

func TestJoin(t *testing.T) {
	for _, c := range []struct {
		names []string
		want  string
	}{
		{nil, "/"},
		{[]string{}, "/"},
		{[]string{"a"}, "/a"},
		{[]string{"a", "b", "c"}, "/a/b/c"},
		{[]string{""}, "/"},
		{[]string{"", ""}, "//"},
		{[]string{"", "a", ""}, "//a/"},
		{[]string{"/", ".."}, "///.."},
		{[]string{"a\x00", "\xff"}, "/a\x00/\xff"},
		{[]string{x(300), "b"}, "/" + x(300) + "/b"},
		{slices.Repeat([]string{"a"}, 20), strings.Repeat("/a", 20)},
	} {
		if got := dir.Join(c.names); got != c.want {
			t.Errorf("Join(%q) = %q, not %q", c.names, got, c.want)
		}
	}
}

func TestSplitUndoesJoin(t *testing.T) {
	says(t, dir.Join(nil))
	for _, s := range edgeNames() {
		says(t, dir.Join([]string{s}), s)
		says(t, dir.Join([]string{s, "a", s}), s, "a", s)
	}
	fifteen := slices.Repeat([]string{strings.Repeat("y", 15)}, 16)
	if s := dir.Join(fifteen); len(s) != 256 {
		t.Fatal("256 bytes are meant, not ", len(s))
	}
	says(t, dir.Join(fifteen), fifteen...)
	refuses(t, dir.Join(slices.Concat(fifteen[:15], []string{x(16)})), api.ErrLong)
	refuses(t, dir.Join(slices.Repeat([]string{"a"}, 17)), api.ErrLong)
}

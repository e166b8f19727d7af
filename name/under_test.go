package name_test

import (
	"slices"
	"strings"
	"testing"

	"cordwood/name"
)

// under checks the answer for l, for l turned round, and for l twice; they are the same.
func under(t *testing.T, prefix string, l, want []string) {
	t.Helper()
	turned := slices.Clone(l)
	slices.Reverse(turned)
	for _, in := range [][]string{l, turned, slices.Concat(l, turned), slices.Concat(l, l, l)} {
		if got := name.Under(prefix, in...); !slices.Equal(got, want) {
			t.Errorf("Under(%q, %q) = %q, not %q", prefix, in, got, want)
		}
	}
}

func TestUnder(t *testing.T) {
	l := []string{"b", "ab", "a", "abc", "ab", "ba", "", "-", "aB", "A", "abd", "b"}
	all := []string{"", "-", "A", "a", "aB", "ab", "abc", "abd", "b", "ba"}
	under(t, "", l, all)
	under(t, "a", l, []string{"a", "aB", "ab", "abc", "abd"})
	under(t, "ab", l, []string{"ab", "abc", "abd"})
	under(t, "abc", l, []string{"abc"})
	under(t, "b", l, []string{"b", "ba"})
	under(t, "-", l, []string{"-"})
	under(t, "A", l, []string{"A"})
	for _, prefix := range []string{"c", "bb", "abcd", "bab", "AB", "a ", " ", "\x00", "ab\x00", "a*", ".", "^a", strings.Repeat("a", 1000)} {
		under(t, prefix, l, nil)
	}
	for _, prefix := range []string{"", "a", "ab", strings.Repeat("a", 1000)} {
		under(t, prefix, nil, nil)
	}
	if got := name.Under("a"); len(got) != 0 {
		t.Error(got)
	}
	under(t, "", []string{""}, []string{""})
	under(t, "", []string{"x"}, []string{"x"})
	under(t, "x", []string{""}, nil)
	under(t, "xy", []string{"x"}, nil)
	under(t, "x", []string{"x", "x", "x"}, []string{"x"})
}

// Texts that are no names, and no text in UTF-8, are bytes like others.
func TestUnderIsOfBytes(t *testing.T) {
	l := []string{"\xff", "é", "\xc3", "z", "\x80", "\x00", "e\u0301", "\xc3\x28", "\x00\x00", "\x7f"}
	want := []string{"\x00", "\x00\x00", "e\u0301", "z", "\x7f", "\x80", "\xc3", "\xc3\x28", "é", "\xff"}
	under(t, "", l, want)
	under(t, "\xc3", l, []string{"\xc3", "\xc3\x28", "é"})
	under(t, "\x00", l, []string{"\x00", "\x00\x00"})
	under(t, "\x80", l, []string{"\x80"})
	under(t, "\ufffd", l, nil)
}

func TestUnderOfMany(t *testing.T) {
	var l, segments, objects []string
	for i := range 300 {
		n := int64(i * 37 % 100)
		l = append(l, name.Segment(n), name.Object(int(n), "data", n), name.Object(int(n), "marks", 7))
	}
	for n := range int64(100) {
		segments = append(segments, name.Segment(n))
		objects = append(objects, name.Object(int(n), "data", n), name.Object(int(n), "marks", 7))
	}
	under(t, "log-", l, segments)
	under(t, "seg-", l, objects)
	under(t, "", l, slices.Concat(segments, objects))
	under(t, "seg-0000000012-", l, objects[24:26])
	under(t, "seg-000000001", l, objects[20:40])
	under(t, "segs", l, nil)
}

// What is handed in is neither changed nor kept, and what lies behind it is neither read nor written.
func TestUnderLeavesWhatIsHandedIn(t *testing.T) {
	whole := []string{"b", "ab", "a", "ab", "a0", "a1", "c"}
	kept := slices.Clone(whole)
	for _, prefix := range []string{"", "a", "ab", "b", "x"} {
		for n := range len(whole) + 1 {
			want := name.Under(prefix, slices.Clone(whole[:n])...)
			got := name.Under(prefix, whole[:n]...)
			if !slices.Equal(got, want) || !slices.Equal(whole, kept) {
				t.Errorf("%q, %d: %q, %q", prefix, n, got, whole)
			}
		}
	}
	got := name.Under("a", whole[:4]...)
	for i := range whole {
		whole[i] = "z"
	}
	if !slices.Equal(got, []string{"a", "ab"}) {
		t.Error(got)
	}
	for _, rising := range [][]string{{"a"}, {"a", "b"}, {"a", "b", "c"}} { // handed out as it stands is not enough
		got := name.Under("", rising...)
		got[0] = "z"
		if rising[0] != "a" {
			t.Error(rising)
		}
	}
}

// Into what is handed out, and behind it, a caller may write.
func TestUnderIsNewMemory(t *testing.T) {
	l := []string{"b", "ab", "a", "abc", "ab", "ba"}
	kept := slices.Clone(l)
	one, two := name.Under("a", l...), name.Under("a", l...)
	for _, list := range [][]string{one[:cap(one)], append(one, "more", "and more")} {
		for i := range list {
			list[i] = "z"
		}
	}
	if !slices.Equal(two, []string{"a", "ab", "abc"}) || !slices.Equal(l, kept) {
		t.Error(two, l)
	}
	none := name.Under("x", l...)
	_ = append(none, "z")
	if again := name.Under("x", l...); len(again) != 0 || len(again[:cap(again)]) > 0 && again[:cap(again)][0] == "z" {
		t.Error(again)
	}
}

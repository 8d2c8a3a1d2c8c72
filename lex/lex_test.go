package lex_test

import (
	"bytes"
	"regexp"
	"slices"
	"strings"
	"testing"

	"millwright/api"
	"millwright/lex"
)

type token = lex.Token

func word(s string, line int) token   { return token{Kind: lex.Word, Text: s, Line: line} }
func number(s string, line int) token { return token{Kind: lex.Number, Text: s, Line: line} }
func end(line int) token              { return token{Kind: lex.End, Line: line} }

// short keeps what a failing test tells legible.
func short(s string) string {
	if len(s) > 60 {
		return s[:60] + ".."
	}
	return s
}

func mustBe(t *testing.T, s string, want []token) {
	t.Helper()
	got, line, err := lex.Lex([]byte(s))
	if !slices.Equal(got, want) || line != 0 || err != api.OK {
		t.Errorf("%q: %d tokens, %v %d %v; want %v", short(s), len(got), got, line, err, want)
	}
}

func mustFail(t *testing.T, s string, wantLine int, wantErr api.Errno) {
	t.Helper()
	got, line, err := lex.Lex([]byte(s))
	if len(got) != 0 || line != wantLine || err != wantErr {
		t.Errorf("%q: %v %d %v; want none, %d %v", short(s), got, line, err, wantLine, wantErr)
	}
}

// B1: the numbers by which others know the kinds and the bound.
func TestConstants(t *testing.T) {
	if got := [4]int{lex.Word, lex.Number, lex.End, lex.Most}; got != [4]int{1, 2, 3, 65536} {
		t.Errorf("%v", got)
	}
}

// B1: ordinary texts.
func TestTexts(t *testing.T) {
	mustBe(t, "task 5", []token{word("task", 1), number("5", 1), end(1)})
	mustBe(t, "task 1 mem 20\ntask 2 mem 7\n", []token{
		word("task", 1), number("1", 1), word("mem", 1), number("20", 1), end(1),
		word("task", 2), number("2", 2), word("mem", 2), number("7", 2), end(2),
	})
	mustBe(t, "a b", []token{word("a", 1), word("b", 1), end(1)})
	mustBe(t, "1 2", []token{number("1", 1), number("2", 1), end(1)})
	mustBe(t, "0001 00", []token{number("0001", 1), number("00", 1), end(1)})
	mustBe(t, "99999999999999999999999", []token{number("99999999999999999999999", 1), end(1)})
	mustBe(t, "aZzA 09", []token{word("aZzA", 1), number("09", 1), end(1)})
	mustBe(t, "a\n5\nb", []token{word("a", 1), end(1), number("5", 2), end(2), word("b", 3), end(3)})
}

// B1: lines that say nothing have no End, but they are counted.
func TestLinesThatSayNothing(t *testing.T) {
	for _, s := range []string{"", "\n", "\n\n\n", " ", "\t", "\r", " \t\r\n\r\n", "#", "#\n", " # a 5 ;\n\n##", "#a5"} {
		mustBe(t, s, nil)
	}
	mustBe(t, "\n \n#x\n\r\na\n\n\n5", []token{word("a", 5), end(5), number("5", 8), end(8)})
	if got, line, err := lex.Lex(nil); len(got) != 0 || line != 0 || err != api.OK {
		t.Errorf("nil: %v %d %v", got, line, err)
	}
}

// B1: the last line ends with or without its byte 0A.
func TestLastLine(t *testing.T) {
	for _, s := range []string{"a", "5", "a ", "5\t", "a#", "5#;", "x 5 y", "a\nb", "\n\n7"} {
		with, line, err := lex.Lex([]byte(s + "\n"))
		if line != 0 || err != api.OK || len(with) == 0 || with[len(with)-1].Kind != lex.End {
			t.Errorf("%q and 0A: %v %d %v", s, with, line, err)
		}
		mustBe(t, s, with)
		mustBe(t, s+"\n\n", with)
	}
}

// B1: each of the bytes 20, 09 and 0D parts, and says nothing.
func TestBlanks(t *testing.T) {
	want := []token{word("a", 1), number("5", 1), word("b", 1), end(1)}
	for _, blank := range []string{" ", "\t", "\r", " \t\r", "\r\r"} {
		mustBe(t, "a"+blank+"5"+blank+"b", want)
		mustBe(t, blank+"a"+blank+"5"+blank+"b"+blank, want)
	}
	mustBe(t, "a\r\nb\rc\r\n", []token{word("a", 1), end(1), word("b", 2), word("c", 2), end(2)})
}

// B1: a comment goes to its line's end, whatever stands in it, and no further.
func TestComments(t *testing.T) {
	var all []byte
	for c := range 256 {
		if c != '\n' {
			all = append(all, byte(c))
		}
	}
	mustBe(t, "a#"+string(all), []token{word("a", 1), end(1)})
	mustBe(t, "#"+string(all)+"\n5", []token{number("5", 2), end(2)})
	mustBe(t, "a#5", []token{word("a", 1), end(1)})
	mustBe(t, "5#a", []token{number("5", 1), end(1)})
	mustBe(t, "5 # a # b\nc", []token{number("5", 1), end(1), word("c", 2), end(2)})
	mustFail(t, "#;\n;", 2, api.ErrSyntax)
}

// B1: a letter and a digit that stand together.
func TestLettersAndDigitsTogether(t *testing.T) {
	for _, s := range []string{"a5", "5a", "z9", "9Z", "A0", "0A", "task5", "5x", "12345m", "0x1", "a b5", "1 2c"} {
		mustFail(t, s, 1, api.ErrSyntax)
		mustFail(t, s+" b", 1, api.ErrSyntax)
		mustFail(t, "ok 1\n\n"+s+"\nb", 3, api.ErrSyntax)
	}
}

// B1: what each of the 256 bytes is, by itself, behind a word and behind a number.
func TestEachByte(t *testing.T) {
	const letters = "abcdefghijklmnopqrstuvwxyzABCDEFGHIJKLMNOPQRSTUVWXYZ"
	for c := range 256 {
		s := string([]byte{byte(c)})
		switch {
		case strings.Contains(letters, s):
			mustBe(t, s, []token{word(s, 1), end(1)})
			mustBe(t, "q"+s, []token{word("q"+s, 1), end(1)})
			mustFail(t, "7"+s, 1, api.ErrSyntax)
		case strings.Contains("0123456789", s):
			mustBe(t, s, []token{number(s, 1), end(1)})
			mustBe(t, "7"+s, []token{number("7"+s, 1), end(1)})
			mustFail(t, "q"+s, 1, api.ErrSyntax)
		case strings.Contains(" \t\r\n#", s):
			mustBe(t, s, nil)
			mustBe(t, "q"+s, []token{word("q", 1), end(1)})
			mustBe(t, "7"+s, []token{number("7", 1), end(1)})
		default:
			mustFail(t, s, 1, api.ErrSyntax)
			mustFail(t, "q"+s, 1, api.ErrSyntax)
			mustFail(t, "7"+s, 1, api.ErrSyntax)
			mustFail(t, "\nq\n 7 "+s, 3, api.ErrSyntax)
		}
	}
}

// B1: the line that is told is the first fault's.
func TestLineOfFault(t *testing.T) {
	mustFail(t, "a\nb5\n;\n", 2, api.ErrSyntax)
	mustFail(t, ";\na5", 1, api.ErrSyntax)
	mustFail(t, "\n\n\n5a", 4, api.ErrSyntax)
	mustFail(t, "a\r\n#;\n\n b -", 4, api.ErrSyntax)
	mustFail(t, strings.Repeat("\n", lex.Most-1)+";", lex.Most, api.ErrSyntax)
}

// B1: 65536 bytes, and one more.
func TestMost(t *testing.T) {
	long := strings.Repeat("a", lex.Most)
	mustBe(t, long, []token{word(long, 1), end(1)})
	mustBe(t, strings.Repeat("\n", lex.Most-1)+"5", []token{number("5", lex.Most), end(lex.Most)})
	many, line, err := lex.Lex([]byte(strings.Repeat("a\n", lex.Most/2)))
	if len(many) != lex.Most || line != 0 || err != api.OK {
		t.Errorf("%d tokens, %d %v", len(many), line, err)
	}
	for _, s := range []string{"a", "5", " ", "\n", "#", ";", "a\n"} {
		mustFail(t, strings.Repeat(s, lex.Most+1), 0, api.ErrFull)
	}
	// The size comes ahead of what the bytes are.
	mustFail(t, ";"+long, 0, api.ErrFull)
	mustFail(t, strings.Repeat("\n", lex.Most)+"x", 0, api.ErrFull)
	mustFail(t, strings.Repeat(";", lex.Most), 1, api.ErrSyntax)
}

// byLines tells the tokens another way: line by line, by patterns.
func byLines(s string) ([]token, int, api.Errno) {
	fault := regexp.MustCompile(`[^a-zA-Z0-9 \t\r]|[a-zA-Z][0-9]|[0-9][a-zA-Z]`)
	piece := regexp.MustCompile(`[a-zA-Z]+|[0-9]+`)
	var all []token
	for i, text := range strings.Split(s, "\n") {
		text, _, _ = strings.Cut(text, "#")
		if fault.MatchString(text) {
			return nil, i + 1, api.ErrSyntax
		}
		pieces := piece.FindAllString(text, -1)
		for _, p := range pieces {
			if p[0] <= '9' {
				all = append(all, number(p, i+1))
			} else {
				all = append(all, word(p, i+1))
			}
		}
		if len(pieces) > 0 {
			all = append(all, end(i+1))
		}
	}
	return all, 0, api.OK
}

// B1: every text of up to six bytes out of seven.
func TestAgainstPatterns(t *testing.T) {
	const bytesOf = "aZ5 #\n;"
	texts := []string{""}
	for from := 0; len(texts[from]) < 6; from++ {
		for _, c := range bytesOf {
			texts = append(texts, texts[from]+string(c))
		}
	}
	ok, bad := 0, 0
	for _, s := range texts {
		want, wantLine, wantErr := byLines(s)
		if wantErr == api.OK {
			ok++
			mustBe(t, s, want)
		} else {
			bad++
			mustFail(t, s, wantLine, wantErr)
		}
	}
	if ok == 0 || bad == 0 {
		t.Errorf("%d texts are well and %d are not: both kinds must be tried", ok, bad)
	}
}

// What follows of B1: spaces and comments do not matter, as long as they part the same.
func TestSpacesAndCommentsDoNotMatter(t *testing.T) {
	want := []token{word("slots", 1), number("4", 1), end(1), word("run", 2), end(2)}
	for _, s := range []string{
		"slots 4\nrun",
		"slots\t\t4 # four; 4x\r\nrun\n",
		"  slots \r 4#\n\trun # now\n# over\n\n",
	} {
		mustBe(t, s, want)
	}
}

// R1: what is handed in stays as it was, and is not kept.
func TestBytesAreNotKept(t *testing.T) {
	const s = "ab 12 # c\n d"
	b := []byte(s)
	got, _, _ := lex.Lex(b)
	if string(b) != s {
		t.Errorf("the bytes became %q", b)
	}
	copy(b, bytes.Repeat([]byte{'x'}, len(b)))
	want := []token{word("ab", 1), number("12", 1), end(1), word("d", 2), end(2)}
	if !slices.Equal(got, want) {
		t.Errorf("the tokens hang on the bytes: %v", got)
	}
	// Bytes behind the slice's end are none of it.
	whole := []byte("ab5;")
	if got, line, err := lex.Lex(whole[:2]); !slices.Equal(got, []token{word("ab", 1), end(1)}) || line != 0 || err != api.OK {
		t.Errorf("%v %d %v", got, line, err)
	}
}

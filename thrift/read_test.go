package thrift_test

import (
	"slices"
	"strings"
	"testing"

	"thrift/api"
	"thrift/thrift"
)

func wantRead(t *testing.T, text string, want nodes) {
	t.Helper()
	if g, line, e := thrift.Read(text); !slices.Equal(g, want) || line != 0 || e != api.OK {
		t.Errorf("P3: Read(%.60q) = %v, %d, %d, want %v", text, g, line, e, want)
	}
}

func wantRefused(t *testing.T, text string, wantLine int, want api.Errno) {
	t.Helper()
	if g, line, e := thrift.Read(text); len(g) != 0 || line != wantLine || e != want {
		t.Errorf("P3: Read(%.60q) = %v, %d, %d, want line %d and %d", text, g, line, e, wantLine, want)
	}
}

func TestReadGraph(t *testing.T) {
	example := nodes{in(0, 2, 3), turn(0, 3, 2), two(api.Times, 0, 1, 2, 2)}
	wantRead(t, "in 0 2 3\nturn 0\ntimes 0 1\n", example)
	wantRead(t, "in 0 2 3\nturn 0\ntimes 0 1", example)
	wantRead(t, "in 0 1 1", nodes{in(0, 1, 1)})
	wantRead(t, "in 7 4 4\n", nodes{in(7, 4, 4)})
	wantRead(t, "in 3 1 4\nin 3 1 4\nin 4 4 1\n", nodes{in(3, 1, 4), in(3, 1, 4), in(4, 4, 1)})
	wantRead(t, "fill 0 3 2\n", nodes{fill(0, 3, 2)})
	wantRead(t, "fill 1 2 2\nadd 0 0\nsub 0 1\nmul 2 1\nscale -3 3\n", nodes{
		fill(1, 2, 2), two(api.Add, 0, 0, 2, 2), two(api.Sub, 0, 1, 2, 2), two(api.Mul, 2, 1, 2, 2), scale(-3, 3, 2, 2)})
	wantRead(t, "in 1 1 4\nin 2 4 1\ntimes 1 0\ntimes 0 1\n", nodes{
		in(1, 1, 4), in(2, 4, 1), two(api.Times, 1, 0, 4, 4), two(api.Times, 0, 1, 1, 1)})
}

func TestReadNumbersThatJustFit(t *testing.T) {
	wantRead(t, "fill 9223372036854775807 1 1\n", nodes{fill(greatest, 1, 1)})
	wantRead(t, "fill -9223372036854775808 1 1\nscale -9223372036854775808 0\nscale 9223372036854775807 1\n", nodes{
		fill(least, 1, 1), scale(least, 0, 1, 1), scale(greatest, 1, 1, 1)})
	for _, number := range []string{"9223372036854775807", "-9223372036854775808"} {
		wantRefused(t, "in "+number+" 1 1", 0, api.ErrShape)
		wantRefused(t, "in 0 "+number+" 1", 0, api.ErrShape)
		wantRefused(t, "fill 0 1 "+number, 0, api.ErrShape)
		wantRefused(t, "in 0 1 1\nturn "+number, 1, api.ErrShape)
		wantRefused(t, "in 0 1 1\nadd 0 "+number, 1, api.ErrShape)
		wantRefused(t, "in 0 1 1\nscale 0 "+number, 1, api.ErrShape)
	}
}

func TestReadNumbersThatDoNotFit(t *testing.T) {
	for _, number := range []string{"9223372036854775808", "-9223372036854775809", "18446744073709551616", "18446744073709551617", "1" + strings.Repeat("0", 3000)} {
		for _, line := range []string{"in N 1 1", "in 0 N 1", "in 0 1 N", "fill N 1 1", "scale N 0", "scale 0 N", "turn N", "add N 0", "times 0 N"} {
			wantRefused(t, "in 0 1 1\n"+strings.Replace(line, "N", number, 1), 1, api.ErrSyntax)
		}
	}
}

func TestReadNoLine(t *testing.T) {
	for _, line := range []string{
		"", " ", "in", "in ", "in 0", "in 0 1", "in 0 1 ", "in 0 1 1 ", "in 0 1 1 1", " in 0 1 1", "in  0 1 1", "in 0 1  1", "in\t0 1 1", "in 0 1 1\r", "in 0 1 1\x00", "in 0 1 1\xff", "in 0 1 １",
		"In 0 1 1", "IN 0 1 1", "inn 0 1 1", "i 0 1 1", "0 0 1 1", "0 1 1", "neg 0", "1 0 1 1", "in,0,1,1", "# in 0 1 1",
		"fill", "fill 1", "fill 1 1", "fill 1 1 1 1", "add", "add 0", "add 0 0 0", "sub 0", "sub 0 0 0", "mul 0", "mul 0 0 0", "times 0", "times 0 0 0", "scale 0", "scale 0 0 0", "turn", "turn 0 0",
		"fill 00 1 1", "fill 01 1 1", "fill -0 1 1", "fill -01 1 1", "fill - 1 1", "fill --1 1 1", "fill +1 1 1", "fill +0 1 1", "fill 1- 1 1", "fill 1a 1 1", "fill 0x1 1 1", "fill 1_0 1 1", "fill 1.0 1 1", "fill 1e0 1 1", "fill x 1 1", "fill 1 01 1", "fill 1 1 +1", "scale 1 -0", "turn 00", "add 0 00",
	} {
		wantRefused(t, line+"\n", 0, api.ErrSyntax)
		wantRefused(t, "in 0 1 1\n"+line+"\n", 1, api.ErrSyntax)
		wantRefused(t, "in 0 1 1\n"+line+"\nin 0 1 1\nx", 1, api.ErrSyntax)
	}
	wantRefused(t, "", 0, api.ErrSyntax)
	wantRefused(t, "\n", 0, api.ErrSyntax)
	wantRefused(t, "in 0 1 1\n\n", 1, api.ErrSyntax)
	wantRefused(t, "in 0 1 1\n ", 1, api.ErrSyntax)
}

func TestReadBounds(t *testing.T) {
	wantRefused(t, strings.Repeat("x", api.MaxText), 0, api.ErrSyntax)
	wantRefused(t, strings.Repeat("x", api.MaxText+1), 0, api.ErrLong)
	wantRefused(t, strings.Repeat("\n", api.MaxText), 0, api.ErrSyntax)
	wantRefused(t, strings.Repeat("\n", api.MaxText+1), 0, api.ErrLong)
	wantRefused(t, strings.Repeat("in 0 1 1\n", 1000000), 0, api.ErrLong)
	wide := strings.Repeat("in 0 1 9000000000000000000000000000\n", 200)[:api.MaxText]
	wantRefused(t, wide, 0, api.ErrSyntax)
	wantRefused(t, wide+"\n", 0, api.ErrLong)

	shapes := strings.Repeat("add 9223372036854775807 922337203685477\n", 100)
	if len(shapes) != api.MaxText {
		t.Fatalf("a text of %d bytes was to have %d", len(shapes), api.MaxText)
	}
	wantRefused(t, shapes, 0, api.ErrShape)
	wantRefused(t, shapes+"\n", 0, api.ErrLong)

	hundred := strings.Repeat("in 0 1 1\n", 100)
	wantRead(t, hundred, slices.Repeat(nodes{in(0, 1, 1)}, 100))
	wantRead(t, strings.TrimSuffix(hundred, "\n"), slices.Repeat(nodes{in(0, 1, 1)}, 100))
	wantRefused(t, hundred+"in 0 1 1", 100, api.ErrSyntax)
	wantRefused(t, hundred+"in 0 1 1\nx", 100, api.ErrSyntax)
	wantRefused(t, hundred+"\n", 100, api.ErrSyntax)
	wantRefused(t, hundred+"turn 100", 100, api.ErrSyntax)
	wantRefused(t, hundred[:99*9]+"x\nin 0 1 1\n", 99, api.ErrSyntax)
	wantRefused(t, hundred[:98*9]+"turn 99\nturn 99\n", 98, api.ErrShape)
	wantRead(t, hundred[:99*9]+"turn 98\n", append(slices.Repeat(nodes{in(0, 1, 1)}, 99), turn(98, 1, 1)))
}

func TestReadShapes(t *testing.T) {
	for _, text := range []string{
		"turn N", "scale 1 N", "add N 0", "add 0 N", "sub N 0", "sub 0 N", "mul N 0", "mul 0 N", "times N 0", "times 0 N",
	} {
		for _, place := range []string{"2", "3", "99", "-1"} {
			wantRefused(t, "in 0 1 1\nin 0 1 1\n"+strings.Replace(text, "N", place, 1)+"\nin 0 1 1", 2, api.ErrShape)
		}
	}
	for _, text := range []string{
		"turn 0", "scale 0 0", "add 0 0", "times 0 0",
		"in 8 1 1", "in -1 1 1", "in 0 0 1", "in 0 1 0", "in 0 5 1", "in 0 1 5", "in 0 -1 1", "in 0 1 -1",
		"fill 0 0 1", "fill 0 1 0", "fill 0 5 1", "fill 0 1 5", "fill 0 -1 -1", "fill 0 0 0",
	} {
		wantRefused(t, text, 0, api.ErrShape)
	}
	for _, text := range []string{"add 0 1", "sub 1 0", "mul 0 1", "times 0 0", "times 1 1", "in 0 3 2", "in 0 2 2", "in 1 2 3"} {
		wantRefused(t, "in 0 2 3\nin 1 3 2\n"+text+"\nturn 9", 2, api.ErrShape)
	}
	wantRefused(t, "in 0 2 3\nin 1 3 2\nturn 0\nadd 0 2", 3, api.ErrShape)
	wantRefused(t, "in 0 2 3\nin 1 3 2\nin 0 2 3\nin 1 3 2\nin 0 3 3", 4, api.ErrShape)
}

func TestReadSyntaxAheadOfShape(t *testing.T) {
	wantRefused(t, "turn 0\nx", 1, api.ErrSyntax)
	wantRefused(t, "in 9 9 9\nturn 7\nin 0 1 1\n\n", 3, api.ErrSyntax)
	wantRefused(t, "turn 0\nfill 9223372036854775808 1 1\nx", 1, api.ErrSyntax)
	wantRefused(t, "turn 0\n"+strings.Repeat("in 0 1 1\n", 100), 100, api.ErrSyntax)
}

// TestReadAgainstForms holds Read against a second reader, at texts that are right or spoilt in a place or two.
func TestReadAgainstForms(t *testing.T) {
	r := fixed()
	for range 20000 {
		text, _ := thrift.Print(anyGraph(r, 1+r.IntN(12)))
		for range r.IntN(3) {
			at := r.IntN(len(text))
			text = text[:at] + pick(r, "", " ", "\n", "-", "0", "1", "9", "x", "+", "in 0 1 1\n", "99999999999999999999") + text[at+r.IntN(2):]
			text = text[:max(1, len(text)-r.IntN(2))]
		}
		want, wantLine, wantErrno := readByForms(text)
		if g, line, e := thrift.Read(text); !slices.Equal(g, want) || line != wantLine || e != wantErrno {
			t.Fatalf("P3: Read(%q) = %v, %d, %d, want %v, %d, %d", text, g, line, e, want, wantLine, wantErrno)
		}
	}
}

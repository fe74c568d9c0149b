package safe

import (
	"slices"
	"strings"
	"testing"

	"pollard/api"
	"pollard/disk"
)

func files(d *disk.Disk) []string {
	var out []string
	for _, name := range d.Names() {
		b, _ := d.Read(name)
		out = append(out, name+"="+string(b))
	}
	return out
}

func TestWrite(t *testing.T) {
	d := disk.New(20)
	for _, text := range []string{"abc", "", "another"} {
		if err := Write(d, "temp", "x", []byte(text)); err != api.OK {
			t.Fatalf("Write answers %d", err)
		}
		if got := files(d); !slices.Equal(got, []string{"x=" + text}) {
			t.Fatalf("the disk has %q", got)
		}
	}
}

// What a write that failed has left under the temporary name hinders no other one.
func TestWriteAfterFailure(t *testing.T) {
	d := disk.New(5)
	if err := Write(d, "temp", "x", []byte("123456")); err != api.ErrRoom {
		t.Fatalf("Write answers %d", err)
	}
	if got := files(d); !slices.Equal(got, []string{"temp="}) {
		t.Fatalf("the disk has %q", got)
	}
	d.Append("temp", []byte("abcde"))
	if err := Write(d, "temp", "x", []byte("12345")); err != api.OK {
		t.Fatalf("Write answers %d", err)
	}
	if got := files(d); !slices.Equal(got, []string{"x=12345"}) {
		t.Fatalf("the disk has %q", got)
	}
}

// The first error of a step is returned.
func TestWriteErrors(t *testing.T) {
	long := strings.Repeat("n", 101)
	for _, c := range []struct {
		temp, name string
		want       api.Errno
	}{{"", "x", api.ErrArg}, {"temp", "", api.ErrArg}, {"temp", long, api.ErrArg}, {long, "x", api.ErrArg}} {
		if err := Write(disk.New(5), c.temp, c.name, nil); err != c.want {
			t.Errorf("Write to %q by %q answers %d", c.name, c.temp, err)
		}
	}
}

// Whenever the power fails, and whatever is kept then, the name refers to all old bytes or to all new ones.
func TestWriteAndPower(t *testing.T) {
	for fail := 1; fail <= 7; fail++ {
		for turns := range 6 {
			for keep := range 5 {
				d := disk.New(20)
				Write(d, "temp", "x", []byte("old"))
				d.Flush()
				d.Create("temp")
				d.Fail(fail)
				err := Write(d, "temp", "x", []byte("newer"))
				if (err == api.OK) != (fail > 5) {
					t.Errorf("fail %d: Write answers %d", fail, err)
				}
				d.Crash(turns, []int{keep, keep})
				b, _ := d.Read("x")
				if s := string(b); s != "old" && s != "newer" || s == "newer" && err != api.OK {
					t.Errorf("fail %d, turns %d, keep %d: %q", fail, turns, keep, s)
				}
			}
		}
	}
}

package tests

import (
	"encoding/json"
	"os"
	"os/exec"
	"path/filepath"
	"strings"
	"testing"
)

// runForged lays files of testdata beside those of package impl for one run of the go tool.
func runForged(t *testing.T, pattern string, names ...string) {
	t.Helper()
	root, err := filepath.Abs("..")
	if err != nil {
		t.Fatal(err)
	}
	program, err := os.ReadFile(filepath.Join(root, "impl", "l13_conn.go"))
	if err != nil || !strings.Contains(string(program), "type endpoint struct") {
		t.Skip("the ends are built in another way")
	}
	laid := map[string]string{}
	for _, name := range names {
		laid[filepath.Join(root, "impl", name+"_test.go")] = filepath.Join(root, "tests", "testdata", name+".go.txt")
	}
	overlay, _ := json.Marshal(map[string]map[string]string{"Replace": laid})
	file := filepath.Join(t.TempDir(), "overlay.json")
	if err := os.WriteFile(file, overlay, 0o600); err != nil {
		t.Fatal(err)
	}
	command := exec.Command("go", "test", "-count=1", "-run", pattern, "-overlay", file, "./impl")
	command.Dir = root
	if out, err := command.CombinedOutput(); err != nil {
		t.Errorf("%v\n%s", err, out)
	}
}

// Over the network of a run the ends hear nothing but what they have sent each other, and a spoilt byte does not open: no run brings an
// end a hello of the wrong side, a check that is not right or a frame that may not be. So those are forged, with the ends' own keys,
// within the package.
func TestP17ForgedPackets(t *testing.T) { runForged(t, "TestForged", "forged_conn") }

// In a world no stream of the connection is cut and no end of the talk meets an error: that too is brought about within the package.
func TestP24ForgedStreams(t *testing.T) {
	runForged(t, "TestForgedWorld", "forged_conn", "forged_world")
}

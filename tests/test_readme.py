"""The code in README.md runs, and gives what its comments tell."""

import pathlib
import re
import unittest

README = pathlib.Path(__file__).resolve().parent.parent / "README.md"


class Readme(unittest.TestCase):
    def test_the_code_gives_what_its_comments_tell(self):
        names, told_values = {}, 0
        for block in re.findall(r"```python\n(.*?)```", README.read_text(encoding="utf-8"), re.S):
            lines = []
            for line in block.split("\n"):
                found = re.match(r"^(\S.*?)\s+# (.*)$", line)
                if not found or re.match(r"with |[a-z]+ = ", line):
                    lines.append(line)
                    continue
                exec("\n".join(lines), names)
                lines = []
                with self.subTest(line=line):
                    self.assertIn(repr(eval(found[1], names)), (found[2], found[2].split(":")[0]))
                told_values += 1
            exec("\n".join(lines), names)
        self.assertGreater(told_values, 30)


if __name__ == "__main__":
    unittest.main()
